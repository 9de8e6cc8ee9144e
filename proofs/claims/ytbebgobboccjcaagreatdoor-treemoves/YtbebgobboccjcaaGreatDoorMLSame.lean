/- dolmenref5.Ints and Same of what is the same; tree.Reads. -/
import Derived.Test.YtbebgobboccjcaaGreatDoorG1
import Derived.Test.YtbebgobboccjcaaGreatDoorG2
namespace Go.Proofs.YtbebgobboccjcaaGreatDoor
open Go.RowKit Kit
set_option linter.unusedVariables false

set_option maxRecDepth 4000 in
set_option maxHeartbeats 2000000 in
theorem ints_same (x y : Value) (l : List Int) (w : World) (hx : Sees w x (intsV .i64 l)) (hy : Sees w y (intsV .i64 l)) :
    Calls Tryz.prog 27 #[x, y] w fun e w' => e = .returned (.bool true) ∧ Below w.heap.size w w' := by
  obtain ⟨ao, cap, rfl, h1, h2, h3, h4⟩ := hx
  obtain ⟨bo, cap', rfl, g1, g2, g3, g4⟩ := hy
  simp only [intsV_len] at *
  have hm : (l.length : Int) ≤ 9223372036854775807 := by unfold maxLen at h2; omega
  have H4 : Hid (_ → _) := h4
  have G4 : Hid (_ → _) := g4
  clear h1 h2 h3 g1 g2 g3 h4 g4
  go_enter Tryz.func27, Tryz.ntmps27
  go_wp2
  go_loopw [5] (fun i wr => ∃ k : Nat, k ≤ l.length ∧ i = .int .i64 (k : Int) ∧ Hid (Below w.heap.size w wr)) (fun i _ => l.length - (intOf i).toNat)
  case atStart => exact ⟨0, Nat.zero_le _, rfl, Below.refl _ _⟩
  case round =>
    obtain ⟨k, hk, rfl, HB⟩ := hrel
    by_cases hlt : k < l.length
    · obtain ⟨b, off, rfl, hbl, hc⟩ := H4.out (by omega)
      obtain ⟨b', off', rfl, hbl', hc'⟩ := G4.out (by omega)
      have c0 := (HB.out.cell (by exact hbl)).trans (hc k _ (intsV_at .i64 l k hlt))
      have c1 := (HB.out.cell (by exact hbl')).trans (hc' k _ (intsV_at .i64 l k hlt))
      have i0 : (k : Int) < (l.length : Int) := by omega
      have i2 : (0 : Int) ≤ (k : Int) := by omega
      clear hc hc' hbl hbl'
      go_wp2
      go_region
      go_wp2
      go_roundw
      case rel => exact ⟨k + 1, by omega, by simp, HB.out.drew⟩
      case measure => simp [intOf]; omega
    · have i0 : ¬ (k : Int) < (l.length : Int) := by omega
      go_wp2
      go_ret
      exact ⟨rfl, HB.out⟩
set_option maxRecDepth 4000 in
theorem treads_any (k : Int) (w : World) : Calls Tryz.prog 20 #[.int .i64 k] w fun e w' => e = .returned (.bool (readsB k)) ∧ w' = w := by
  unfold readsB
  by_cases h7 : k = 7
  · subst h7
    go_enter Tryz.func20, Tryz.ntmps20
    go_wp2
    go_ret
    exact ⟨rfl, rfl⟩
  have b7 : (k == 7) = false := beq_eq_false_iff_ne.2 h7
  by_cases h10 : k = 10
  · subst h10
    go_enter Tryz.func20, Tryz.ntmps20
    go_wp2
    go_ret
    exact ⟨rfl, rfl⟩
  have b10 : (k == 10) = false := beq_eq_false_iff_ne.2 h10
  rw [b7, b10]
  clear h7 h10
  go_enter Tryz.func20, Tryz.ntmps20
  go_wp2
  go_ret
  exact ⟨by first | rfl | simp, rfl⟩
theorem bel_newT (w : World) (o : Obj) : Below w.heap.size w (w.alloc o) := (Below.refl _ _).alloc (Nat.le_refl _) _
theorem str_same (a : ByteArray) : (a.toList == a.toList) = true := beq_self_eq_true _
theorem sees_vwT {w : World} {v : Value} {k : IntKind} {zs : List Int} (h : Sees w v (intsV k zs)) : Vw w.heap.size w k v zs := by
  obtain ⟨ao, cap, h1, h2, h3, h4, h5⟩ := h
  rw [intsV_len] at h1 h2 h5
  rcases Nat.eq_zero_or_pos zs.length with h0 | h0
  · have : zs = [] := List.length_eq_zero_iff.1 h0
    subst this
    exact .inl ⟨rfl, ao, cap, h1, h4, h3⟩
  · obtain ⟨b, off, e, hb, hh⟩ := h5 h0
    subst e
    refine .inr ⟨h0, b, off, cap, h1, h2, h3, hb, fun i hi => hh i _ ?_⟩
    unfold intsV
    rw [List.getElem?_map, List.getElem?_eq_getElem hi, List.getD_eq_getElem?_getD, List.getElem?_eq_getElem hi]
    rfl
/-- What Same holds while it goes on: both boxes stand. -/
def SmKeep (w wr : World) (a b : Value) (nx : Value) : Prop := wr.heap[w.heap.size]? = some (.cells #[a, nx] 29) ∧ wr.heap[w.heap.size + 1]? = some (.cells #[b, nx] 29) ∧ Below w.heap.size w wr
theorem cell_oldT {w w' : World} {a : Addr} {v : Value} (hb : Below w.heap.size w w') (h : w.cell? a = some v) : w'.cell? a = some v := (hb.cell (cell_lt h)).trans h
theorem SmKeep.below {w wr w' : World} {a b nx : Value} (h : SmKeep w wr a b nx) (hb : Below wr.heap.size wr w') : SmKeep w w' a b nx := ⟨(hb.block _ (Array.getElem?_eq_some_iff.1 h.1).1).trans h.1, (hb.block _ (Array.getElem?_eq_some_iff.1 h.2.1).1).trans h.2.1, h.2.2.trans (hb.mono h.2.2.size)⟩
theorem SmKeep.below2 {w wr : World} {a b nx : Value} (h : SmKeep w wr a b nx) (o o2 : Obj) : SmKeep w ((wr.alloc o).alloc o2) a b nx := (h.below (bel_newT _ o)).below (bel_newT _ o2)
theorem nodeAt_memT {t : TreeB} {k : Nat} (hk : k < t.nodes.length) : nodeAt t k ∈ t.nodes := by
  unfold nodeAt
  rw [List.getD_eq_getElem?_getD, List.getElem?_eq_getElem hk]
  exact List.getElem_mem hk
set_option maxRecDepth 4000 in
set_option maxHeartbeats 8000000 in
theorem tsame_any (va vb : Value) (t : TreeB) (w : World) (ha : TreeAt w va t) (hb : TreeAt w vb t) (hk : ∀ n ∈ t.nodes, n.kind = 1 ∨ n.kind = 2) (hl : t.nodes.length ≤ 60) : Calls Tryz.prog 12 #[va, vb] w fun e w' => e = .returned (.bool true) ∧ Below w.heap.size w w' := by
  obtain ⟨ao, cap, fs, rfl, q1, q2, q3, q4, q5⟩ := ha.opened
  obtain ⟨bo, cap2, gs, rfl, p1, p2, p3, p4, p5⟩ := hb.opened
  have hfl := fs_len q3
  have hgl := fs_len p3
  have HF : Hid (fs.map FN.n = t.nodes ∧ (∀ f ∈ fs, f.is w) ∧ gs.map FN.n = t.nodes ∧ (∀ f ∈ gs, f.is w) ∧ fs.length = t.nodes.length ∧ gs.length = t.nodes.length) := ⟨q3, q4, p3, p4, hfl, hgl⟩
  have HQ5 : Hid (_ → _) := q5
  have HP5 : Hid (_ → _) := p5
  have HKd : Hid (∀ n ∈ t.nodes, n.kind = 1 ∨ n.kind = 2) := hk
  have lm : (t.nodes.length : Int) ≤ 60 := by omega
  obtain ⟨W, hW⟩ : ∃ z, z = (w.alloc (.cells #[.slice ao t.nodes.length cap, .int .i64 t.next] 29)).alloc (.cells #[.slice bo t.nodes.length cap2, .int .i64 t.next] 29) := ⟨_, rfl⟩
  have HW : Hid (SmKeep w W (.slice ao t.nodes.length cap) (.slice bo t.nodes.length cap2) (.int .i64 t.next)) := by
    refine ⟨?_, ?_, ?_⟩
    · rw [hW]; exact ((bel_newT _ _).block _ (by simp)).trans (MapKept.heap_alloc w _).1
    · rw [hW]
      have h1 := (MapKept.heap_alloc (w.alloc (.cells #[.slice ao t.nodes.length cap, .int .i64 t.next] 29)) (.cells #[.slice bo t.nodes.length cap2, .int .i64 t.next] 29)).1
      have h2 : (w.alloc (.cells #[.slice ao t.nodes.length cap, .int .i64 t.next] 29)).heap.size = w.heap.size + 1 := by simp
      rw [h2] at h1
      exact h1
    · rw [hW]; exact ((Below.refl _ _).alloc (Nat.le_refl _) _).alloc (by simp) _
  clear q1 q2 q3 q4 q5 p1 p2 p3 p4 p5 ha hb hk hfl hgl hl
  go_enter Tryz.func12, Tryz.ntmps12
  go_wp2_with fail
  rw [← hW]
  clear hW
  go_loopw [5] (fun s5 wr => ∃ k : Nat, k ≤ t.nodes.length ∧ s5 = .int .i64 (k : Int) ∧ Hid (SmKeep w wr (.slice ao t.nodes.length cap) (.slice bo t.nodes.length cap2) (.int .i64 t.next))) (fun s5 _ => t.nodes.length - (intOf s5).toNat)
  case atStart => exact ⟨0, Nat.zero_le _, rfl, HW⟩
  case round =>
    obtain ⟨k, hkk, rfl, HS⟩ := hrel
    have x0 : wr.cell? ⟨w.heap.size, 0, none⟩ = some (.slice ao t.nodes.length cap) := by simp [World.cell?, HS.out.1]
    have y0 : wr.cell? ⟨w.heap.size + 1, 0, none⟩ = some (.slice bo t.nodes.length cap2) := by simp [World.cell?, HS.out.2.1]
    have xl : w.heap.size < wr.heap.size := (Array.getElem?_eq_some_iff.1 HS.out.1).1
    have yl : w.heap.size + 1 < wr.heap.size := (Array.getElem?_eq_some_iff.1 HS.out.2.1).1
    by_cases hlt : k < t.nodes.length
    · have kl : (k : Int) < (t.nodes.length : Int) := by omega
      obtain ⟨b1, o1, rfl, hb1, hc1⟩ := HQ5.out (by omega)
      obtain ⟨b2, o2, rfl, hb2, hc2⟩ := HP5.out (by omega)
      have hk1 : k < fs.length := by have := HF.out.2.2.2.2.1; omega
      have hk2 : k < gs.length := by have := HF.out.2.2.2.2.2; omega
      have a1 := (hc1 k hk1).below hb1 HS.out.2.2
      have a2 := (hc2 k hk2).below hb2 HS.out.2.2
      have f1 := (HF.out.2.1 _ (List.getElem_mem hk1)).below HS.out.2.2
      have f2 := (HF.out.2.2.2.1 _ (List.getElem_mem hk2)).below HS.out.2.2
      have n1 := fs_at HF.out.1 hk1
      have n2 := fs_at HF.out.2.2.1 hk2
      obtain ⟨f, hf⟩ : ∃ f, fs[k] = f := ⟨_, rfl⟩
      obtain ⟨g, hg⟩ : ∃ g, gs[k] = g := ⟨_, rfl⟩
      rw [hf] at a1 f1 n1
      rw [hg] at a2 f2 n2
      have hkd : (nodeAt t k).kind = 1 ∨ (nodeAt t k).kind = 2 := HKd.out _ (nodeAt_memT hlt)
      obtain ⟨nd, hnd⟩ : ∃ nd, nodeAt t k = nd := ⟨_, rfl⟩
      rw [hnd] at n1 n2 hkd
      obtain ⟨nf, df, mf, jf⟩ := f
      obtain ⟨ng, dg, mg, jg⟩ := g
      simp only at n1 n2
      subst n1 n2
      obtain ⟨ad1, cd1, e1, _⟩ := id f1.1
      obtain ⟨am1, cm1, e2, _⟩ := id f1.2.1
      obtain ⟨ai1, ci1, e3, _⟩ := id f1.2.2
      obtain ⟨ad2, cd2, e4, _⟩ := id f2.1
      obtain ⟨am2, cm2, e5, _⟩ := id f2.2.1
      obtain ⟨ai2, ci2, e6, _⟩ := id f2.2.2
      simp only [intsV_len, strs_len] at e1 e2 e3 e4 e5 e6
      subst e1 e2 e3 e4 e5 e6
      have F1 : Hid (FN.is wr ⟨nd, .slice ad1 nd.data.length cd1, .slice am1 nd.names.length cm1, .slice ai1 nd.inos.length ci1⟩) := f1
      have F2 : Hid (FN.is wr ⟨nd, .slice ad2 nd.data.length cd2, .slice am2 nd.names.length cm2, .slice ai2 nd.inos.length ci2⟩) := f2
      obtain ⟨u0, u1', u2', u3', u4'⟩ := a1
      obtain ⟨t0', t1', t2', t3', t4'⟩ := a2
      simp only at u0 u1' u2' u3' u4' t0' t1' t2' t3' t4'
      have i2 : (0 : Int) ≤ (k : Int) := by omega
      have l1 : b1 < wr.heap.size := by omega
      have l2 : b2 < wr.heap.size := by omega
      clear hc1 hc2 hf hg hnd f1 f2
      rcases hkd with hkd | hkd
      · have hd2 : (nd.kind == 2) = false := by rw [hkd]; rfl
        have hd1 : (nd.kind == 1) = true := by rw [hkd]; rfl
        have hcv := @conv_view Tryz.prog 33 9 5 Tryz.underlying33 Tryz.underlying5 Tryz.underlying9
        have hc1 : ∀ o o2 : Obj, (convert 33 9 (.slice ad1 nd.data.length cd1)).run Tryz.prog ((wr.alloc o).alloc o2) = .ok (.string (strOf nd.data)) ((wr.alloc o).alloc o2) := fun o o2 => hcv (sees_vwT ((F1.out.1.below (bel_newT _ o)).below (bel_newT _ o2)))
        have hc2 : ∀ o o2 : Obj, (convert 33 9 (.slice ad2 nd.data.length cd2)).run Tryz.prog ((wr.alloc o).alloc o2) = .ok (.string (strOf nd.data)) ((wr.alloc o).alloc o2) := fun o o2 => hcv (sees_vwT ((F2.out.1.below (bel_newT _ o)).below (bel_newT _ o2)))
        have hss := str_same (strOf nd.data)
        clear hcv F1 F2
        go_wp2
        go_round
        case rel => exact ⟨k + 1, by omega, by go_num, HS.out.below2 _ _⟩
        case measure => simp [intOf]; omega
      · have hd2 : (nd.kind == 2) = true := by rw [hkd]; rfl
        have hd1 : (nd.kind == 1) = false := by rw [hkd]; rfl
        have HTx : Hid (∀ o o2 : Obj, Calls Tryz.prog 26 #[.slice am1 nd.names.length cm1, .slice am2 nd.names.length cm2] ((wr.alloc o).alloc o2) fun e w' => e = .returned (.bool true) ∧ Below ((wr.alloc o).alloc o2).heap.size ((wr.alloc o).alloc o2) w') := fun o o2 => by
          have := texts_any _ _ nd.names nd.names ((wr.alloc o).alloc o2) ((F1.out.2.1.below (bel_newT _ o)).below (bel_newT _ o2)) ((F2.out.2.1.below (bel_newT _ o)).below (bel_newT _ o2))
          rw [decide_eq_true rfl] at this
          exact this
        have HIx : Hid (∀ w3, Below wr.heap.size wr w3 → Calls Tryz.prog 27 #[.slice ai1 nd.inos.length ci1, .slice ai2 nd.inos.length ci2] w3 fun e w' => e = .returned (.bool true) ∧ Below w3.heap.size w3 w') := fun w3 hb3 => ints_same _ _ nd.inos w3 (F1.out.2.2.below hb3) (F2.out.2.2.below hb3)
        clear F1 F2
        go_wp2_with fail
        go_at_call 26
        refine (HTx.out _ _).mono ?_
        rintro e w3 ⟨rfl, hb3⟩
        have v7 : w3.cell? ⟨wr.heap.size, 4, none⟩ = some (.slice ai1 nd.inos.length ci1) := cell_oldT hb3 (by simp)
        have v8 : w3.cell? ⟨wr.heap.size + 1, 4, none⟩ = some (.slice ai2 nd.inos.length ci2) := cell_oldT hb3 (by simp)
        have HB3 : Hid (Below wr.heap.size wr w3) := ((bel_newT wr _).trans ((bel_newT _ _).mono (by simp))).trans (hb3.mono (by simp; omega))
        clear hb3 HTx
        go_wp2_with fail
        go_at_call 27
        refine (HIx.out _ HB3.out).mono ?_
        rintro e w4 ⟨rfl, hb4⟩
        have HS4 : Hid (SmKeep w w4 (.slice (some ⟨b1, o1, none⟩) t.nodes.length cap) (.slice (some ⟨b2, o2, none⟩) t.nodes.length cap2) (.int .i64 t.next)) := (HS.out.below HB3.out).below hb4
        clear hb4 HB3 HIx
        go_wp2
        go_round
        case rel => exact ⟨k + 1, by omega, by go_num, HS4⟩
        case measure => simp [intOf]; omega
    · have kl : ¬ (k : Int) < (t.nodes.length : Int) := by omega
      go_wp2
      go_ret
      exact ⟨rfl, HS.out.2.2⟩
end Go.Proofs.YtbebgobboccjcaaGreatDoor
