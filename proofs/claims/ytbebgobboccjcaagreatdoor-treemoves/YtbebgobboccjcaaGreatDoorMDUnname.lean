/- unname: a name is taken away. -/
import Derived.Test.YtbebgobboccjcaaGreatDoorG3
namespace Go.Proofs.YtbebgobboccjcaaGreatDoor
open Go.RowKit Kit
set_option linter.unusedVariables false

/-- A name is taken away, and with the last one its inode. -/
def unnameB (t : TreeB) (d : Nat) (s : ByteArray) : TreeB :=
  if linksD (setB t d (withoutB (nodeAt t d) s)) (nameB (nodeAt t d) s) = 0 then ⟨(setB t d (withoutB (nodeAt t d) s)).nodes.filter (fun n => !(n.ino == nameB (nodeAt t d) s)), t.next⟩ else setB t d (withoutB (nodeAt t d) s)
theorem fair_set {t : TreeB} (h : Fair t) {d : Nat} (hd : d < t.nodes.length) {n : NodeB} (hi : n.ino = (nodeAt t d).ino) (hk : n.kind = (nodeAt t d).kind) (ok : NodeOK n) (hl : ∀ i ∈ n.inos, i ≠ 1 ∧ ∃ m ∈ t.nodes, m.ino = i) (hn : n.names.length ≤ 10000) : Fair (setB t d n) := by
  have hr0 := h.root0
  refine ⟨?_, by rw [set_len]; exact h.size, h.next, ?_, fun m hm => ?_, fun m hm => ?_, fun m hm i hmi => ?_, fun m hm => ?_⟩
  · have hl0 : 0 < (setB t d n).nodes.length := by rw [set_len]; exact hr0.1
    obtain ⟨r, l, e⟩ : ∃ r l, (setB t d n).nodes = r :: l := by
      cases hx : (setB t d n).nodes with
      | nil => rw [hx] at hl0; simp at hl0
      | cons r l => exact ⟨r, l, rfl⟩
    have e2 : nodeAt (setB t d n) 0 = r := by unfold nodeAt; rw [e]; rfl
    refine ⟨r, l, e, ?_, ?_⟩
    · rw [← e2]
      by_cases c : d = 0
      · subst c; rw [set_at hd, hi]; exact hr0.2.1
      · rw [set_at_ne c]; exact hr0.2.1
    · rw [← e2]
      by_cases c : d = 0
      · subst c; rw [set_at hd, hk]; exact hr0.2.2
      · rw [set_at_ne c]; exact hr0.2.2
  · rw [rises_map, set_inos hd hi, ← rises_map]; exact h.rise
  · rcases set_mem hm with e | e
    · exact h.below m e
    · rw [e, hi]; exact h.below _ (nodeAt_mem hd)
  · rcases set_mem hm with e | e
    · exact h.each m e
    · rw [e]; exact ok
  · have : i ≠ 1 ∧ ∃ m ∈ t.nodes, m.ino = i := by
      rcases set_mem hm with e | e
      · exact h.leads m e i hmi
      · subst e; exact hl i hmi
    exact ⟨this.1, (set_has hd hi i).2 this.2⟩
  · rcases set_mem hm with e | e
    · exact h.names m e
    · rw [e]; exact hn
theorem without_len {n : NodeB} (s : ByteArray) : (withoutB n s).names.length ≤ n.names.length := by
  unfold withoutB
  simp only
  rw [List.length_map]
  refine Nat.le_trans (List.length_filter_le _ _) ?_
  unfold pairsB
  rw [List.length_zip]; omega
theorem fair_without {t : TreeB} (h : Fair t) {d : Nat} (hd : d < t.nodes.length) (hk : (nodeAt t d).kind = 2) (s : ByteArray) : Fair (setB t d (withoutB (nodeAt t d) s)) :=
  fair_set h hd rfl rfl (without_ok (h.each _ (nodeAt_mem hd)) hk s) (fun i hi => h.leads _ (nodeAt_mem hd) i (without_sub hi)) (Nat.le_trans (without_len s) (h.names _ (nodeAt_mem hd)))
theorem RowS.shape {w : World} {base : Nat} {v : Value} {ps : List (ByteArray × Int)} (h : RowS w base v ps) : ∃ ao cap, v = .slice ao ps.length cap ∧ (∀ a, ao = some a → base ≤ a.block) := by
  unfold RowS at h
  rcases h.2 with ⟨h1, h2⟩ | ⟨g, cap, cur, hv, hg, _⟩
  · exact ⟨none, 0, by rw [h2]; exact h1, fun a e => by cases e⟩
  · exact ⟨some ⟨g, 0, none⟩, cap, hv, fun a e => by injection e with e; subst e; exact hg⟩
theorem seesS_set' {w : World} {ao : Option Addr} {m cap B : Nat} {ps : List (ByteArray × Int)} {v : Value} (h : SeesS w (.slice ao m cap) ps) (hne : ∀ a, ao = some a → a.block ≠ B) (o : Nat) : SeesS (w.setCell ⟨B, o, none⟩ v) (.slice ao m cap) ps := by
  obtain ⟨a0, c, e, h1, h2, h3, h4⟩ := h
  injection e with e1 e2 e3
  subst e1 e3
  refine ⟨_, _, by rw [e2], h1, h2, h3, fun h0 => ?_⟩
  obtain ⟨b, off, e, hb, hc⟩ := h4 h0
  refine ⟨b, off, e, by simpa [World.setCell] using hb, fun j x hx => ?_⟩
  have hbg := hne _ e
  rw [← hc j x hx]
  simp only [World.cell?]
  rw [Below.heap_setCell _ _ _ b hbg]
set_option maxRecDepth 4000 in
set_option maxHeartbeats 16000000 in
theorem dunname_any (s : ByteArray) (w : World) (p b : Nat) (t : TreeB) (k : Nat) (hT : DTree w p b t) (ht : Fair t) (hk : k < t.nodes.length) (hk2 : (nodeAt t k).kind = 2) (hs : s ∈ (nodeAt t k).names) :
    Calls Tryz.prog 101 #[.pointer (some ⟨p, 0, none⟩), .int .i64 (nodeAt t k).ino, .string s] w fun e w' => e = .returned (.tuple #[]) ∧ DTree w' p b (unnameB t k s) ∧ Turn p b w w' := by
  have ok := ht.each _ (nodeAt_mem hk)
  have hnm := ht.names _ (nodeAt_mem hk)
  have hz := ht.nz (nodeAt_mem hk)
  obtain ⟨da, dc, sa, sc, hlook⟩ := hT.lookAt ht hk
  have hl0 := (hlook w (Below.refl _ _)).1
  have c0 := (hlook w (Below.refl _ _)).2.1
  have HSR : Hid (∀ W, Below w.heap.size w W → _) := fun W hW => dsearch_any (dnOf (nodeAt t k) da dc sa sc) s W ((hlook W hW).2.2) ok.1 ok.len (by show (nodeAt t k).names.length ≤ _; omega)
  have hsv := (hlook w (Below.refl _ _)).2.2.2
  have hpl : (pairsB (nodeAt t k)).length = (nodeAt t k).names.length := by unfold pairsB; rw [List.length_zip]; have := ok.len; omega
  have HHAS : Hid (hasB (nodeAt t k).names s = true) := has_iff.2 hs
  obtain ⟨hlo, _⟩ := (low_mem ok.1).1 hs
  have hnl := name_low ok s
  rw [HHAS.out, if_pos rfl] at hnl
  have HPW : Hid (pairsB (withoutB (nodeAt t k) s) = _) := pairs_without ok hs
  have hdn : (dnOf (nodeAt t k) da dc sa sc).val = .agg #[.int .i64 2, .slice da (nodeAt t k).data.length dc, .slice sa (nodeAt t k).names.length sc] := by unfold DN.val dnOf; simp only; rw [hk2]
  have e3 : (dnOf (nodeAt t k) da dc sa sc).n = nodeAt t k := rfl
  rw [hdn, e3, HHAS.out] at HSR
  obtain ⟨i, hi⟩ : ∃ i, lowB (nodeAt t k).names s = i := ⟨_, rfl⟩
  rw [hi] at HSR HPW hlo hnl
  obtain ⟨a2, c2, r1, r2, q1, q2⟩ := cut_runs (w := w) (sa := sa) (n := (nodeAt t k).names.length) (sc := sc) hsv i (i + 1) (by omega) (by omega)
  -- the slot that goes
  obtain ⟨g0, o0, hsa, hg0, hcell⟩ : ∃ g0 o0, sa = some ⟨g0, o0, none⟩ ∧ g0 < w.heap.size ∧ w.cell? ⟨g0, o0 + i * 2 + 1, none⟩ = some (.int .i64 (nameB (nodeAt t k) s)) := by
    obtain ⟨ao, cap, e, h1, h2, h3, h4⟩ := hsv
    obtain ⟨b', off, e4, hb', hc⟩ := h4 (by rw [e3, hpl]; omega)
    have hsa : sa = ao := by
      have : (dnOf (nodeAt t k) da dc sa sc).s = .slice sa (nodeAt t k).names.length sc := rfl
      rw [this] at e
      injection e
    refine ⟨b', off, hsa.trans e4, hb', ?_⟩
    have c1 := (at2_of hc (k := i) (by rw [e3, hpl]; exact hlo)).2
    rw [c1, hnl]
    have hil : i < (nodeAt t k).inos.length := by rw [← ok.len]; exact hlo
    simp [pairsB, List.getD, hil, dnOf]
  subst hsa
  obtain ⟨n, hn⟩ : ∃ n, (nodeAt t k).names.length = n := ⟨_, rfl⟩
  obtain ⟨dn, hdl⟩ : ∃ n, (nodeAt t k).data.length = n := ⟨_, rfl⟩
  obtain ⟨ii, hii⟩ : ∃ x, (nodeAt t k).ino = x := ⟨_, rfl⟩
  obtain ⟨mi, hmi⟩ : ∃ x, nameB (nodeAt t k) s = x := ⟨_, rfl⟩
  have hmb : 0 ≤ mi ∧ mi ≤ 2199023255552 := by
    have h0 : nameB (nodeAt t k) s ≠ 0 := (has_name ok hz s).1 HHAS.out
    obtain ⟨k', h1, h2, h3, h4⟩ := ht.step hk h0
    have h5 := ht.pos _ (nodeAt_mem h2)
    have h6 := ht.below _ (nodeAt_mem h2)
    rw [h3, hmi] at h5 h6
    omega
  rw [hn] at r1 r2 q2 hl0 HSR hlo hpl hnm
  rw [hdl] at hl0 HSR
  rw [hii, hk2] at hl0
  rw [hmi] at hcell
  rw [hii]
  -- what Concat answers
  have HCC : Hid (∀ W, Below w.heap.size w W → NBox W w.heap.size 2 (.slice da dn dc) (.slice (some ⟨g0, o0, none⟩) n sc) → Calls Tryz.prog 129 #[.slice (some ⟨W.heap.size, 0, none⟩) 2 2] (W.alloc (.cells #[.slice (some ⟨g0, o0, none⟩) i sc, .slice a2 (n - (i + 1)) c2] 68)) fun e w' => ∃ ao cap m, e = .returned (.slice ao m cap) ∧ w'.cell? ⟨w.heap.size, 0, none⟩ = some (.int .i64 2) ∧ w'.cell? ⟨w.heap.size, 1, none⟩ = some (.slice da dn dc) ∧ w'.cell? ⟨w.heap.size, 2, none⟩ = some (.slice (some ⟨g0, o0, none⟩) n sc) ∧ (∀ j, w'.frozen? ⟨w.heap.size, j, none⟩ = false) ∧ Hid ((∀ a, ao = some a → w.heap.size < a.block) ∧ SeesS w' (.slice ao m cap) (pairsB (withoutB (nodeAt t k) s)) ∧ NBox w' w.heap.size 2 (.slice da dn dc) (.slice (some ⟨g0, o0, none⟩) n sc) ∧ Below w.heap.size w w')) := fun W hW hB => by
    have b1 : Below W.heap.size W (W.alloc (.cells #[.slice (some ⟨g0, o0, none⟩) i sc, .slice a2 (n - (i + 1)) c2] 68)) := (Below.refl _ _).alloc (Nat.le_refl _) _
    have sl := sees_lit W [.slice (some ⟨g0, o0, none⟩) i sc, .slice a2 (n - (i + 1)) c2] 68 (by simp)
    have hWs : W.heap.size ≤ (W.alloc (.cells #[.slice (some ⟨g0, o0, none⟩) i sc, .slice a2 (n - (i + 1)) c2] 68)).heap.size := b1.size
    obtain ⟨W2, hW2⟩ : ∃ z, z = W.alloc (.cells #[.slice (some ⟨g0, o0, none⟩) i sc, .slice a2 (n - (i + 1)) c2] 68) := ⟨_, rfl⟩
    have sl : Sees W2 (.slice (some ⟨W.heap.size, 0, none⟩) 2 2) [.slice (some ⟨g0, o0, none⟩) i sc, .slice a2 (n - (i + 1)) c2] := by rw [hW2]; exact sl
    rw [← hW2] at b1 hWs ⊢
    have bw : Below w.heap.size w W2 := bel2v hW b1
    have hl1 : ((pairsB (nodeAt t k)).take i).length = i := by rw [List.length_take]; omega
    have hl2 : ((pairsB (nodeAt t k)).drop (i + 1)).length = n - (i + 1) := by rw [List.length_drop]; omega
    refine (dconcat_any _ _ [(pairsB (nodeAt t k)).take i, (pairsB (nodeAt t k)).drop (i + 1)] W2 sl (by simp) (by simp) (fun j h1 h2 => ?_) (by simp [hl1, hl2]; omega)).mono ?_
    · match j, h1, h2 with
      | 0, _, _ => exact q1.below bw
      | 1, _, _ => exact q2.below bw
    · rintro e w' ⟨r, rfl, hr, hb⟩
      have hfl : [(pairsB (nodeAt t k)).take i, (pairsB (nodeAt t k)).drop (i + 1)].flatten = pairsB (withoutB (nodeAt t k) s) := by rw [HPW.out]; simp
      rw [hfl] at hr
      obtain ⟨ao, cap, rfl, hg⟩ := hr.shape
      have hB2 := (hB.below b1).below hb
      obtain ⟨d0, d1, d2, d3, _⟩ := hB2.c
      have hBl := hB.c.2.2.2.2
      exact ⟨ao, cap, _, rfl, d0, d1, d2, d3, ⟨fun a ha => by have := hg a ha; omega, hr.sees, hB2, bel2v bw hb⟩⟩
  have HDV : Hid (Sees w (.slice da dn dc) (intsV .u8 (nodeAt t k).data)) := by
    have := (hlook w (Below.refl _ _)).2.2.1
    show Sees _ _ _
    rw [← hdl]; exact this
  have HW : Hid ((withoutB (nodeAt t k) s).ino = (nodeAt t k).ino ∧ (withoutB (nodeAt t k) s).kind = 2 ∧ (withoutB (nodeAt t k) s).data = (nodeAt t k).data) := by
    refine ⟨rfl, hk2, ?_⟩
    rcases ok.2.2 with h | h
    · rw [h.2.1]; rfl
    · omega
  have HTL : Hid (∀ w3 ao cap m, (∀ a, ao = some a → w.heap.size < a.block) → SeesS w3 (.slice ao m cap) (pairsB (withoutB (nodeAt t k) s)) → Below w.heap.size w w3 → NBox w3 w.heap.size 2 (.slice da dn dc) (.slice (some ⟨g0, o0, none⟩) n sc) → ∃ w5, (Instr.mapUpdate 50 (.map (some b)) (.int .i64 ii) (.agg #[.int .i64 2, .slice da dn dc, .slice ao m cap])).run Tryz.prog (w3.setCell ⟨w.heap.size, 2, none⟩ (.slice ao m cap)).drew = .ok () w5 ∧ Hid (DTree w5 p b (setB t k (withoutB (nodeAt t k) s)) ∧ Turn p b w w5) ∧
      (w3.setCell ⟨w.heap.size, 2, none⟩ (.slice ao m cap)).cell? ⟨w.heap.size, 0, none⟩ = some (.int .i64 2) ∧ (w3.setCell ⟨w.heap.size, 2, none⟩ (.slice ao m cap)).cell? ⟨w.heap.size, 1, none⟩ = some (.slice da dn dc) ∧ (w3.setCell ⟨w.heap.size, 2, none⟩ (.slice ao m cap)).cell? ⟨w.heap.size, 2, none⟩ = some (.slice ao m cap) ∧ (w3.setCell ⟨w.heap.size, 2, none⟩ (.slice ao m cap)).cell? ⟨p, 0, none⟩ = some (.map (some b))) := fun w3 ao cap m hg h1 h2 h3 => by
    have hdv := HDV.out
    rw [← hdl] at hdv
    obtain ⟨w5, k1, k2, k3⟩ := put_tail hT ht hk hk2 (withoutB (nodeAt t k) s) HW.out.1 HW.out.2.1 HW.out.2.2 hdv (Nat.le_refl w.heap.size) h2 (seesS_set' h1 (fun a ha => by have := hg a ha; omega) 2)
    rw [hdl, hii] at k1
    have hc := (h3.set2 (.slice ao m cap)).c
    exact ⟨w5, k1, ⟨k2, k3⟩, hc.1, hc.2.1, hc.2.2.1, ((h2.setCell (Nat.le_refl _) _).cell (by exact hT.cells.2.2.2.1)).trans hT.cells.1⟩
  have HFW : Hid (Fair (setB t k (withoutB (nodeAt t k) s))) := fair_without ht hk hk2 s
  have HU : Hid (unnameB t k s = if linksD (setB t k (withoutB (nodeAt t k) s)) mi = 0 then ⟨(setB t k (withoutB (nodeAt t k) s)).nodes.filter (fun n => !(n.ino == mi)), t.next⟩ else setB t k (withoutB (nodeAt t k) s)) := by show _ = _; unfold unnameB; rw [hmi]
  obtain ⟨t1, ht1⟩ : ∃ z, setB t k (withoutB (nodeAt t k) s) = z := ⟨_, rfl⟩
  have hnx : t.next = t1.next := by rw [← ht1]; rfl
  rw [ht1, hnx] at HU
  rw [ht1] at HTL HFW
  have HLN : Hid (∀ W, DTree W p b t1 → Calls Tryz.prog 29 #[.pointer (some ⟨p, 0, none⟩), .int .i64 mi] W fun e w' => e = .returned (.int .i64 (linksD t1 mi : Nat)) ∧ Below W.heap.size W w') := fun W hW => dlinks_any mi W p b t1 hW HFW.out
  have HDL : Hid (∀ W, DTree W p b t1 → _) := fun W hW => hW.less' (i := mi) hmb
  obtain ⟨u, hu⟩ : ∃ u, unnameB t k s = u := ⟨_, rfl⟩
  rw [hu] at HU ⊢
  have il : (i : Int) < (n : Int) := by omega
  have nl : (n : Int) ≤ 10000 := by omega
  have hwi : IntKind.i64.wrap ((i : Int) + 1) = (i : Int) + 1 := by rw [IntKind.wrap_i64]; omega
  have r3 : ∀ W, (Instr.slice 68 (.slice (some ⟨g0, o0, none⟩) n sc) (some (.int .i64 ((i : Int) + 1))) none none).run Tryz.prog W = .ok (.slice a2 (n - (i + 1)) c2) W := fun W => by
    have := r2 W
    rw [show ((i + 1 : Nat) : Int) = (i : Int) + 1 by omega] at this
    exact this
  have HB0 : Hid (NBox (w.alloc (.cells #[.int .i64 2, .slice da dn dc, .slice (some ⟨g0, o0, none⟩) n sc] 70)) w.heap.size 2 (.slice da dn dc) (.slice (some ⟨g0, o0, none⟩) n sc)) := (MapKept.heap_alloc w _).1
  have HCE : Hid (g0 < w.heap.size ∧ w.cell? ⟨g0, o0 + i * 2 + 1, none⟩ = some (.int .i64 mi)) := ⟨hg0, hcell⟩
  clear hlook hT ht ok hnm hsv hpl hlo HHAS hdn e3 q1 q2 hn hdl hs hi HPW HDV HW hk2 hii hz hnl hmi hmb ht1 hnx hu hg0 hcell HFW r2
  go_enter Tryz.func101, Tryz.ntmps101
  go_wp2_with fail
  go_at_call 116
  refine (HSR.out _ ((Below.refl _ _).alloc (Nat.le_refl _) _)).mono ?_
  rintro e w1 ⟨rfl, hb1⟩
  have H1 : Hid (NBox w1 w.heap.size 2 (.slice da dn dc) (.slice (some ⟨g0, o0, none⟩) n sc) ∧ Below w.heap.size w w1) := ⟨HB0.out.below hb1, bel2v ((Below.refl _ _).alloc (Nat.le_refl _) _) hb1⟩
  obtain ⟨d0, d1, d2, d3, _⟩ := H1.out.1.c
  have hce : w1.cell? ⟨g0, o0 + i * 2 + 1, none⟩ = some (.int .i64 mi) := (H1.out.2.cell (by exact HCE.out.1)).trans HCE.out.2
  have HCC1 : Hid (Calls Tryz.prog 129 #[.slice (some ⟨w1.heap.size, 0, none⟩) 2 2] (w1.alloc (.cells #[.slice (some ⟨g0, o0, none⟩) i sc, .slice a2 (n - (i + 1)) c2] 68)).drew _) := HCC.out w1.drew H1.out.2.drew (by exact H1.out.1)
  clear hb1 HSR HB0 hl0 HCC HCE
  go_wp2
  go_region_with (first
    | (go_at_call 129; refine HCC1.out.mono ?_; rintro e w3 ⟨ao, cap, m, rfl, k0, k1, k2, k3, H3⟩))
  all_goals (
    obtain ⟨w5, hput, H5, m0, m1, m2, m3⟩ := HTL.out w3 ao cap m H3.out.1 H3.out.2.1 H3.out.2.2.2 H3.out.2.2.1
    clear HTL HCC1 H3 H1 k0 k1 k2 k3 d0 d1 d2 d3 hce
    generalize (w3.setCell ⟨w.heap.size, 2, none⟩ (.slice ao m cap)) = W4 at *
    go_wp2
    go_region
    have HL5 : Hid (Calls Tryz.prog 29 _ _ _) := HLN.out w5 H5.out.1
    have c5 := H5.out.1.cells.1
    clear hput m0 m1 m2 m3
    go_wp2_with fail
    go_at_call 29
    refine HL5.out.mono ?_
    rintro e w6 ⟨rfl, hb6⟩
    have H6 : Hid (DTree w6 p b t1 ∧ Turn p b w w6) := ⟨H5.out.1.below hb6, H5.out.2.trans (turn_below hb6)⟩
    have c6 := H6.out.1.cells.1
    obtain ⟨w7, hdel, g7, t7, _⟩ := HDL.out w6 H6.out.1
    have H7 : Hid (DTree w7 p b ⟨t1.nodes.filter (fun n => !(n.ino == mi)), t1.next⟩ ∧ Turn p b w w7) := ⟨g7, H6.out.2.trans t7⟩
    clear hb6 HL5 HLN HDL g7 t7
    by_cases hl : linksD t1 mi = 0
    · have HE : Hid (u = ⟨t1.nodes.filter (fun n => !(n.ino == mi)), t1.next⟩) := by show _ = _; rw [HU.out, if_pos hl]
      rw [hl]
      clear HU hl
      go_wp2
      go_end0
      rw [HE.out]
      exact ⟨rfl, H7.out⟩
    · have HE : Hid (u = t1) := by show _ = _; rw [HU.out, if_neg hl]
      have hlz : (((linksD t1 mi : Nat) : Int) == 0) = false := beq_eq_false_iff_ne.2 (by omega)
      clear HU hl hdel
      go_wp2
      go_end0
      rw [HE.out]
      exact ⟨rfl, H6.out⟩)
end Go.Proofs.YtbebgobboccjcaaGreatDoor
