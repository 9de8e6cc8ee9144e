/- dolmenref5.without: what one call answers. -/
import Derived.Test.YtbebgobboccjcaaGreatDoorH3
namespace Go.Proofs.YtbebgobboccjcaaGreatDoor
open Go.RowKit Kit
set_option linter.unusedVariables false

def kept (l : List (ByteArray × Int)) (s : ByteArray) : List (ByteArray × Int) := l.filter fun p => decide (p.1 ≠ s)
theorem kept_next (l : List (ByteArray × Int)) (s : ByteArray) (k : Nat) (h : k < l.length) : kept (l.take (k + 1)) s = kept (l.take k) s ++ if l[k].1 ≠ s then [l[k]] else [] := by
 unfold kept
 rw [List.take_add_one, List.getElem?_eq_getElem h, Option.toList_some, List.filter_append]
 congr 1
 by_cases e : l[k].1 = s
 · simp [e]
 · simp [e]
theorem own_some {w : World} {base sz n : Nat} {e : TypeId} {v : Value} {xs : List Value} (h : w.ownsRow base e sz v n xs) (h0 : 0 < n) : ∃ g cap, v = .slice (some ⟨g, 0, none⟩) n cap := by
 rcases h.2 with ⟨_, h3⟩ | ⟨g, cap, cur, hv, _⟩
 · omega
 · exact ⟨g, cap, hv⟩
theorem own_slice {w : World} {base sz n : Nat} {e : TypeId} {v : Value} {xs : List Value} (h : w.ownsRow base e sz v n xs) : ∃ ao cap, v = .slice ao n cap := by
 rcases h.2 with ⟨h2, h3⟩ | ⟨g, cap, cur, hv, _⟩
 · exact ⟨none, 0, by rw [h2, h3]⟩
 · exact ⟨_, cap, hv⟩
theorem own_set {w : World} {base n : Nat} {e : TypeId} {v : Value} {xs : List Value} {b j : Nat} (h : w.ownsRow base e 1 v n xs) (hb : b < base) (u : Value) : (w.setCell ⟨b, j, none⟩ u).ownsRow base e 1 v n xs :=
 own_block h fun g hg => Below.heap_setCell _ _ _ g (fun e2 => by have := (h.lt g hg).1; have e3 : g = b := e2; omega)
theorem bld_done {w wr : World} {f : FN} {X Y : Value} {ds : List ByteArray} {es : List Int} (h : Bld w wr f X Y ds es) (v0 v1 v2 v3 v4 : Value) :
 Sees (((((wr.setCell ⟨w.heap.size + 1, 0, none⟩ v0).setCell ⟨w.heap.size + 1, 1, none⟩ v1).setCell ⟨w.heap.size + 1, 2, none⟩ v2).setCell ⟨w.heap.size + 1, 3, none⟩ v3).setCell ⟨w.heap.size + 1, 4, none⟩ v4) X (strs ds) ∧
 Sees (((((wr.setCell ⟨w.heap.size + 1, 0, none⟩ v0).setCell ⟨w.heap.size + 1, 1, none⟩ v1).setCell ⟨w.heap.size + 1, 2, none⟩ v2).setCell ⟨w.heap.size + 1, 3, none⟩ v3).setCell ⟨w.heap.size + 1, 4, none⟩ v4) Y (intsV .i64 es) ∧
 Below w.heap.size w (((((wr.setCell ⟨w.heap.size + 1, 0, none⟩ v0).setCell ⟨w.heap.size + 1, 1, none⟩ v1).setCell ⟨w.heap.size + 1, 2, none⟩ v2).setCell ⟨w.heap.size + 1, 3, none⟩ v3).setCell ⟨w.heap.size + 1, 4, none⟩ v4) := by
 obtain ⟨h1, h2, h3, h4, h5, h6⟩ := h
 have hlt : w.heap.size + 1 < w.heap.size + 3 := by omega
 have hge : w.heap.size ≤ w.heap.size + 1 := by omega
 refine ⟨?_, ?_, ((((h6.setCell hge _).setCell hge _).setCell hge _).setCell hge _).setCell hge _⟩
 · have := own_set (j := 4) (own_set (j := 3) (own_set (j := 2) (own_set (j := 1) (own_set (j := 0) h4 hlt v0) hlt v1) hlt v2) hlt v3) hlt v4
   exact RowV.sees (base := w.heap.size + 3) (e := 9) (by unfold RowV; rw [strs_len]; exact this)
 · have := own_set (j := 4) (own_set (j := 3) (own_set (j := 2) (own_set (j := 1) (own_set (j := 0) h5 hlt v0) hlt v1) hlt v2) hlt v3) hlt v4
   exact RowV.sees (base := w.heap.size + 3) (e := 3) (by unfold RowV; rw [intsV_len]; exact this)
theorem sees_nilV (w : World) (k : IntKind) : Sees w (.slice none 0 0) (intsV k []) := ⟨none, 0, rfl, by simp [intsV], by simp, fun _ => rfl, fun h => by simp [intsV] at h⟩
theorem bld_new (w : World) (f : FN) : Bld w (((w.alloc (.cells #[.int .i64 f.n.ino, .int .i64 f.n.kind, f.d, f.m, f.i] 60)).alloc (.cells #[.int .i64 0, .int .i64 0, .slice none 0 0, .slice none 0 0, .slice none 0 0] 60)).alloc (.cells #[.int .i64 f.n.ino, .int .i64 f.n.kind, .slice none 0 0, .slice none 0 0, .slice none 0 0] 60)) f (.slice none 0 0) (.slice none 0 0) [] [] := by
 have hp : ∀ (a : Array Obj) (x y z : Obj), (((a.push x).push y).push z)[a.size]? = some x ∧ (((a.push x).push y).push z)[a.size + 1]? = some y ∧ (((a.push x).push y).push z)[a.size + 2]? = some z := by
  intro a x y z
  refine ⟨?_, ?_, ?_⟩
  · rw [Array.getElem?_push, if_neg (by simp; omega), Array.getElem?_push, if_neg (by simp), Array.getElem?_push, if_pos rfl]
  · rw [Array.getElem?_push, if_neg (by simp), Array.getElem?_push, if_pos (by simp)]
  · rw [Array.getElem?_push, if_pos (by simp)]
 obtain ⟨p1, p2, p3⟩ := hp w.heap (.cells #[.int .i64 f.n.ino, .int .i64 f.n.kind, f.d, f.m, f.i] 60) (.cells #[.int .i64 0, .int .i64 0, .slice none 0 0, .slice none 0 0, .slice none 0 0] 60) (.cells #[.int .i64 f.n.ino, .int .i64 f.n.kind, .slice none 0 0, .slice none 0 0, .slice none 0 0] 60)
 exact ⟨p1, p2, p3, World.ownsRow_nil _ _ _ _, World.ownsRow_nil _ _ _ _, (((Below.refl _ _).alloc (Nat.le_refl _) _).alloc (by simp) _).alloc (by simp; omega) _⟩
set_option maxRecDepth 4000 in
set_option maxHeartbeats 16000000 in
theorem without_any (f : FN) (s : ByteArray) (w : World) (h : f.is w) (hl : f.n.names.length = f.n.inos.length) (hsm : f.n.names.length ≤ 1000000) :
 Calls Tryz.prog 88 #[f.val, .string s] w fun e w' => ∃ X Y, e = .returned (.agg #[.int .i64 f.n.ino, .int .i64 f.n.kind, .slice none 0 0, X, Y]) ∧ FN.is w' ⟨withoutB f.n s, .slice none 0 0, X, Y⟩ ∧ Fresh w.heap.size X ∧ Fresh w.heap.size Y ∧ Below w.heap.size w w' := by
 have HF : Hid (f.is w) := h
 obtain ⟨⟨ino, kind, data, names, inos⟩, d, m, i⟩ := f
 obtain ⟨_, hm, hi⟩ := h
 unfold FN.val
 simp only at hm hi hl hsm ⊢
 obtain ⟨mo, mc, rfl, h1, h2, h3, h4⟩ := hm
 obtain ⟨io, ic, rfl, k1, k2, k3, k4⟩ := hi
 rw [strs_len] at h1 h4 ⊢
 rw [intsV_len] at k1 k4 ⊢
 rw [strs_len, intsV_len] at HF
 have lm : (names.length : Int) ≤ 1000000 := by omega
 have H4 : Hid (_ → _) := h4
 have K4 : Hid (_ → _) := k4
 have HL : Hid (names.length = inos.length) := hl
 have hW : withoutB ⟨ino, kind, data, names, inos⟩ s = ⟨ino, kind, [], (kept (names.zip inos) s).map Prod.fst, (kept (names.zip inos) s).map Prod.snd⟩ := rfl
 rw [hW]
 have HZ : Hid ((names.zip inos).length = names.length) := by show _ = _; rw [List.length_zip]; omega
 clear h1 h2 h3 h4 k1 k2 k3 k4 hl hsm hW
 go_enter Tryz.func88, Tryz.ntmps88
 go_wp2
 go_loopw [6] (fun z wr => ∃ (k : Nat) (X Y : Value), k ≤ names.length ∧ z = .int .i64 (k : Int) ∧ Hid (Bld w wr ⟨⟨ino, kind, data, names, inos⟩, d, .slice mo names.length mc, .slice io inos.length ic⟩ X Y ((kept ((names.zip inos).take k) s).map Prod.fst) ((kept ((names.zip inos).take k) s).map Prod.snd))) (fun z _ => names.length - (intOf z).toNat)
 case atStart => exact ⟨0, .slice none 0 0, .slice none 0 0, Nat.zero_le _, rfl, bld_new w ⟨⟨ino, kind, data, names, inos⟩, d, .slice mo names.length mc, .slice io inos.length ic⟩⟩
 case round =>
  obtain ⟨k, X, Y, hk, rfl, HB⟩ := hrel
  by_cases hlt : k < names.length
  · obtain ⟨mb, mf, hmo, hmb, hmcell⟩ := H4.out (by omega)
    obtain ⟨ib, jf, hio, hib, hicell⟩ := K4.out (by have := HL.out; omega)
    subst hmo hio
    have hkz : k < (names.zip inos).length := by rw [HZ.out]; exact hlt
    have hnx := kept_next (names.zip inos) s k hkz
    have hz1 : (names.zip inos)[k] = (names.getD k ⟨#[]⟩, inos.getD k 0) := by
     rw [List.getElem_zip]
     have h9 : k < inos.length := by have := HL.out; omega
     simp [List.getD, hlt, h9]
    rw [hz1] at hnx
    obtain ⟨x, hx⟩ : ∃ x, names.getD k ⟨#[]⟩ = x := ⟨_, rfl⟩
    obtain ⟨y, hy⟩ : ∃ y, inos.getD k 0 = y := ⟨_, rfl⟩
    have e0 := hmcell k _ (strs_at names k hlt)
    have e1 := hicell k _ (intsV_at .i64 inos k (by have := HL.out; omega))
    rw [hx] at e0 hnx
    rw [hy] at e1 hnx
    obtain ⟨l, hle⟩ : ∃ l, kept ((names.zip inos).take k) s = l := ⟨_, rfl⟩
    rw [hle] at HB hnx
    have HNX : Hid (kept ((names.zip inos).take (k + 1)) s = l ++ if x ≠ s then [(x, y)] else []) := hnx
    have hq := bytes_eq x s
    obtain ⟨ds, hds⟩ : ∃ ds, l.map Prod.fst = ds := ⟨_, rfl⟩
    obtain ⟨es, hes⟩ : ∃ es, l.map Prod.snd = es := ⟨_, rfl⟩
    rw [hds, hes] at HB
    have HDE : Hid (l.map Prod.fst = ds ∧ l.map Prod.snd = es ∧ l.length ≤ k) := ⟨hds, hes, by
     rw [← hle]; unfold kept
     exact Nat.le_trans (List.length_filter_le _ _) (by simp; omega)⟩
    have hB := HB.out
    have n3 := hB.1.c.2.2.2.1
    have n4 := hB.1.c.2.2.2.2
    have c0 := (hB.2.2.2.2.2.cell (by exact hmb)).trans e0
    have c1 := (hB.2.2.2.2.2.cell (by exact hib)).trans e1
    have HIX : Hid (mb < w.heap.size ∧ ib < w.heap.size ∧ w.cell? ⟨mb, mf + k, none⟩ = some (.string x) ∧ w.cell? ⟨ib, jf + k, none⟩ = some (.int .i64 y)) := ⟨hmb, hib, e0, e1⟩
    have j0 : (k : Int) < (names.length : Int) := by omega
    have j1 : (0 : Int) ≤ (k : Int) := by omega
    have j2 : (k : Int) < (inos.length : Int) := by have := HL.out; omega
    clear hmcell hicell hkz hnx hz1 hx hy e0 e1 hle hds hes hmb hib
    by_cases hxs : x = s
    · rw [decide_eq_true hxs] at hq
      have HE : Hid (kept ((names.zip inos).take (k + 1)) s = l) := by show _ = _; rw [HNX.out, if_neg (by simp [hxs]), List.append_nil]
      clear hB HNX hxs
      go_wp2
      go_roundw
      case rel => exact ⟨k + 1, X, Y, by omega, by simp, by rw [HE.out, HDE.out.1, HDE.out.2.1]; exact HB⟩
      case measure => simp [intOf]; omega
    · rw [decide_eq_false hxs] at hq
      have HE : Hid (kept ((names.zip inos).take (k + 1)) s = l ++ [(x, y)]) := by show _ = _; rw [HNX.out, if_pos hxs]
      have m3 := hB.2.2.1.c.2.2.2.1
      have m3a : ∀ o, (wr.alloc o).cell? ⟨w.heap.size + 2, 3, none⟩ = some X := fun o => ((hB.below ((Below.refl _ _).alloc (Nat.le_refl _) o)).2.2.1.c).2.2.2.1
      have n3a : ∀ o, (wr.alloc o).cell? ⟨w.heap.size, 3, none⟩ = some (.slice (some ⟨mb, mf, none⟩) names.length mc) := fun o => ((hB.below ((Below.refl _ _).alloc (Nat.le_refl _) o)).1.c).2.2.2.1
      have HBA : Hid (Bld w (wr.alloc (.cells #[.string x] 9)).drew ⟨⟨ino, kind, data, names, inos⟩, d, .slice (some ⟨mb, mf, none⟩) names.length mc, .slice (some ⟨ib, jf, none⟩) inos.length ic⟩ X Y ds es) := hB.below (((Below.refl _ _).alloc (Nat.le_refl _) _).drew)
      have HCL : Hid (∀ (j : Nat) u, [Value.string x][j]? = some u → ((wr.alloc (.cells #[.string x] 9)).drew).cell? ((⟨wr.heap.size, 0, none⟩ : Addr).add j) = some u) := fun j u hu => by
       cases j with
       | zero => simp at hu; subst hu; simp [Addr.add]
       | succ j => simp at hu
      have HM : Hid (ds.length + 1 ≤ maxLen ∧ (ds.length + 1) * 16 ≤ 140737488355328) := by
       have h5 : ds.length ≤ k := by have := HDE.out.2.2; rw [← HDE.out.1, List.length_map]; exact this
       exact ⟨by unfold maxLen; omega, by omega⟩
      clear hB HNX hxs
      go_wp2
      go_region_law (refine step_appS Tryz.underlying37 infoS rfl (by decide) (by rfl) _ _ (by rfl) (w.heap.size + 3) X ds.length (strs ds) (by rfl) HBA.out.2.2.2.1 ⟨wr.heap.size, 0, none⟩ 1 1 [.string x] (by rfl) (by rfl) HCL.out (by intro u hu; simp at hu; subst hu; rfl) HM.out.1 HM.out.2 (by have := HBA.out.2.2.1.lt; omega) ?_; intro X' w2 hr2 hg2; obtain ⟨g2, cp2, rfl⟩ := own_some hr2 (Nat.succ_pos _); have m3b := (HBA.out.2.2.1.grown hg2 (HBA.out.2.2.1.row HBA.out.2.2.2.1 (by decide))).c.2.2.2.1; have z3b := (HBA.out.2.2.1.grown hg2 (HBA.out.2.2.1.row HBA.out.2.2.2.1 (by decide))).fz 3)
      all_goals
       have HB2 : Hid (Bld w (w2.setCell ⟨w.heap.size + 1 + 1, 3, none⟩ (.slice (some ⟨g2, 0, none⟩) (ds.length + 1) cp2)) ⟨⟨ino, kind, data, names, inos⟩, d, .slice (some ⟨mb, mf, none⟩) names.length mc, .slice (some ⟨ib, jf, none⟩) inos.length ic⟩ (.slice (some ⟨g2, 0, none⟩) (ds.length + 1) cp2) Y (ds ++ [x]) es) := HBA.out.name hg2 hr2
       generalize (w2.setCell ⟨w.heap.size + 1 + 1, 3, none⟩ (.slice (some ⟨g2, 0, none⟩) (ds.length + 1) cp2)) = w5 at HB2 ⊢
       clear hg2 hr2 m3b z3b HBA HCL m3 m3a n3a n3 n4 c0 c1 HB HM w2
       have hB := HB2.out
       have n4 := hB.1.c.2.2.2.2
       have m4 := hB.2.2.1.c.2.2.2.2
       have c1 := (hB.2.2.2.2.2.cell (by exact HIX.out.2.1)).trans HIX.out.2.2.2
       have m4a : ∀ o, (w5.alloc o).cell? ⟨w.heap.size + 2, 4, none⟩ = some Y := fun o => ((hB.below ((Below.refl _ _).alloc (Nat.le_refl _) o)).2.2.1.c).2.2.2.2
       have HBA : Hid (Bld w (w5.alloc (.cells #[.int .i64 y] 3)).drew ⟨⟨ino, kind, data, names, inos⟩, d, .slice (some ⟨mb, mf, none⟩) names.length mc, .slice (some ⟨ib, jf, none⟩) inos.length ic⟩ (.slice (some ⟨g2, 0, none⟩) (ds.length + 1) cp2) Y (ds ++ [x]) es) := hB.below (((Below.refl _ _).alloc (Nat.le_refl _) _).drew)
       have HCL : Hid (∀ (j : Nat) u, [Value.int .i64 y][j]? = some u → ((w5.alloc (.cells #[.int .i64 y] 3)).drew).cell? ((⟨w5.heap.size, 0, none⟩ : Addr).add j) = some u) := fun j u hu => by
        cases j with
        | zero => simp at hu; subst hu; simp [Addr.add]
        | succ j => simp at hu
       have HM : Hid (es.length + 1 ≤ maxLen ∧ (es.length + 1) * 8 ≤ 140737488355328) := by
        have h5 : es.length ≤ k := by have := HDE.out.2.2; rw [← HDE.out.2.1, List.length_map]; exact this
        exact ⟨by unfold maxLen; omega, by omega⟩
       clear hB
       go_wp2
       go_region_law (refine step_appS Tryz.underlying38 infoI rfl (by decide) (by rfl) _ _ (by rfl) (w.heap.size + 3) Y es.length (intsV .i64 es) (by rfl) HBA.out.2.2.2.2.1 ⟨w5.heap.size, 0, none⟩ 1 1 [.int .i64 y] (by rfl) (by rfl) HCL.out (by intro u hu; simp at hu; subst hu; rfl) HM.out.1 HM.out.2 (by have := HBA.out.2.2.1.lt; omega) ?_; intro Y' w2 hr2 hg2; obtain ⟨g3, cp3, rfl⟩ := own_some hr2 (Nat.succ_pos _); have m3b := (HBA.out.2.2.1.grown hg2 (HBA.out.2.2.1.row HBA.out.2.2.2.2.1 (by decide))).c.2.2.2.2; have z3b := (HBA.out.2.2.1.grown hg2 (HBA.out.2.2.1.row HBA.out.2.2.2.2.1 (by decide))).fz 4)
       all_goals
        have HB3 : Hid (Bld w (w2.setCell ⟨w.heap.size + 1 + 1, 4, none⟩ (.slice (some ⟨g3, 0, none⟩) (es.length + 1) cp3)) ⟨⟨ino, kind, data, names, inos⟩, d, .slice (some ⟨mb, mf, none⟩) names.length mc, .slice (some ⟨ib, jf, none⟩) inos.length ic⟩ (.slice (some ⟨g2, 0, none⟩) (ds.length + 1) cp2) (.slice (some ⟨g3, 0, none⟩) (es.length + 1) cp3) (ds ++ [x]) (es ++ [y])) := HBA.out.num hg2 hr2
        clear hg2 hr2 m3b z3b HBA HCL m4 m4a n4 c1 HB2 HM
        go_wp2
        go_roundw
        case rel => exact ⟨k + 1, _, _, by omega, by simp, by rw [HE.out, List.map_append, List.map_append, HDE.out.1, HDE.out.2.1]; exact HB3⟩
        case measure => simp [intOf]; omega
  · obtain rfl : k = names.length := by omega
    have hall : (names.zip inos).take names.length = names.zip inos := List.take_of_length_le (by rw [HZ.out]; omega)
    rw [hall] at HB
    obtain ⟨ds, hds⟩ : ∃ ds, (kept (names.zip inos) s).map Prod.fst = ds := ⟨_, rfl⟩
    obtain ⟨es, hes⟩ : ∃ es, (kept (names.zip inos) s).map Prod.snd = es := ⟨_, rfl⟩
    rw [hds, hes] at HB
    have HQ : Hid ((kept (names.zip inos) s).map Prod.fst = ds ∧ (kept (names.zip inos) s).map Prod.snd = es) := ⟨hds, hes⟩
    have hB := HB.out
    have n3 := hB.1.c.2.2.2.1
    obtain ⟨m0, m1, m2, m3, m4⟩ := hB.2.2.1.c
    obtain ⟨r0, r1, r2, r3, r4⟩ := hB.2.1.c
    have z0 := hB.2.1.fz 0
    have z1 := hB.2.1.fz 1
    have z2 := hB.2.1.fz 2
    have z3 := hB.2.1.fz 3
    have z4 := hB.2.1.fz 4
    obtain ⟨xo, xc, hX⟩ := own_slice hB.2.2.2.1
    obtain ⟨yo, yc, hY⟩ := own_slice hB.2.2.2.2.1
    subst hX hY
    clear hds hes hB hall hlt
    go_wp2
    refine bodyPost_ret (v := .agg #[.int .i64 ino, .int .i64 kind, .slice none 0 0, .slice xo ds.length xc, .slice yo es.length yc]) (by simp [results, Tryz.results88, go_sem, *]) rfl ⟨_, _, rfl, ?_, ?_, ?_, ?_⟩
    · rw [HQ.out.1, HQ.out.2]
      exact ⟨sees_nilV _ _, (bld_done HB.out _ _ _ _ _).1, (bld_done HB.out _ _ _ _ _).2.1⟩
    · exact HB.out.fresh.1
    · exact HB.out.fresh.2
    · exact (bld_done HB.out _ _ _ _ _).2.2
end Go.Proofs.YtbebgobboccjcaaGreatDoor
