/- package extent: New, Pieces, End, Copy, Find. -/
import Derived.Test.YthdmclhccbjgoaaEMapT
import Derived.Test.YthdmclhccbjgoaaEFirst
import Derived.Test.YthdmclhccbjgoaaMPut
import Derived.Shelf.SlicesE.Clone
namespace Go.Proofs.Ythdmclhccbjgoaa
open Go.RowKit Kit
set_option linter.unusedVariables false

set_option maxRecDepth 4000 in
set_option maxHeartbeats 4000000 in
theorem enew_any (w : World) : Calls Try.prog 9 #[] w fun e w' => e = .returned (.pointer (some ⟨w.heap.size, 0, none⟩)) ∧ w' = w.alloc (.cells #[.slice none 0 0] 59) := by
  go_enter Try.func9, Try.ntmps9
  go_wp2
  go_ret
  exact ⟨rfl, rfl⟩
theorem enew_map (w : World) : EMap (w.alloc (.cells #[.slice none 0 0] 59)) w.heap.size (w.heap.size + 1) (.slice none 0 0) [] :=
  ⟨(MapKept.heap_alloc w _).1, rowE_nil pcE _ _ _, by simp [Value.ownBlock], by simp⟩
set_option maxRecDepth 4000 in
set_option maxHeartbeats 4000000 in
theorem sclone_some (b n cap B : Nat) (xs : List Pc) (w : World) (h : RowE pcE w B 35 (.slice (some ⟨b, 0, none⟩) n cap) xs) (hl : n ≤ 100000) :
    Calls Try.prog 33 #[.slice (some ⟨b, 0, none⟩) n cap] w fun e w' => ∃ v', e = .returned v' ∧ RowE pcE w' w.heap.size 35 v' xs ∧ Below w.heap.size w w' := by
  have HS : Hid (SeesE pcE w (.slice (some ⟨b, 0, none⟩) n cap) xs) := h.sees
  have hn := (rowE_un h).2.1
  have HL : Hid (([] : List Pc).length + xs.length ≤ maxLen ∧ (([] : List Pc).length + xs.length) * 32 ≤ 140737488355328) := ⟨by simp; unfold maxLen; omega, by simp; omega⟩
  have hlt := (rowE_un h).2.2.2.2.1
  have HO : Hid (RowE pcE (w.alloc (.cells #[] 35)) w.heap.size 35 (.slice (some ⟨w.heap.size, 0, none⟩) 0 0) []) := rowE_empty pcE w 35 w.heap.size w.heap.size rfl (Nat.le_refl _)
  clear h hn
  have q22 : ∀ (w : World) (a : Option Addr) (n c n' c' : Nat), (binOp .eql 41 (.slice a n c) (.slice none n' c')).run Try.prog w = .ok (.bool a.isNone) w := fun w a n c n' c' => Lib.run_eql_slice_nil w _ _ a n c n' c' Try.underlying41
  go_enter Try.func33, Try.ntmps33
  go_wp2_with (at_builtin; refine wpList_appE (E := pcE) Try.underlying41 infoEp rfl rfl _ _ rfl w.heap.size _ [] rfl HO.out _ xs rfl (HS.out.below (bel_newG _ _)) HL.out.1 HL.out.2 (bel_newG _ _).size ?_; intro v1 w1 k1 k2)
  go_ret
  refine ⟨v1, rfl, by simpa using k1, ?_⟩
  exact (row_kept HO.out (Below.refl _ _) k2).2 (bel_newG _ _) (bel_newG _ _).size
set_option maxRecDepth 4000 in
theorem sclone_nil (w : World) : Calls Try.prog 33 #[.slice none 0 0] w fun e w' => e = .returned (.slice none 0 0) ∧ w' = w := by
  have q22 : ∀ (w : World) (a : Option Addr) (n c n' c' : Nat), (binOp .eql 41 (.slice a n c) (.slice none n' c')).run Try.prog w = .ok (.bool a.isNone) w := fun w a n c n' c' => Lib.run_eql_slice_nil w _ _ a n c n' c' Try.underlying41
  go_enter Try.func33, Try.ntmps33
  go_wp2
  go_ret
  exact ⟨rfl, rfl⟩
theorem sclone_any (B : Nat) (v : Value) (xs : List Pc) (w : World) (h : RowE pcE w B 35 v xs) (hl : xs.length ≤ 100000) :
    Calls Try.prog 33 #[v] w fun e w' => ∃ v', e = .returned v' ∧ RowE pcE w' w.heap.size 35 v' xs ∧ Below w.heap.size w w' := by
  obtain ⟨h1, h2⟩ := id h
  rcases h2 with ⟨rfl, h2⟩ | ⟨g, cap, cur, rfl, _⟩
  · refine (sclone_nil w).mono ?_
    rintro e w' ⟨rfl, rfl⟩
    have : xs = [] := List.eq_nil_of_length_eq_zero h2
    subst this
    exact ⟨_, rfl, rowE_nil pcE _ _ _, Below.refl _ _⟩
  · exact sclone_some g _ cap B xs w h hl
set_option maxRecDepth 4000 in
set_option maxHeartbeats 4000000 in
theorem epieces_any (p B : Nat) (v : Value) (ps : List Pc) (w : World) (hm : EMap w p B v ps) (hl : ps.length ≤ 100000) :
    Calls Try.prog 14 #[.pointer (some ⟨p, 0, none⟩)] w fun e w' => ∃ v', e = .returned v' ∧ RowE pcE w' w.heap.size 35 v' ps ∧ Below w.heap.size w w' := by
  have HM : Hid (EMap w p B v ps) := hm
  clear hm
  go_enter Try.func14, Try.ntmps14
  go_wp2_with (first
    | (go_at_call 31; refine (eall_any p v _ HM.out.cell).mono ?_; rintro e w1 ⟨rfl, rfl⟩)
    | (go_at_call 33; refine (sclone_any B _ ps _ HM.out.row hl).mono ?_; rintro e w2 ⟨v2, rfl, k1, k2⟩)
    | fail)
  go_ret
  exact ⟨v2, rfl, k1, k2⟩
theorem epieces_nil (w : World) : Calls Try.prog 14 #[.pointer none] w fun e w' => e = .returned (.slice none 0 0) ∧ w' = w := by
  go_enter Try.func14, Try.ntmps14
  go_wp2_with (first
    | (go_at_call 31; refine (eall_nil _).mono ?_; rintro e w1 ⟨rfl, rfl⟩)
    | (go_at_call 33; refine (sclone_nil _).mono ?_; rintro e w2 ⟨rfl, rfl⟩)
    | fail)
  go_ret
  exact ⟨rfl, rfl⟩
set_option maxRecDepth 4000 in
set_option maxHeartbeats 4000000 in
theorem eend_nil (w : World) : Calls Try.prog 21 #[.pointer none] w fun e w' => e = .returned (.int .i64 0) ∧ w' = w := by
  go_enter Try.func21, Try.ntmps21
  go_wp2_with (go_at_call 31; refine (eall_nil _).mono ?_; rintro e w1 ⟨rfl, rfl⟩)
  go_ret
  exact ⟨rfl, rfl⟩
set_option maxRecDepth 4000 in
set_option maxHeartbeats 4000000 in
theorem eend_any (p B : Nat) (v : Value) (ps : List Pc) (w : World) (hm : EMap w p B v ps) (hl : ps.length ≤ 1000) (hf : Fits ps) :
    Calls Try.prog 21 #[.pointer (some ⟨p, 0, none⟩)] w fun e w' => e = .returned (.int .i64 (endB ps)) ∧ Below w.heap.size w w' := by
  have HM : Hid (EMap w p B v ps) := hm
  obtain ⟨ao, cap, rfl⟩ := hm.row.sees.form
  obtain ⟨n, hn⟩ : ∃ n, n = ps.length := ⟨_, rfl⟩
  have hs := hm.row.sees
  rw [← hn] at HM hs
  by_cases h0 : n = 0
  · have hps : ps = [] := List.eq_nil_of_length_eq_zero (by omega)
    subst hps
    subst h0
    clear hm hn hs
    go_enter Try.func21, Try.ntmps21
    go_wp2_with (go_at_call 31; refine (eall_any p _ _ HM.out.cell).mono ?_; rintro e w1 ⟨rfl, rfl⟩)
    go_ret
    exact ⟨rfl, Below.refl _ _⟩
  · obtain ⟨b, off, e, hnn, hb, hc⟩ := pc_cells hs (by omega)
    subst e
    obtain ⟨c0, c1, c2, c3⟩ := hc (n - 1) (by omega)
    have HE : Hid (endB ps = (ps[n - 1]'(by omega)).off + (ps[n - 1]'(by omega)).len) := by
      show _ = _
      unfold endB
      rw [List.getLast?_eq_getElem?, List.getElem?_eq_getElem (by omega)]
      simp only [hn]
    have hfp := hf _ (List.getElem_mem (l := ps) (n := n - 1) (by omega))
    obtain ⟨x, hx⟩ : ∃ x, x = ps[n - 1]'(by omega) := ⟨_, rfl⟩
    rw [← hx] at c0 c1 c2 c3 HE hfp
    obtain ⟨po, pl, pg, pp⟩ := x
    obtain ⟨f1, f2, f3, _⟩ := hfp
    simp only at c0 c1 c2 c3 HE f1 f2 f3
    have hni : (n : Int) - 1 < (n : Int) := by omega
    have hn0 : (0 : Int) ≤ (n : Int) - 1 := by omega
    have hnz : ¬ ((n : Int) = 0) := by omega
    have hnl : (n : Int) ≤ 1000 := by omega
    have htn : ((n : Int) - 1).toNat = n - 1 := by omega
    have hw : IntKind.i64.wrap ((n : Int) - 1) = (n : Int) - 1 := by rw [IntKind.wrap_i64]; omega
    have HEN : Hid (∀ n : World, Calls Try.prog 36 #[.agg #[.int .i64 po, .int .i64 pl, .int .i64 pg, .int .i64 pp]] n fun e w' => e = .returned (.int .i64 (po + pl)) ∧ Below n.heap.size n w') := fun n => epend_any po pl pg pp n f1 (by omega) (by omega) (by omega)
    clear hm hn hs hc hx hnn h0 hl hf
    go_enter Try.func21, Try.ntmps21
    go_wp2_with (first
      | (go_at_call 31; refine (eall_any p _ _ HM.out.cell).mono ?_; rintro e w1 ⟨rfl, rfl⟩)
      | (go_at_call 36; refine (HEN.out _).mono ?_; rintro e w2 ⟨rfl, hb2⟩)
      | fail)
    go_ret
    exact ⟨by rw [HE.out]; rfl, hb2⟩
set_option maxRecDepth 4000 in
set_option maxHeartbeats 4000000 in
theorem ecopy_any (p B : Nat) (v : Value) (ps : List Pc) (w : World) (hm : EMap w p B v ps) (hl : ps.length ≤ 100000) :
    Calls Try.prog 26 #[.pointer (some ⟨p, 0, none⟩)] w fun e w' => ∃ q v', e = .returned (.pointer (some ⟨q, 0, none⟩)) ∧ w.heap.size ≤ q ∧ EMap w' q w.heap.size v' ps ∧ Below w.heap.size w w' := by
  have HM : Hid (EMap w p B v ps) := hm
  clear hm
  go_enter Try.func26, Try.ntmps26
  go_wp2_with (go_at_call 14; refine (epieces_any p B v ps _ HM.out hl).mono ?_; rintro e w2 ⟨v2, rfl, k1, k2⟩; obtain ⟨a2, c2, hv2⟩ := k1.sees.form; obtain ⟨n2, hn2⟩ : ∃ z, z = ps.length := ⟨_, rfl⟩; rw [← hn2] at hv2; clear hn2; subst hv2; have HK : Hid (RowE pcE w2 w.heap.size 35 (.slice a2 n2 c2) ps ∧ Below w.heap.size w w2) := ⟨k1, k2⟩; clear k1 k2)
  go_ret
  exact ⟨_, _, rfl, HK.out.2.size, ⟨(MapKept.heap_alloc w2 _).1, HK.out.1.below (bel_newG _ _), fun e => by have := row_lt HK.out.1 e; omega, Nat.le_trans HK.out.2.size (bel_newG _ _).size⟩, bel_tr HK.out.2 (bel_newG _ _)⟩
end Go.Proofs.Ythdmclhccbjgoaa
