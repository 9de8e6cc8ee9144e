/- The document's book: Birth, Death. -/
import Derived.Test.YtbkciencikdacaaRBook
import Derived.Test.YtbkciencikdacaaKitSt2
namespace Go.Proofs.Ytbkciencikdacaa
open Go.RowKit Kit
set_option linter.unusedVariables false

theorem infoSp : (Try.prog.info? 25).map (fun i => (i.zero, i.size, i.bytes)) = some (some (.agg #[.int .i64 0, .int .i64 0]), 2, 16) := by kernel_rfl
theorem place_no {rs : List Th} {id : Int} (h : hasT rs id = false) : placeI rs id = -1 := by unfold placeI; rw [if_neg (by rw [h]; simp)]
theorem place_yes {rs : List Th} {id : Int} (h : hasT rs id = true) : placeI rs id = ((seatT rs id : Nat) : Int) := by unfold placeI; rw [if_pos h]
set_option maxRecDepth 4000 in
set_option maxHeartbeats 4000000 in
theorem rbirth_bad (q B : Nat) (iv sv : Value) (rs : List Th) (id ep : Int) (w : World) (h : RBook w q B iv sv rs) (hsm : rs.length ≤ 900) (hn : ¬ birthOk rs id ep) :
    Calls Try.prog 29 #[.pointer (some ⟨q, 0, none⟩), .int .i64 id, .int .i64 ep] w fun e w' => e = .returned (.int .i64 1) ∧ w' = w := by
  have HE : Hid (∀ w, Calls Try.prog 43 #[.int .i64 ep] w fun r w' => r = .returned (.bool (epochB ep)) ∧ w' = w) := fun w => repoch_any ep w
  have HP : Hid (Calls Try.prog 44 #[.pointer (some ⟨q, 0, none⟩), .int .i64 id] w fun e w' => e = .returned (.int .i64 (placeI rs id)) ∧ w' = w) := rplace_any q B id iv sv rs w h (by omega)
  cases he : epochB ep with
  | false =>
    rw [he] at HE
    clear h hsm hn he HP
    go_enter Try.func29, Try.ntmps29
    go_wp2_with (go_at_call 43; refine (HE.out _).mono ?_; rintro e w' ⟨rfl, rfl⟩)
    go_ret
    exact ⟨rfl, rfl⟩
  | true =>
    rw [he] at HE
    have hh : hasT rs id = true := by
      cases hh : hasT rs id with
      | true => rfl
      | false =>
        unfold epochB at he
        rw [decide_eq_true_iff] at he
        exact absurd ⟨he.1, he.2, hh⟩ hn
    rw [place_yes hh] at HP
    obtain ⟨i, hi⟩ : ∃ i, i = seatT rs id := ⟨_, rfl⟩
    rw [← hi] at HP
    have hi0 : (0 : Int) ≤ (i : Int) := by omega
    clear h hsm hn he hi hh
    go_enter Try.func29, Try.ntmps29
    go_wp2_with (first | (go_at_call 43; refine (HE.out _).mono ?_; rintro e w' ⟨rfl, rfl⟩) | (go_at_call 44; refine HP.out.mono ?_; rintro e w' ⟨rfl, rfl⟩))
    go_ret
    exact ⟨rfl, rfl⟩
set_option maxRecDepth 4000 in
set_option maxHeartbeats 8000000 in
theorem rbirth_good (q B : Nat) (iv sv : Value) (rs : List Th) (id ep : Int) (w : World) (h : RBook w q B iv sv rs) (hsm : rs.length ≤ 900) (hn : birthOk rs id ep) :
    Calls Try.prog 29 #[.pointer (some ⟨q, 0, none⟩), .int .i64 id, .int .i64 ep] w fun e w' => e = .returned (.int .i64 0) ∧ ∃ iv' sv', RBook w' q B iv' sv' (rs ++ [⟨id, ep, 0⟩]) ∧ TurnF (rfoot q iv sv) (rfoot q iv' sv') w w' := by
  obtain ⟨c1, c2, hh⟩ := hn
  have he : epochB ep = true := decide_eq_true ⟨c1, c2⟩
  have HE : Hid (∀ w, Calls Try.prog 43 #[.int .i64 ep] w fun r w' => r = .returned (.bool true) ∧ w' = w) := fun w => by have := repoch_any ep w; rw [he] at this; exact this
  have HP : Hid (Calls Try.prog 44 #[.pointer (some ⟨q, 0, none⟩), .int .i64 id] w fun e w' => e = .returned (.int .i64 (-1)) ∧ w' = w) := by
    have := rplace_any q B id iv sv rs w h (by omega)
    rw [place_no hh] at this
    exact this
  obtain ⟨is, his⟩ : ∃ is, is = rs.map Th.id := ⟨_, rfl⟩
  have hil : is.length = rs.length := by rw [his, List.length_map]
  have h0 : RBk w q B iv sv is rs := by rw [his]; exact h
  have HL : Hid (is.length + [id].length ≤ maxLen ∧ (is.length + [id].length) * 8 ≤ 140737488355328 ∧ rs.length + [(⟨id, ep, 0⟩ : Th)].length ≤ maxLen ∧ (rs.length + [(⟨id, ep, 0⟩ : Th)].length) * 16 ≤ 140737488355328) := by
    refine ⟨?_, ?_, ?_, ?_⟩ <;> simp only [List.length_cons, List.length_nil] <;> (try unfold maxLen) <;> omega
  have HI : Hid (is ++ [id] = (rs ++ [(⟨id, ep, 0⟩ : Th)]).map Th.id) := by show _ = _; rw [his, List.map_append]; rfl
  have H0 : Hid (RBk w q B iv sv is rs) := h0
  have q0 : w.cell? ⟨q, 0, none⟩ = some iv := blk_cell h0.cell rfl
  have hql : q < w.heap.size := blk_lt h0.cell
  clear h h0 hh he his hil hsm c1 c2
  go_enter Try.func29, Try.ntmps29
  go_upto_region 3 with (first | (go_at_call 43; refine (HE.out _).mono ?_; rintro e w9 ⟨rfl, hw9⟩; subst w9) | (go_at_call 44; refine HP.out.mono ?_; rintro e w9 ⟨rfl, hw9⟩; subst w9))
  clear HE HP
  have HA : Hid (Below w.heap.size w (w.alloc (.cells #[.int .i64 id] 3)) ∧ RBk (w.alloc (.cells #[.int .i64 id] 3)) q B iv sv is rs ∧ SeesE inE (w.alloc (.cells #[.int .i64 id] 3)) (.slice (some ⟨w.heap.size, 0, none⟩) 1 1) [id]) := ⟨bel_newG _ _, H0.out.below (bel_newG _ _), seesE_at inE (MapKept.heap_alloc w _).1⟩
  go_upto_region 4 with (at_builtin; refine wpList_appF (E := inE) Try.underlying23 infoI9 rfl rfl _ _ rfl B iv is rfl HA.out.2.1.ids (.slice (some ⟨w.heap.size, 0, none⟩) 1 1) [id] rfl HA.out.2.2 HL.out.1 HL.out.2.1 HA.out.2.1.low ?_; intro iv' w1 k1 k2 k3; obtain ⟨ai, ci, hvi⟩ := k1.sees.form; obtain ⟨ni, hni⟩ : ∃ z, z = (is ++ [id]).length := ⟨_, rfl⟩; rw [← hni] at hvi; clear hni; subst hvi; have H1 : Hid (RBk (w1.setCell ⟨q, 0, none⟩ (.slice ai ni ci)) q B (.slice ai ni ci) sv (is ++ [id]) rs ∧ TurnF (rfoot q iv sv) (rfoot q (.slice ai ni ci) sv) w (w1.setCell ⟨q, 0, none⟩ (.slice ai ni ci))) := (by obtain ⟨s1, s2⟩ := rbk_ids HA.out.2.1 k2 k1 k3; exact ⟨s1, (turnF_below HA.out.1).trans s2⟩); have hq1 : w1.heap[q]? = some (.cells #[iv, sv] 32) := (by rw [k2.block q (blk_lt HA.out.2.1.cell) (fun e => HA.out.2.1.apart.1 e.symm)]; exact HA.out.2.1.cell); have p0 : w1.cell? ⟨q, 0, none⟩ = some iv := blk_cell hq1 rfl; have p1 := blk_frozen hq1 0; have p2 : q < w1.heap.size := blk_lt hq1; clear k1 k2 k3 hq1)
  obtain ⟨W1, hW1⟩ : ∃ z, z = w1.setCell ⟨q, 0, none⟩ (.slice ai ni ci) := ⟨_, rfl⟩
  rw [← hW1] at H1 ⊢
  clear hW1 p0 p1 p2 q0 hql HA
  have q1 : W1.cell? ⟨q, 1, none⟩ = some sv := blk_cell H1.out.1.cell rfl
  have hql : q < W1.heap.size := blk_lt H1.out.1.cell
  have HA2 : Hid (Below W1.heap.size W1 (W1.alloc (.cells #[.int .i64 ep, .int .i64 0] 25)) ∧ RBk (W1.alloc (.cells #[.int .i64 ep, .int .i64 0] 25)) q B (.slice ai ni ci) sv (is ++ [id]) rs ∧ SeesE spE (W1.alloc (.cells #[.int .i64 ep, .int .i64 0] 25)) (.slice (some ⟨W1.heap.size, 0, none⟩) 1 1) [(⟨id, ep, 0⟩ : Th)]) := ⟨bel_newG _ _, H1.out.1.below (bel_newG _ _), seesE_at spE (x := ⟨id, ep, 0⟩) (MapKept.heap_alloc W1 _).1⟩
  go_upto_region 5 with (at_builtin; refine wpList_appF (E := spE) Try.underlying30 infoSp rfl rfl _ _ rfl B sv rs rfl HA2.out.2.1.sps (.slice (some ⟨W1.heap.size, 0, none⟩) 1 1) [(⟨id, ep, 0⟩ : Th)] rfl HA2.out.2.2 HL.out.2.2.1 HL.out.2.2.2 HA2.out.2.1.low ?_; intro sv9 w2 k1 k2 k3; obtain ⟨a2, cc2, hvs⟩ := k1.sees.form; obtain ⟨ns, hns⟩ : ∃ z, z = (rs ++ [(⟨id, ep, 0⟩ : Th)]).length := ⟨_, rfl⟩; rw [← hns] at hvs; clear hns; subst hvs; have H2 : Hid (RBk (w2.setCell ⟨q, 1, none⟩ (.slice a2 ns cc2)) q B (.slice ai ni ci) (.slice a2 ns cc2) (is ++ [id]) (rs ++ [(⟨id, ep, 0⟩ : Th)]) ∧ TurnF (rfoot q iv sv) (rfoot q (.slice ai ni ci) (.slice a2 ns cc2)) w (w2.setCell ⟨q, 1, none⟩ (.slice a2 ns cc2))) := (by obtain ⟨s1, s2⟩ := rbk_sps HA2.out.2.1 k2 k1 k3; exact ⟨s1, (H1.out.2.trans (turnF_below HA2.out.1)).trans s2⟩); have hq1 : w2.heap[q]? = some (.cells #[(.slice ai ni ci), sv] 32) := (by rw [k2.block q (blk_lt HA2.out.2.1.cell) (fun e => HA2.out.2.1.apart.2.1 e.symm)]; exact HA2.out.2.1.cell); have p0 : w2.cell? ⟨q, 1, none⟩ = some sv := blk_cell hq1 rfl; have p1 := blk_frozen hq1 1; have p2 : q < w2.heap.size := blk_lt hq1; clear k1 k2 k3 hq1)
  go_wp2_with fail
  go_ret
  refine ⟨rfl, _, _, ?_, H2.out.2⟩
  have := H2.out.1
  rw [HI.out] at this
  exact this
end Go.Proofs.Ytbkciencikdacaa
