/- dolmenref9.Map.Cut. -/
import Derived.Test.YthdmclhccbjgoaaRJoined
namespace Go.Proofs.Ythdmclhccbjgoaa
open Go.RowKit Kit
set_option linter.unusedVariables false

theorem fits_clearB {a b : Int} {l : List Pc} (h : Fits l) : Fits (clearB a b l) := fits_clear h
set_option maxRecDepth 4000 in
set_option maxHeartbeats 4000000 in
theorem rcut_bad (q : Nat) (a b : Int) (w : World) (h : a < 0 ∨ b < a ∨ 4294967296 < b) :
    Calls Try.prog 30 #[.pointer (some ⟨q, 0, none⟩), .int .i64 a, .int .i64 b] w fun e w' => e = .returned (.int .i64 12) ∧ w' = w := by
  by_cases h1 : a < 0
  · clear h
    go_enter Try.func30, Try.ntmps30
    go_wp2
    go_ret
    exact ⟨rfl, rfl⟩
  · by_cases h2 : b < a
    · clear h
      go_enter Try.func30, Try.ntmps30
      go_wp2
      go_ret
      exact ⟨rfl, rfl⟩
    · have h3 : 4294967296 < b := by omega
      clear h
      go_enter Try.func30, Try.ntmps30
      go_wp2
      go_ret
      exact ⟨rfl, rfl⟩
set_option maxRecDepth 4000 in
set_option maxHeartbeats 4000000 in
theorem rcut_good (q : Nat) (a b : Int) (ps : List Pc) (w : World) (hm : RMap w q ps) (hl : ps.length ≤ 900) (hg : Good9 ps) (h1 : 0 ≤ a) (h2 : a ≤ b) (h3 : b ≤ 4294967296) :
    Calls Try.prog 30 #[.pointer (some ⟨q, 0, none⟩), .int .i64 a, .int .i64 b] w fun e w' => e = .returned (.int .i64 0) ∧ RMap w' q (cutB ps a b) ∧ Turn1 q w w' := by
  have HM : Hid (RMap w q ps ∧ Good9 ps) := ⟨hm, hg⟩
  by_cases hab : a < b
  · have HC : Hid (Calls Try.prog 45 _ w _) := rclear_any q a b ps w hm (by omega) hg.can.1 hg.fits h1 h2 h3
    have HL : Hid ((clearB a b ps).length ≤ 1000) := by have := clear_len h2 hg.can.1; show _ ≤ _; omega
    have HE : Hid (cutB ps a b = joinB (clearB a b ps)) := by show _ = _; unfold cutB; rw [if_pos hab]
    clear hm hg
    go_enter Try.func30, Try.ntmps30
    go_wp2_with fail
    go_at_call 45
    refine HC.out.mono ?_
    rintro e w1 ⟨rfl, v1, hq1, hr1, ht1⟩
    obtain ⟨av, cv, hv⟩ := hr1.sees.form
    obtain ⟨n1, hn1⟩ : ∃ z, z = (clearB a b ps).length := ⟨_, rfl⟩
    rw [← hn1] at hv
    subst hv
    have H1 : Hid (w1.heap[q]? = some (.cells #[.slice av n1 cv] 29) ∧ Turn1 q w w1) := ⟨hq1, ht1⟩
    have HJ : Hid (Calls Try.prog 46 _ w1 _) := rjoined_any (clearB a b ps) _ w1 hr1.sees HL.out (fits_clear HM.out.2.fits)
    have q0 : w1.cell? ⟨q, 0, none⟩ = some (.slice av n1 cv) := blk_cell hq1 rfl
    have ql : q < w1.heap.size := blk_lt hq1
    clear hq1 hr1 ht1 hn1
    go_wp2_with fail
    go_at_call 46
    refine HJ.out.mono ?_
    rintro e w2 ⟨v2, rfl, hr2, hb2⟩
    obtain ⟨av2, cv2, hv2⟩ := hr2.sees.form
    obtain ⟨n2, hn2⟩ : ∃ z, z = (joinB (clearB a b ps)).length := ⟨_, rfl⟩
    rw [← hn2] at hv2
    subst hv2
    have H2 : Hid (w2.heap[q]? = some (.cells #[.slice av n1 cv] 29) ∧ Turn1 q w w2 ∧ RowE pcE w2 w1.heap.size 32 (.slice av2 n2 cv2) (joinB (clearB a b ps)) ∧ q < w1.heap.size) := ⟨blk_below hb2 H1.out.1, H1.out.2.trans (turn1_below hb2), hr2, ql⟩
    have q1 : w2.cell? ⟨q, 0, none⟩ = some (.slice av n1 cv) := blk_cell H2.out.1 rfl
    have qf := blk_frozen H2.out.1 0
    have ql2 : q < w2.heap.size := blk_lt H2.out.1
    clear hr2 hb2 hn2 q0 ql
    go_wp2
    go_ret
    exact ⟨rfl, ⟨_, setCell_blk H2.out.1 _, by rw [HE.out]; exact (rowE_set H2.out.2.2.1 H2.out.2.2.2 _ _).sees⟩, H2.out.2.1.trans (turn1_set q w2 0 _)⟩
  · have HE : Hid (cutB ps a b = ps) := by show _ = _; unfold cutB; rw [if_neg hab]
    clear hm hg
    go_enter Try.func30, Try.ntmps30
    go_wp2
    go_ret
    exact ⟨rfl, by rw [HE.out]; exact HM.out.1, Turn1.refl _ _⟩
end Go.Proofs.Ythdmclhccbjgoaa
