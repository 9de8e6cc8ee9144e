/- package extent: Cut. -/
import Derived.Test.YthdmclhccbjgoaaEHole
import Derived.Test.YthdmclhccbjgoaaMPut
namespace Go.Proofs.Ythdmclhccbjgoaa
open Go.RowKit Kit
set_option linter.unusedVariables false

set_option maxRecDepth 4000 in
set_option maxHeartbeats 8000000 in
theorem ehole_none (p B : Nat) (xo xg xp : Int) (v : Value) (ps : List Pc) (w : World) (hm : EMap w p B v ps) (hl : ps.length ≤ 900) (g0 : 0 ≤ xo) (g1 : xo ≤ 4294967296) :
    Calls Try.prog 40 #[.pointer (some ⟨p, 0, none⟩), .agg #[.int .i64 xo, .int .i64 0, .int .i64 xg, .int .i64 xp]] w fun e w' => e = .returned (.tuple #[]) ∧ ∃ v', EMap w' p B v' ps ∧ Turn9 p v v' w w' := by
  obtain ⟨ao, cap, rfl⟩ := hm.row.sees.form
  obtain ⟨n, hn⟩ : ∃ n, n = ps.length := ⟨_, rfl⟩
  rw [← hn] at hm ⊢
  have HM : Hid (EMap w p B (.slice ao n cap) ps) := hm
  have hcap : cap ≤ 9223372036854775807 := by
    obtain ⟨ao', cap', h1, h2, h3, _⟩ := hm.row.sees
    injection h1 with _ _ h1
    subst h1
    exact h3
  have hnc : n ≤ cap := by
    obtain ⟨ao', cap', h1, h2, h3, _⟩ := hm.row.sees
    injection h1 with _ _ h1
    omega
  have hni : (0 : Int) ≤ (n : Int) := by omega
  have hci : (0 : Int) ≤ (cap : Int) := by omega
  obtain ⟨W, hW⟩ : ∃ z, z = w.alloc (.cells #[.int .i64 xo, .int .i64 0, .int .i64 xg, .int .i64 xp] 35) := ⟨_, rfl⟩
  have HW : Hid (Below w.heap.size w W ∧ w.heap.size < W.heap.size) := by rw [hW]; exact ⟨bel_newG _ _, by simp⟩
  have hb1 : W.heap[w.heap.size]? = some (.cells #[.int .i64 xo, .int .i64 0, .int .i64 xg, .int .i64 xp] 35) := by rw [hW]; exact (MapKept.heap_alloc w _).1
  have HE : Hid (∀ n : OwnW W, Calls Try.prog 36 #[.agg #[.int .i64 xo, .int .i64 0, .int .i64 xg, .int .i64 xp]] n.1 fun e w'' => e = .returned (.int .i64 xo) ∧ ∃ m : OwnW W, w'' = m.1) := fun n => Calls.own_of (by
    have := epend_any xo 0 xg xp n.1 g0 (by omega) (by omega) (by omega)
    rw [Int.add_zero] at this
    exact this)
  have HA : Hid (∀ n : OwnW W, Calls Try.prog 34 #[.pointer (some ⟨p, 0, none⟩), .int .i64 xo, .int .i64 xo] n.1 fun e w'' => e = .returned (.tuple #[.int .i64 0, .int .i64 0]) ∧ ∃ m : OwnW W, w'' = m.1) := fun n => Calls.own_of (eamong_none p xo xo n.1 (Int.le_refl _))
  have hne := ownW_nonempty W
  have dl := HW.out.2
  have a0 : ∀ n : OwnW W, n.1.cell? ⟨w.heap.size, 0, none⟩ = some (.int .i64 xo) := fun n => (n.2.cell (by exact dl)).trans (blk_cell hb1 rfl)
  have a1 : ∀ n : OwnW W, n.1.cell? ⟨w.heap.size, 1, none⟩ = some (.int .i64 0) := fun n => (n.2.cell (by exact dl)).trans (blk_cell hb1 rfl)
  have a2 : ∀ n : OwnW W, n.1.cell? ⟨w.heap.size, 2, none⟩ = some (.int .i64 xg) := fun n => (n.2.cell (by exact dl)).trans (blk_cell hb1 rfl)
  have a3 : ∀ n : OwnW W, n.1.cell? ⟨w.heap.size, 3, none⟩ = some (.int .i64 xp) := fun n => (n.2.cell (by exact dl)).trans (blk_cell hb1 rfl)
  have q0 : ∀ n' : OwnW W, n'.1.cell? ⟨p, 0, none⟩ = some (.slice ao n cap) := fun n' => blk_cell (hm.below (bel_tr HW.out.1 n'.2)).cell rfl
  clear hm hb1 hl hn
  go_enter Try.func40, Try.ntmps40
  go_wp2_with fail
  rw [← hW]
  clear hW
  refine wp_region_own (by kernel_rfl) (by kernel_rfl) ?_
  repeat (go_big_quiet_step (first | exact HE.out _ | exact HA.out _))
  refine wpQuiet_nil ?_
  rintro _ ⟨m, rfl⟩
  have HQ : Hid (Below w.heap.size w m.1) := bel_tr HW.out.1 m.2
  have hq := q0 m
  obtain ⟨wq, hwq⟩ : ∃ z, z = m.1 := ⟨_, rfl⟩
  rw [← hwq] at HQ hq ⊢
  clear a0 a1 a2 a3 q0 hne hwq m dl
  go_wp2_with fail
  go_loopw [6, 26] (fun s6 s26 wr => s6 = .slice none 0 0 ∧ s26 = .int .i64 0 ∧ Hid (Below wq.heap.size wq wr)) (fun _ _ _ => 0)
  case atStart => exact ⟨rfl, rfl, Below.refl _ _⟩
  case round =>
    obtain ⟨rfl, rfl, HI⟩ := hrel
    have HW2 : Hid (EMap wr p B (.slice ao n cap) ps) := HM.out.below (bel_tr HQ.out HI.out)
    have q1 : wr.cell? ⟨p, 0, none⟩ = some (.slice ao n cap) := blk_cell HW2.out.cell rfl
    have f1 : wr.frozen? ⟨p, 0, none⟩ = false := blk_frozen HW2.out.cell 0
    have HRP : Hid (Calls Try.prog 53 #[.slice ao n cap, .int .i64 0, .int .i64 0, .slice none 0 0] wr fun e w' => e = .returned (.slice ao n cap) ∧ w' = wr) := srep_zero (.slice ao n cap) B 0 ps wr HW2.out.row (Nat.zero_le _)
    go_wp2_with (go_at_call 53; refine HRP.out.mono ?_; rintro e w1 ⟨rfl, rfl⟩)
    go_end0
    have hst := emap_store HW2.out ⟨rfl, rfl, rfl, Nat.le_refl _, fun _ _ _ => rfl⟩ HW2.out.row (fun k hk => .inl hk)
    exact ⟨rfl, _, hst.1, (turn9_below (bel_tr HQ.out HI.out)).trans hst.2⟩
theorem cut_nil9 (ps : List Pc) (a : Int) : cutB ps a a = ps := by unfold cutB; rw [if_neg (by omega)]
set_option maxRecDepth 4000 in
set_option maxHeartbeats 4000000 in
theorem ecut_nil (a b : Int) (w : World) :
    Calls Try.prog 24 #[.pointer none, .int .i64 a, .int .i64 b] w fun e w' => e = .returned (.iface 72 (.int .i64 12)) ∧ w' = w := by
  go_enter Try.func24, Try.ntmps24
  go_wp2_with fail
  go_ret
  exact ⟨rfl, rfl⟩
set_option maxRecDepth 4000 in
set_option maxHeartbeats 4000000 in
theorem ecut_bad (p : Nat) (a b : Int) (w : World) (h : a < 0 ∨ b < a ∨ 4294967296 < b) :
    Calls Try.prog 24 #[.pointer (some ⟨p, 0, none⟩), .int .i64 a, .int .i64 b] w fun e w' => e = .returned (.iface 72 (.int .i64 12)) ∧ w' = w := by
  by_cases h1 : a < 0
  · clear h
    go_enter Try.func24, Try.ntmps24
    go_wp2_with fail
    go_ret
    exact ⟨rfl, rfl⟩
  by_cases h2 : b < a
  · clear h
    go_enter Try.func24, Try.ntmps24
    go_wp2_with fail
    go_ret
    exact ⟨rfl, rfl⟩
  have h3 : 4294967296 < b := by omega
  clear h
  go_enter Try.func24, Try.ntmps24
  go_wp2_with fail
  go_ret
  exact ⟨rfl, rfl⟩
set_option maxRecDepth 4000 in
set_option maxHeartbeats 4000000 in
theorem ecut_good (p B : Nat) (a b : Int) (v : Value) (ps : List Pc) (w : World) (hm : EMap w p B v ps) (hg : Good9 ps) (hl : ps.length ≤ 900) (h0 : 0 ≤ a) (h1 : a ≤ b) (h2 : b ≤ 4294967296) :
    Calls Try.prog 24 #[.pointer (some ⟨p, 0, none⟩), .int .i64 a, .int .i64 b] w fun e w' => e = .returned .nilIface ∧ ∃ v', EMap w' p B v' (cutB ps a b) ∧ Turn9 p v v' w w' := by
  have HC : Hid (Calls Try.prog 40 #[.pointer (some ⟨p, 0, none⟩), .agg #[.int .i64 a, .int .i64 (b - a), .int .i64 0, .int .i64 0]] w fun e w' => e = .returned (.tuple #[]) ∧ ∃ v', EMap w' p B v' (cutB ps a b) ∧ Turn9 p v v' w w') := by
    by_cases hab : a < b
    · rw [cut_is hab hg.can]
      have := ehole_some p B a (b - a) 0 0 v ps w hm hg.can.1 hg.fits hl h0 (by omega) (by omega) (by omega)
      rw [show a + (b - a) = b by omega] at this
      exact this
    · obtain rfl : a = b := by omega
      rw [cut_nil9, Int.sub_self]
      exact ehole_none p B a 0 0 v ps w hm hl h0 h2
  clear hm hg hl
  go_enter Try.func24, Try.ntmps24
  go_wp2_with (go_at_call 40; refine HC.out.mono ?_; rintro e w1 ⟨rfl, v1, k1, k2⟩)
  go_ret
  exact ⟨rfl, v1, k1, k2⟩
end Go.Proofs.Ythdmclhccbjgoaa
