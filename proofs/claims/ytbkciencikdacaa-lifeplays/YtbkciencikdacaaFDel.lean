/- slices.Delete of things, in a row of the map's own. -/
import Derived.Test.YtbkciencikdacaaFBook
import Derived.Test.YtbkciencikdacaaKitSc
import Derived.Deep.RegionLaw
namespace Go.Proofs.Ytbkciencikdacaa
open Go.RowKit Kit
set_option linter.unusedVariables false

theorem infoTh : (Try.prog.info? 67).map (fun i => (i.zero, i.size, i.bytes)) = some (some (.agg #[.int .i64 0, .int .i64 0, .int .i64 0]), 3, 24) := by kernel_rfl
theorem sizeTh : (Try.prog.info? 67).map (·.size) = some thE.k := by kernel_rfl
theorem zeroTh : ∀ u ∈ (Value.agg #[.int .i64 0, .int .i64 0, .int .i64 0]).cells.toList, u.oneCell' = true := by
  intro u hu
  simp [Value.cells] at hu
  rw [hu]; rfl
theorem bel_drew (w : World) : Below w.heap.size w w.drew := (Below.refl _ w).drew
/-- What a slice from j on shows, whatever the room. -/
theorem from_sees {w : World} {B g n cap : Nat} {xs : List Th} (h : RowE thE w B 67 (.slice (some ⟨g, 0, none⟩) n cap) xs) (j : Nat) (hj : j ≤ n) :
    ∃ A : Addr, (if cap = j then some (⟨g, 0, none⟩ : Addr) else some ⟨g, j * 3, none⟩) = some A ∧ Hid (SeesE thE w (.slice (some A) (n - j) (cap - j)) (xs.drop j)) := by
  obtain ⟨_, h2, h3, h4, _⟩ := rowE_un h
  by_cases hc : cap = j
  · refine ⟨_, by rw [if_pos hc], ?_⟩
    have : xs.drop j = [] := List.drop_eq_nil_of_le (by omega)
    show SeesE _ _ _ _
    rw [this, show n - j = 0 by omega, show cap - j = 0 by omega]
    exact ⟨_, 0, rfl, Nat.le_refl _, Nat.zero_le _, by simp, fun h => absurd h (by simp)⟩
  · exact ⟨_, by rw [if_neg hc]; rfl, h.from j hj⟩
set_option maxRecDepth 4000 in
set_option maxHeartbeats 4000000 in
theorem sdel_any (B g n cap i j : Nat) (xs : List Th) (w : World) (h : RowE thE w B 67 (.slice (some ⟨g, 0, none⟩) n cap) xs) (hij : i < j) (hj : j ≤ n) :
    Calls Try.prog 42 #[.slice (some ⟨g, 0, none⟩) n cap, .int .i64 (i : Int), .int .i64 (j : Int)] w fun e w' => e = .returned (.slice (some ⟨g, 0, none⟩) (i + (n - j)) cap) ∧ RowE thE w' B 67 (.slice (some ⟨g, 0, none⟩) (i + (n - j)) cap) (xs.take i ++ xs.drop j) ∧ w.grownBy w' (some g) := by
  obtain ⟨u1, u2, u3, u4, u5, _⟩ := rowE_un h
  have hn : n = xs.length := u2
  have hm : cap ≤ 9223372036854775807 := u4
  obtain ⟨A, hA, HA⟩ := from_sees (h.below (bel_drew w)) j hj
  have HR : Hid (RowE thE w.drew B 67 (.slice (some ⟨g, 0, none⟩) i cap) (xs.take i)) := (h.below (bel_drew w)).take i (by omega)
  have HL : Hid ((xs.drop j).length = n - j) := by show _ = _; rw [List.length_drop]; omega
  obtain ⟨m, hm2⟩ : ∃ z, z = i + (n - j) := ⟨_, rfl⟩
  rw [← hm2]
  have HM : Hid (m = i + (n - j)) := hm2
  have hmn : m < n := by omega
  have hcm : ¬ (cap = m) := by omega
  have hmi : (m : Int) ≤ (n : Int) := by omega
  have hm0 : (0 : Int) ≤ (m : Int) := by omega
  have hmci : (m : Int) ≤ (cap : Int) := by omega
  have hij2 : ¬ ((i : Int) = (j : Int)) := by omega
  have hij3 : (i : Int) ≤ (j : Int) := by omega
  have hjn : (j : Int) ≤ (n : Int) := by omega
  have hnc : (n : Int) ≤ (cap : Int) := by omega
  have hi0 : (0 : Int) ≤ (i : Int) := by omega
  have hic : (i : Int) ≤ (cap : Int) := by omega
  have hjc : (j : Int) ≤ (cap : Int) := by omega
  clear h u2 u4 hn hm2
  go_enter Try.func42, Try.ntmps42
  go_wp2_with fail
  go_region_law (refine step_roomE (E := thE) Try.underlying55 sizeTh (by rfl) (.tmp 22) (.tmp 25) (by rfl) HR.out (by simp [Act.eval, Act.put]) (.slice (some A) (n - j) (cap - j)) (by simp [Act.eval, Act.put]) (xs.drop j) HA.out (by rw [HL.out]; omega) ?_; rw [HL.out, ← HM.out]; intro w1 k1 k2)
  have HK : Hid (RowE thE w1 B 67 (.slice (some ⟨g, 0, none⟩) m cap) (xs.take i ++ xs.drop j) ∧ w.grownBy w1 (some g)) := ⟨k1, ⟨k2.os, k2.tape, k2.output, k2.size, k2.block⟩⟩
  clear k1 k2 HA hA HR
  obtain ⟨w2, hcl, k1, k2⟩ := run_clearE (E := thE) Try.underlying55 Try.zeroValue67 zeroTh rfl HK.out.1 m (n - m) (cap - m) (by omega) (by omega)
  have hcl : ∀ ty, (Builtin.clear_ #[55] ty #[.slice (some ⟨g, m * 3, none⟩) (n - m) (cap - m)]).run Try.prog w1 = .ok (.tuple #[]) w2 := hcl
  have HZ : Hid (RowE thE w2 B 67 (.slice (some ⟨g, 0, none⟩) m cap) (xs.take i ++ xs.drop j) ∧ w1.grownBy w2 (some g)) := ⟨k1, k2⟩
  clear k1 k2
  go_wp2_with fail
  go_ret
  obtain ⟨k1, k2⟩ := HZ.out
  exact ⟨rfl, k1, ⟨k2.os.trans HK.out.2.os, k2.tape.trans HK.out.2.tape, k2.output.trans HK.out.2.output, Nat.le_trans HK.out.2.size k2.size, fun k hk hne => (k2.block k (Nat.lt_of_lt_of_le hk HK.out.2.size) hne).trans (HK.out.2.block k hk hne)⟩⟩
end Go.Proofs.Ytbkciencikdacaa
