/- bits.Words of any bytes; what shape a row has. -/
import Derived.Test.YtgkfbnjccfoaiaaBytes
namespace Go.Proofs.Ytgkfbnjccfoaiaa
open Go.ChangeShapes Go.WideShapes Go.ChangeAt Go.RowKit
set_option linter.unusedVariables false

theorem row_shape {w : World} {base : Nat} {k : IntKind} {e : TypeId} {v : Value} {zs : List Int} (h : Row w base k e v zs) : ∃ ao cap, v = .slice ao zs.length cap := by
  unfold Row at h
  obtain ⟨h1, h2⟩ := h
  rcases h2 with ⟨h2, h3⟩ | ⟨g, cap, cur, hv, _⟩
  · exact ⟨none, 0, by rw [h3]; exact h2⟩
  · exact ⟨_, cap, hv⟩

set_option maxHeartbeats 1000000 in
theorem words_none (ao : Option Addr) (cap : Nat) (w : World) :
    Calls Try.prog 14 #[.slice ao 0 cap] w fun e w' => ∃ v, e = .returned v ∧ Row w' w.heap.size .u64 34 v (wordsOf []) ∧ Below w.heap.size w w' := by
  obtain ⟨i0, hi, hz0, hz1, hz2⟩ := info_parts Try.info34
  have hmk : ∀ w : World, (Instr.makeSlice 23 (.int .i64 0) (.int .i64 0)).run Try.prog w = .ok (.slice (some ⟨w.heap.size, 0, none⟩) 0 0) (w.alloc (.cells #[] 34)) := fun w => by
    have := run_make (P := Try.prog) w 23 34 i0 _ Try.underlying23 hi hz0 .i64 .i64 0 0 (by omega) (by omega) (by rw [hz2]; omega) (by omega)
    rw [hz1, show madeCells (Value.int IntKind.u64 0).cells ((0 : Int).toNat * 1) = #[] by kernel_rfl] at this; exact this
  clear hi hz0 hz1 hz2
  go_enter Try.func14, Try.ntmps14
  go_wp2_with (first | (go_at_call 27; refine (wordsFor_any 0 _ (by omega)).mono ?_; rintro e w' ⟨rfl, rfl⟩))
  refine wp_loop_rounds 1 ?_
  rw [rounds_succ]
  go_wp2
  go_ret
  exact ⟨_, rfl, World.ownsRow_lit (size := 1) _ #[] 0 (Nat.le_refl _) (by simp) rfl, (Below.refl _ _).alloc (Nat.le_refl _) _⟩

/-- bits.Words of any bytes. -/
theorem words_view (v : Value) (zs : List Int) (w : World) (hv : Vw w.heap.size w .u8 v zs) (hb : bytesIn zs) (hl : (zs.length : Int) ≤ 140737488351232) :
    Calls Try.prog 14 #[v] w fun e w' => ∃ u, e = .returned u ∧ Row w' w.heap.size .u64 34 u (wordsOf zs) ∧ Below w.heap.size w w' := by
  rcases hv with ⟨rfl, ao, cap, rfl, hn, hcm⟩ | ⟨hz, b, off, cap, rfl, k1, k2, k3, k4⟩
  · exact words_none ao cap w
  · exact words_some b off cap zs w hz k3 k1 hl (by unfold maxLen at k2; omega) k4 hb
end Go.Proofs.Ytgkfbnjccfoaiaa
