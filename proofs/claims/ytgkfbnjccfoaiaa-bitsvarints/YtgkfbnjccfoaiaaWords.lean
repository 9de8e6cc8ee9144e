/- bits.Words: what one call answers. -/
import Derived.Test.YtgkfbnjccfoaiaaWord
namespace Go.Proofs.Ytgkfbnjccfoaiaa
open Go.ChangeShapes Go.WideShapes Go.ChangeAt Go.RowKit
set_option linter.unusedVariables false

/-- bits.firstWord of what stands behind the first k bytes. -/
theorem first_at (b off cap n k : Nat) (zs : List Int) (w : World) (hn : n = zs.length - k) (hz : k < zs.length) (hc : ∀ i, i < zs.length → w.cell? ⟨b, off + i, none⟩ = some (.int .u8 (zs.getD i 0))) (hb : bytesIn zs) :
    Calls Try.prog 29 #[.slice (some ⟨b, off + k, none⟩) n cap] w fun e w' => e = .returned (.int .u64 (leW ((zs.drop k).take 8))) ∧ w' = w := by
  have := first_any b (off + k) cap (zs.drop k) w (by simp; omega) (fun i hi => by
    rw [Nat.add_assoc, hc (k + i) (by simp at hi; omega)]
    simp at hi
    simp [List.getD]) (bytesIn_drop hb k)
  rw [List.length_drop, ← hn] at this
  exact this

/-- The one cell of a new block. -/
theorem one_new (w : World) (u : Value) (e : TypeId) : ∀ j v, [u][j]? = some v → (w.alloc (.cells #[u] e)).cell? ((⟨w.heap.size, 0, none⟩ : Addr).add j) = some v := by
  intro j v hj
  match j, hj with
  | 0, hj => simp at hj; subst hj; simp [Addr.add]
  | j + 1, hj => simp at hj

set_option maxHeartbeats 1000000 in
theorem words_some (b off cap : Nat) (zs : List Int) (w : World) (hz : 0 < zs.length) (hbw : b < w.heap.size) (hlc : zs.length ≤ cap) (hlen : (zs.length : Int) ≤ 140737488351232) (hcap : (cap : Int) ≤ 9223372036854775807)
    (hc : ∀ i, i < zs.length → w.cell? ⟨b, off + i, none⟩ = some (.int .u8 (zs.getD i 0))) (hb : bytesIn zs) :
    Calls Try.prog 14 #[.slice (some ⟨b, off, none⟩) zs.length cap] w fun e w' => ∃ v, e = .returned v ∧ Row w' w.heap.size .u64 34 v (wordsOf zs) ∧ Below w.heap.size w w' := by
  obtain ⟨i0, hi, hz0, hz1, hz2⟩ := info_parts Try.info34
  go_enter Try.func14, Try.ntmps14
  go_wp2_with (first | (go_at_call 27; refine (wordsFor_any _ _ (by omega)).mono ?_; rintro e w' ⟨rfl, rfl⟩) | (at_make; refine wpList_make_own _ rfl _ _ 23 rfl w'.heap.size 34 i0 (.int .u64 0) 1 Try.underlying23 hi hz0 hz1 _ _ _ ((zs.length + 7) / 8) rfl rfl (by omega) (by rw [hz2]; omega) (by unfold maxLen; omega) (Nat.le_refl _) ?_; intro w1 hown hgrow))
  go_loopw [3, 4] (fun v i wr => ∃ k : Nat, 8 * k ≤ zs.length + 7 ∧ i = .int .i64 (8 * k) ∧ v = .slice (some ⟨w'.heap.size, 0, none⟩) k ((zs.length + 7) / 8) ∧ wr.ownsRow w'.heap.size 34 1 (.slice (some ⟨w'.heap.size, 0, none⟩) k ((zs.length + 7) / 8)) k ((wordsUpto zs k).map (Value.int .u64)) ∧ Below w'.heap.size w' wr)
    (fun _ i _ => zs.length + 8 - (intOf i).toNat)
  case atStart => exact ⟨0, by omega, rfl, rfl, hown, (Below.refl _ _).grown hgrow (Nat.le_refl _) (by simp)⟩
  case round =>
    obtain ⟨k, hk, rfl, rfl, hrow, hbel⟩ := hrel
    have hs := hbel.size
    have HC : Hid (∀ i, i < zs.length → wr.cell? ⟨b, off + i, none⟩ = some (.int .u8 (zs.getD i 0))) := fun i hi => (hbel.cell (by exact hbw)).trans (hc i hi)
    clear hc hown hgrow
    by_cases hlt : 8 * k < zs.length
    · go_wp2_with (first
        | (go_at_call 29; refine (first_at b off _ _ (8 * k) zs _ (by omega) hlt HC.out hb).mono ?_; rintro e w2 ⟨rfl, rfl⟩)
        | (at_builtin; refine wpList_append_fits _ rfl (.tmp 15) (.tmp 20) 23 rfl w'.heap.size 34 i0 1 Try.underlying23 hi hz1 w'.heap.size k ((zs.length + 7) / 8) _ rfl (hrow.alloc _) ⟨w2.heap.size, 0, none⟩ 1 1 [.int .u64 (leW ((zs.drop (8 * k)).take 8))] rfl rfl (one_new _ _ _) (by simp [Value.oneCell']) (by omega) ?_; intro w3 hown3 hgrow3))
      have R : Hid (w3.ownsRow w'.heap.size 34 1 (.slice (some ⟨w'.heap.size, 0, none⟩) (k + 1) ((zs.length + 7) / 8)) (k + 1) ((wordsUpto zs (k + 1)).map (Value.int .u64)) ∧ Below w'.heap.size w' w3) := by
        refine ⟨by rw [wordsUpto_succ]; simpa using hown3, (hbel.alloc hs _).grown hgrow3 (by simp; omega) (by simp)⟩
      clear hown3 hgrow3 hrow HC
      go_wp2
      go_roundw
      case rel => exact ⟨k + 1, by omega, by go_num, rfl, R.1, R.2⟩
      case measure => simp [intOf]; omega
    · have hk8 : k = (zs.length + 7) / 8 := by omega
      clear HC
      go_wp2
      go_ret
      refine ⟨_, rfl, ?_, hbel⟩
      unfold Row
      rw [wordsOf_len, wordsOf, ← hk8]
      rw [← hk8] at hrow
      exact hrow
end Go.Proofs.Ytgkfbnjccfoaiaa
