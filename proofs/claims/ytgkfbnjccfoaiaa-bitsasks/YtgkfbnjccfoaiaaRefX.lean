/- dolmenref1.Bytes: refused for what stands behind; of any words. -/
import Derived.Test.YtgkfbnjccfoaiaaRefW
namespace Go.Proofs.Ytgkfbnjccfoaiaa
open Go.ChangeShapes Go.WideShapes Go.ChangeAt Go.RowKit
set_option linter.unusedVariables false

set_option maxHeartbeats 2000000 in
theorem rbytes_behind (b off cap : Nat) (ws : List Int) (n J : Nat) (w : World) (hw : 0 < ws.length) (hl : ws.length ≤ 100000) (hlc : ws.length ≤ cap) (hbw : b < w.heap.size) (hn : (n + 7) / 8 = ws.length) (hwi : wordsIn ws)
    (hc : ∀ i, i < ws.length → w.cell? ⟨b, off + i, none⟩ = some (.int .u64 (ws.getD i 0))) (hJ1 : n ≤ J) (hJ2 : J < 8 * ws.length) (hJ3 : byteAt ws J ≠ 0) (hz : ∀ j, n ≤ j → j < J → byteAt ws j = 0) :
    Calls Try.prog 11 #[.slice (some ⟨b, off, none⟩) ws.length cap, .int .i64 n] w fun e w' => e = .returned (.tuple #[.slice none 0 0, .int .i64 14]) ∧ Below w.heap.size w w' := by
  have hn8 : (n : Int) ≤ 8 * ws.length := by omega
  have hn7 : ((n : Int) + 7) / 8 = (ws.length : Int) := by omega
  have HC : Hid (∀ i, i < ws.length → w.cell? ⟨b, off + i, none⟩ = some (.int .u64 (ws.getD i 0))) := hc
  have HZ : Hid (∀ j, n ≤ j → j < J → byteAt ws j = 0) := hz
  have HJ : Hid (byteAt ws J ≠ 0) := hJ3
  clear hc hz hJ3
  go_enter Try.func11, Try.ntmps11
  go_wp2
  go_loopw [6, 7] (fun v i wr => ∃ k : Nat, k ≤ J ∧ i = .int .i64 k ∧ Row wr w.heap.size .u8 5 v (bytesUpto ws (min k n)) ∧ Below w.heap.size w wr) (fun _ i _ => 8 * ws.length - (intOf i).toNat)
  case atStart => exact ⟨0, by omega, rfl, by rw [Nat.zero_min]; exact World.ownsRow_nil _ _ _ _, Below.refl _ _⟩
  case round =>
    obtain ⟨k, hk, rfl, hrow, hbel⟩ := hrel
    have hs := hbel.size
    have hlt : k < 8 * ws.length := by omega
    have hk8 : k / 8 < ws.length := by omega
    have hcell : wr.cell? ⟨b, off + k / 8, none⟩ = some (.int .u64 (ws.getD (k / 8) 0)) := (hbel.cell (by exact hbw)).trans (HC.out (k / 8) hk8)
    have hwb := wordsIn_get hwi hk8
    have HB : Hid (ws.getD (k / 8) 0 / 2 ^ (8 * (k % 8)) % 256 = byteAt ws k) := rfl
    generalize ws.getD (k / 8) 0 = y at *
    obtain ⟨y0, y1⟩ := hwb
    by_cases hkn : k < n
    · rw [show min k n = k by omega] at hrow
      have hbl := bytesUpto_len ws k
      go_wp2_with (first
        | (at_builtin; refine wpList_app rfl (.tmp 46) (.tmp 48) rfl w.heap.size _ (bytesUpto ws k) rfl (hrow.alloc _) _ _ [_] rfl (view_one _ _ wr.heap.size rfl) (by rw [hbl]; simp; omega) (by simp; omega) ?_; intro v2 w2 hr2 hb2))
      have hb3 : Below w.heap.size w w2 := (hbel.alloc hs _).trans hb2
      go_roundw
      case rel =>
        rw [HB.out, ← bytesUpto_succ] at hr2
        exact ⟨k + 1, by omega, by go_num, by rw [show min (k + 1) n = k + 1 by omega]; exact hr2, hb3⟩
      case measure => simp [intOf]; omega
    · rw [show min k n = n by omega] at hrow
      by_cases hkJ : k < J
      · have hb0 := HZ.out k (by omega) hkJ
        have hy0 : (y / 2 ^ (8 * (k % 8)) % 256) = 0 := by rw [HB.out]; exact hb0
        clear hb0 HB
        go_wp2
        go_roundw
        case rel => exact ⟨k + 1, by omega, by go_num, by rw [show min (k + 1) n = n by omega]; exact hrow, hbel⟩
        case measure => simp [intOf]; omega
      · obtain rfl : k = J := by omega
        have hy0 : (y / 2 ^ (8 * (k % 8)) % 256 != 0) = true := bne_iff_ne.2 (by rw [HB.out]; exact HJ.out)
        clear HB HJ
        go_wp2
        go_ret2
        exact ⟨rfl, hbel⟩

theorem rbytes_none (ao : Option Addr) (cap : Nat) (w : World) :
    Calls Try.prog 11 #[.slice ao 0 cap, .int .i64 0] w fun e w' => ∃ v, e = .returned (.tuple #[v, .int .i64 0]) ∧ Row w' w.heap.size .u8 5 v (bytesUpto [] 0) ∧ Below w.heap.size w w' := by
  go_enter Try.func11, Try.ntmps11
  go_wp2
  refine wp_loop_rounds 1 ?_
  rw [rounds_succ]
  go_wp2
  go_ret2
  exact ⟨_, rfl, World.ownsRow_nil _ _ _ _, Below.refl _ _⟩

/-- dolmenref1.Bytes, where so many bytes are theirs. -/
theorem rbytes_good (v : Value) (ws : List Int) (n : Nat) (w : World) (hv : Vw w.heap.size w .u64 v ws) (hwi : wordsIn ws) (hl : ws.length ≤ 100000) (h : bytesOk ws n) :
    Calls Try.prog 11 #[v, .int .i64 n] w fun e w' => ∃ u, e = .returned (.tuple #[u, .int .i64 0]) ∧ Row w' w.heap.size .u8 5 u (bytesUpto ws n) ∧ Below w.heap.size w w' := by
  have h0 := h
  obtain ⟨_, h1, h2, _⟩ := h0
  rcases hv with ⟨rfl, ao, cap, rfl, hn, hcm⟩ | ⟨hz, b, off, cap, rfl, k1, k2, k3, k4⟩
  · obtain rfl : n = 0 := by simp at h1; omega
    exact rbytes_none ao cap w
  · exact rbytes_ok b off cap ws n w hz hl k1 k3 (by omega) hwi k4 ((behind_iff ws n hwi (by omega)).1 h)

/-- dolmenref1.Bytes, where they are not. -/
theorem rbytes_bad (v : Value) (ws : List Int) (n : Int) (w : World) (hv : Vw w.heap.size w .u64 v ws) (hwi : wordsIn ws) (hl : ws.length ≤ 100000) (hn0 : -9223372036854775808 ≤ n) (hn1 : n ≤ 9223372036854775800) (h : ¬ bytesOk ws n) :
    Calls Try.prog 11 #[v, .int .i64 n] w fun e w' => e = .returned (.tuple #[.slice none 0 0, .int .i64 14]) ∧ Below w.heap.size w w' := by
  by_cases hr : n < 0 ∨ 8 * (ws.length : Int) < n ∨ (n + 7) / 8 ≠ ws.length
  · obtain ⟨ao, cap, rfl⟩ : ∃ ao cap, v = .slice ao ws.length cap := by
      rcases hv with ⟨rfl, ao, cap, rfl, hn, hcm⟩ | ⟨hz, b, off, cap, rfl, k1, k2, k3, k4⟩
      · exact ⟨ao, cap, rfl⟩
      · exact ⟨_, cap, rfl⟩
    refine (rbytes_range ao ws.length cap n w hl hn0 hn1 hr).mono ?_
    rintro e w' ⟨rfl, rfl⟩
    exact ⟨rfl, Below.refl _ _⟩
  · obtain ⟨m, rfl⟩ := Int.eq_ofNat_of_zero_le (show 0 ≤ n by omega)
    have hm : (m + 7) / 8 = ws.length := by omega
    have hex : ∃ j, m ≤ j ∧ j < 8 * ws.length ∧ byteAt ws j ≠ 0 := by
      by_cases hh : ∃ j, m ≤ j ∧ j < 8 * ws.length ∧ byteAt ws j ≠ 0
      · exact hh
      · refine absurd ((behind_iff ws m hwi hm).2 fun j h1 h2 => ?_) h
        by_cases hz : byteAt ws j = 0
        · exact hz
        · exact absurd ⟨j, h1, h2, hz⟩ hh
    obtain ⟨J, j1, j2, j3, j4⟩ := least_behind ws m _ hex
    rcases hv with ⟨rfl, ao, cap, rfl, hn, hcm⟩ | ⟨hz, b, off, cap, rfl, k1, k2, k3, k4⟩
    · simp at j2
    · exact rbytes_behind b off cap ws m J w hz hl k1 k3 hm hwi k4 j1 j2 j3 j4
end Go.Proofs.Ytgkfbnjccfoaiaa
