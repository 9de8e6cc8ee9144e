/- bits.Bytes: what one call answers. -/
import Derived.Test.YtgkfbnjccfoaiaaArgs
import Derived.Test.YtgkfbnjccfoaiaaMathB
namespace Go.Proofs.Ytgkfbnjccfoaiaa
open Go.ChangeShapes Go.WideShapes Go.ChangeAt Go.RowKit
set_option linter.unusedVariables false

theorem made_row {w : World} {base g n : Nat} (h : w.ownsRow base 5 1 (.slice (some ⟨g, 0, none⟩) n n) n (madeCells (Value.int .u8 0).cells (n * 1)).toList) :
    Row w base .u8 5 (.slice (some ⟨g, 0, none⟩) n n) (bytesUpto [] 0 ++ List.replicate (n - 0) 0) := by
  unfold Row
  have e : (madeCells (Value.int .u8 0).cells (n * 1)).toList = List.replicate n (Value.int .u8 0) := by
    rw [Nat.mul_one]; exact toList_madeCells_one (.int .u8 0) n
  rw [e] at h
  simpa [bytesUpto] using h
theorem row_cell {w : World} {base g cap n : Nat} {k : IntKind} {e : TypeId} {zs : List Int} (h : Row w base k e (.slice (some ⟨g, 0, none⟩) n cap) zs) (hn : zs.length = n) (j : Nat) (hj : j < n) : w.cell? ⟨g, j, none⟩ = some (.int k (zs.getD j 0)) := by
  unfold Row at h
  subst hn
  rw [h.cellAt j (by omega)]
  simp [hj]

/-- Not so many bytes: refused. -/
theorem bytes_range (ao : Option Addr) (len cap : Nat) (n : Int) (w : World) (hl : len ≤ 100000) (hn0 : -9223372036854775808 ≤ n) (hn1 : n ≤ 9223372036854775807) (h : n < 0 ∨ 8 * (len : Int) < n ∨ (n + 7) / 8 ≠ len) :
    Calls Try.prog 10 #[.slice ao len cap, .int .i64 n] w fun e w' => e = .returned (.tuple #[.slice none 0 0, .iface 52 (.int .i64 14)]) ∧ w' = w := by
  by_cases h0 : n < 0
  · go_enter Try.func10, Try.ntmps10
    go_wp2
    go_ret2
    exact ⟨rfl, rfl⟩
  by_cases h8 : 8 * (len : Int) < n
  · go_enter Try.func10, Try.ntmps10
    go_wp2
    go_ret2
    exact ⟨rfl, rfl⟩
  have h7 : (n + 7) / 8 ≠ len := by omega
  obtain ⟨m, rfl⟩ := Int.eq_ofNat_of_zero_le (show 0 ≤ n by omega)
  have h7' : ((((m + 7) / 8 : Nat) : Int) == (len : Int)) = false := beq_eq_false_iff_ne.2 (by omega)
  clear h
  go_enter Try.func10, Try.ntmps10
  go_wp2_with (first | (go_at_call 27; refine (wordsFor_any _ _ (by omega)).mono ?_; rintro e w' ⟨rfl, rfl⟩))
  go_ret2
  exact ⟨rfl, rfl⟩

set_option maxHeartbeats 1000000 in
/-- Something behind the last byte: refused. -/
theorem bytes_behind (b off cap : Nat) (ws : List Int) (n : Nat) (w : World) (hw : 0 < ws.length) (hl : ws.length ≤ 100000) (hn : (n + 7) / 8 = ws.length) (hr : n % 8 ≠ 0)
    (hc : w.cell? ⟨b, off + (ws.length - 1), none⟩ = some (.int .u64 (ws.getD (ws.length - 1) 0))) (hne : ws.getD (ws.length - 1) 0 / 2 ^ (8 * (n % 8)) ≠ 0) :
    Calls Try.prog 10 #[.slice (some ⟨b, off, none⟩) ws.length cap, .int .i64 n] w fun e w' => e = .returned (.tuple #[.slice none 0 0, .iface 52 (.int .i64 14)]) ∧ w' = w := by
  have hn8 : (n : Int) ≤ 8 * ws.length := by omega
  generalize ws.getD (ws.length - 1) 0 = x at *
  have hx : (x / 2 ^ (8 * (n % 8)) != 0) = true := bne_iff_ne.2 hne
  have hr' : ((n : Int) % 8 != 0) = true := bne_iff_ne.2 (by omega)
  clear hne
  go_enter Try.func10, Try.ntmps10
  go_wp2_with (first | (go_at_call 27; refine (wordsFor_any _ _ (by omega)).mono ?_; rw [hn]; rintro e w' ⟨rfl, rfl⟩))
  go_ret2
  exact ⟨rfl, rfl⟩

set_option maxHeartbeats 2000000 in
/-- The bytes, in new memory. -/
theorem bytes_some (b off cap : Nat) (ws : List Int) (n : Nat) (w : World) (hw : 0 < ws.length) (hl : ws.length ≤ 100000) (hlc : ws.length ≤ cap) (hbw : b < w.heap.size) (hn : (n + 7) / 8 = ws.length) (hwi : wordsIn ws)
    (hc : ∀ i, i < ws.length → w.cell? ⟨b, off + i, none⟩ = some (.int .u64 (ws.getD i 0))) (hz : n % 8 ≠ 0 → ws.getD (ws.length - 1) 0 / 2 ^ (8 * (n % 8)) = 0) :
    Calls Try.prog 10 #[.slice (some ⟨b, off, none⟩) ws.length cap, .int .i64 n] w fun e w' => ∃ v, e = .returned (.tuple #[v, .nilIface]) ∧ Row w' w.heap.size .u8 5 v (bytesUpto ws n) ∧ Below w.heap.size w w' := by
  obtain ⟨i0, hi, hz0, hz1, hz2⟩ := info_parts Try.info5
  have hn8 : (n : Int) ≤ 8 * ws.length := by omega
  have hcl := hc (ws.length - 1) (by omega)
  have HC : Hid (∀ i, i < ws.length → w.cell? ⟨b, off + i, none⟩ = some (.int .u64 (ws.getD i 0))) := hc
  clear hc
  have hx : ∃ x, x = ws.getD (ws.length - 1) 0 := ⟨_, rfl⟩
  obtain ⟨x, hx⟩ := hx
  rw [← hx] at hcl hz
  have hcase : ((n : Int) % 8 != 0) = false ∨ (((n : Int) % 8 != 0) = true ∧ (x / 2 ^ (8 * (n % 8)) != 0) = false) := by
    by_cases h : n % 8 = 0
    · left; exact bne_eq_false_iff_eq.2 (by omega)
    · right; exact ⟨bne_iff_ne.2 (by omega), bne_eq_false_iff_eq.2 (hz h)⟩
  clear hz hx
  rcases hcase with hr | ⟨hr, hx0⟩
  all_goals
    go_enter Try.func10, Try.ntmps10
    go_wp2_with (first | (go_at_call 27; refine (wordsFor_any _ _ (by omega)).mono ?_; rw [hn]; rintro e w' ⟨rfl, rfl⟩) | (at_make; refine wpList_make_full _ rfl _ _ 22 rfl w'.heap.size 5 i0 (.int .u8 0) 1 Try.underlying22 hi hz0 hz1 _ _ _ _ n rfl rfl (by omega) (by omega) (by rw [hz2]; omega) (by unfold maxLen; omega) (Nat.le_refl _) ?_; intro w1 hown hgrow))
    go_loopw [47] (fun i wr => ∃ k : Nat, k ≤ n ∧ i = .int .i64 k ∧ Row wr w'.heap.size .u8 5 (.slice (some ⟨w'.heap.size, 0, none⟩) n n) (bytesUpto ws k ++ List.replicate (n - k) 0) ∧ Below w'.heap.size w' wr)
      (fun i _ => n - (intOf i).toNat)
    case atStart => exact ⟨0, by omega, rfl, made_row hown, (Below.refl _ _).grown hgrow (Nat.le_refl _) (by simp)⟩
    case round =>
      obtain ⟨k, hk, rfl, hrow, hbel⟩ := hrel
      have hs := hbel.size
      clear hown hgrow
      by_cases hlt : k < n
      · have hk8 : k / 8 < ws.length := by omega
        have hcell : wr.cell? ⟨b, off + k / 8, none⟩ = some (.int .u64 (ws.getD (k / 8) 0)) := (hbel.cell (by exact hbw)).trans (HC.out (k / 8) hk8)
        have hwb := wordsIn_get hwi hk8
        have HB : Hid (ws.getD (k / 8) 0 / 2 ^ (8 * (k % 8)) % 256 = byteAt ws k) := rfl
        have hlen : (bytesUpto ws k ++ List.replicate (n - k) 0).length = n := by rw [List.length_append, bytesUpto_len, List.length_replicate]; omega
        have hf := hrow.frozen hlen k
        have hck := row_cell hrow hlen k hlt
        have HR : Hid (Row wr w'.heap.size .u8 5 (.slice (some ⟨w'.heap.size, 0, none⟩) n n) (bytesUpto ws k ++ List.replicate (n - k) 0)) := hrow
        clear hrow
        generalize ws.getD (k / 8) 0 = y at *
        obtain ⟨y0, y1⟩ := hwb
        go_wp2
        go_roundw
        case rel =>
          rw [HB.out]
          have hst := HR.out.stored hlen k (byteAt ws k)
          rw [bytesUpto_set ws k n hlt] at hst
          exact ⟨k + 1, by omega, by go_num, hst, hbel.setCell (Nat.le_refl _) _⟩
        case measure => simp [intOf]; omega
      · obtain rfl : k = n := by omega
        have HR : Hid (Row wr w'.heap.size .u8 5 (.slice (some ⟨w'.heap.size, 0, none⟩) k k) (bytesUpto ws k)) := by unfold Hid; simpa using hrow
        clear hrow
        go_wp2
        go_ret2
        exact ⟨_, rfl, HR.out, hbel⟩

set_option maxHeartbeats 1000000 in
theorem bytes_none (ao : Option Addr) (cap : Nat) (w : World) :
    Calls Try.prog 10 #[.slice ao 0 cap, .int .i64 0] w fun e w' => ∃ v, e = .returned (.tuple #[v, .nilIface]) ∧ Row w' w.heap.size .u8 5 v (bytesUpto [] 0) ∧ Below w.heap.size w w' := by
  obtain ⟨i0, hi, hz0, hz1, hz2⟩ := info_parts Try.info5
  have hmk : ∀ w : World, (Instr.makeSlice 22 (.int .i64 0) (.int .i64 0)).run Try.prog w = .ok (.slice (some ⟨w.heap.size, 0, none⟩) 0 0) (w.alloc (.cells #[] 5)) := fun w => by
    have := run_make (P := Try.prog) w 22 5 i0 _ Try.underlying22 hi hz0 .i64 .i64 0 0 (by omega) (by omega) (by rw [hz2]; omega) (by omega)
    rw [hz1, show madeCells (Value.int IntKind.u8 0).cells ((0 : Int).toNat * 1) = #[] by kernel_rfl] at this; exact this
  clear hi hz0 hz1 hz2
  go_enter Try.func10, Try.ntmps10
  go_wp2_with (first | (go_at_call 27; refine (wordsFor_any 0 _ (by omega)).mono ?_; rintro e w' ⟨rfl, rfl⟩))
  refine wp_loop_rounds 1 ?_
  rw [rounds_succ]
  go_wp2
  go_ret2
  exact ⟨_, rfl, row_empty _ _ (Nat.le_refl _), (Below.refl _ _).alloc (Nat.le_refl _) _⟩

/-- bits.Bytes, where so many bytes are theirs. -/
theorem bytes_ok (v : Value) (ws : List Int) (n : Nat) (w : World) (hv : Vw w.heap.size w .u64 v ws) (hwi : wordsIn ws) (hl : ws.length ≤ 100000) (h : bytesOk ws n) :
    Calls Try.prog 10 #[v, .int .i64 n] w fun e w' => ∃ u, e = .returned (.tuple #[u, .nilIface]) ∧ Row w' w.heap.size .u8 5 u (bytesUpto ws n) ∧ Below w.heap.size w w' := by
  obtain ⟨h0, h1, h2, h3⟩ := h
  rcases hv with ⟨rfl, ao, cap, rfl, hn, hcm⟩ | ⟨hz, b, off, cap, rfl, k1, k2, k3, k4⟩
  · obtain rfl : n = 0 := by simp at h1; omega
    exact bytes_none ao cap w
  · exact bytes_some b off cap ws n w hz hl k1 k3 (by omega) hwi k4 (fun h => by have := h3 (by omega); rwa [show ((n : Int) % 8).toNat = n % 8 by omega] at this)

/-- bits.Bytes, where they are not. -/
theorem bytes_bad (v : Value) (ws : List Int) (n : Int) (w : World) (B : Nat) (hv : Vw B w .u64 v ws) (hl : ws.length ≤ 100000) (hn0 : -9223372036854775808 ≤ n) (hn1 : n ≤ 9223372036854775807) (h : ¬ bytesOk ws n) :
    Calls Try.prog 10 #[v, .int .i64 n] w fun e w' => e = .returned (.tuple #[.slice none 0 0, .iface 52 (.int .i64 14)]) ∧ w' = w := by
  by_cases hr : n < 0 ∨ 8 * (ws.length : Int) < n ∨ (n + 7) / 8 ≠ ws.length
  · obtain ⟨ao, cap, rfl⟩ : ∃ ao cap, v = .slice ao ws.length cap := by
      rcases hv with ⟨rfl, ao, cap, rfl, hn, hcm⟩ | ⟨hz, b, off, cap, rfl, k1, k2, k3, k4⟩
      · exact ⟨ao, cap, rfl⟩
      · exact ⟨_, cap, rfl⟩
    exact bytes_range ao ws.length cap n w hl hn0 hn1 hr
  · obtain ⟨m, rfl⟩ := Int.eq_ofNat_of_zero_le (show 0 ≤ n by omega)
    have h3 : ¬ ((m : Int) % 8 ≠ 0 → ws.getD (ws.length - 1) 0 / 2 ^ (8 * ((m : Int) % 8).toNat) = 0) := fun h3 => h ⟨by omega, by omega, by omega, h3⟩
    rcases hv with ⟨rfl, ao, cap, rfl, hn, hcm⟩ | ⟨hz, b, off, cap, rfl, k1, k2, k3, k4⟩
    · simp at hr; omega
    · have h4 : m % 8 ≠ 0 ∧ ws.getD (ws.length - 1) 0 / 2 ^ (8 * (m % 8)) ≠ 0 := by
        refine ⟨fun e => h3 (fun k => absurd (show (m : Int) % 8 = 0 by omega) k), fun e => h3 (fun _ => by rwa [show ((m : Int) % 8).toNat = m % 8 by omega])⟩
      exact bytes_behind b off cap ws m w hz hl (by omega) h4.1 (k4 _ (by omega)) h4.2
end Go.Proofs.Ytgkfbnjccfoaiaa
