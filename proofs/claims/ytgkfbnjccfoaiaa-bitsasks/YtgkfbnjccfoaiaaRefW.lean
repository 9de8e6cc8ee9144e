/- dolmenref1.Words, dolmenref1.Bytes: what one call answers. -/
import Derived.Test.YtgkfbnjccfoaiaaRefB
import Derived.Test.YtgkfbnjccfoaiaaMathX
namespace Go.Proofs.Ytgkfbnjccfoaiaa
open Go.ChangeShapes Go.WideShapes Go.ChangeAt Go.RowKit
set_option linter.unusedVariables false

theorem made_words {w : World} {base g n : Nat} (h : w.ownsRow base 34 1 (.slice (some ⟨g, 0, none⟩) n n) n (madeCells (Value.int .u64 0).cells (n * 1)).toList) :
    Row w base .u64 34 (.slice (some ⟨g, 0, none⟩) n n) (List.replicate n 0) := by
  unfold Row
  have e : (madeCells (Value.int .u64 0).cells (n * 1)).toList = List.replicate n (Value.int .u64 0) := by
    rw [Nat.mul_one]; exact toList_madeCells_one (.int .u64 0) n
  rw [e] at h
  simpa using h

set_option maxHeartbeats 1000000 in
theorem rwords_some (b off cap : Nat) (zs : List Int) (w : World) (hz : 0 < zs.length) (hbw : b < w.heap.size) (hlc : zs.length ≤ cap) (hlen : (zs.length : Int) ≤ 100000) 
    (hc : ∀ i, i < zs.length → w.cell? ⟨b, off + i, none⟩ = some (.int .u8 (zs.getD i 0))) (hb : bytesIn zs) :
    Calls Try.prog 15 #[.slice (some ⟨b, off, none⟩) zs.length cap] w fun e w' => ∃ v, e = .returned v ∧ Row w' w.heap.size .u64 34 v (wordsOf zs) ∧ Below w.heap.size w w' := by
  obtain ⟨i0, hi, hz0, hz1, hz2⟩ := info_parts Try.info34
  have HC : Hid (∀ i, i < zs.length → w.cell? ⟨b, off + i, none⟩ = some (.int .u8 (zs.getD i 0))) := hc
  clear hc
  go_enter Try.func15, Try.ntmps15
  go_wp2_with (first | (at_make; refine wpList_make_full _ rfl _ _ 23 rfl w.heap.size 34 i0 (.int .u64 0) 1 Try.underlying23 hi hz0 hz1 _ _ _ _ ((zs.length + 7) / 8) rfl rfl (by omega) (by omega) (by rw [hz2]; omega) (by unfold maxLen; omega) (Nat.le_refl _) ?_; intro w1 hown hgrow))
  go_loopw [4] (fun i wr => ∃ k : Nat, k ≤ zs.length ∧ i = .int .i64 k ∧ Row wr w.heap.size .u64 34 (.slice (some ⟨w.heap.size, 0, none⟩) ((zs.length + 7) / 8) ((zs.length + 7) / 8)) (wPart zs k) ∧ Below w.heap.size w wr)
    (fun i _ => zs.length - (intOf i).toNat)
  case atStart => exact ⟨0, by omega, rfl, by rw [wPart_zero]; exact made_words hown, (Below.refl _ _).grown hgrow (Nat.le_refl _) (by simp)⟩
  case round =>
    obtain ⟨k, hk, rfl, hrow, hbel⟩ := hrel
    have hs := hbel.size
    clear hown hgrow
    by_cases hlt : k < zs.length
    · have hcell : wr.cell? ⟨b, off + k, none⟩ = some (.int .u8 (zs.getD k 0)) := (hbel.cell (by exact hbw)).trans (HC.out k hlt)
      have hzb := bytesIn_get hb hlt
      have hk8 : k / 8 < (zs.length + 7) / 8 := by omega
      have hpl := wPart_len zs k
      have hwc := row_cell hrow hpl (k / 8) hk8
      rw [wPart_at zs k _ hk8] at hwc
      have hf := hrow.frozen hpl (k / 8)
      have HR : Hid (Row wr w.heap.size .u64 34 (.slice (some ⟨w.heap.size, 0, none⟩) ((zs.length + 7) / 8) ((zs.length + 7) / 8)) (wPart zs k)) := hrow
      have HWR : Hid (∀ z, zs.getD k 0 = z → bits .or .u64 (wAt zs k (k / 8)) (IntKind.u64.wrap (z * 2 ^ (8 * (k % 8)))) = wAt zs (k + 1) (k / 8)) := fun z hz => word_round zs k hlt hb z hz
      clear hrow hpl
      have HZ : Hid (zs.getD k 0 = zs.getD k 0) := rfl
      generalize hzz : zs.getD k 0 = z at hcell hzb HWR
      generalize wAt zs k (k / 8) = x at hwc HWR
      have HW : Hid (bits .or .u64 x (IntKind.u64.wrap (z * 2 ^ (8 * (k % 8)))) = wAt zs (k + 1) (k / 8)) := HWR.out z rfl
      clear HZ hzz HWR
      obtain ⟨z0, z1⟩ := hzb
      have i1 : (0 : Int) ≤ (k : Int) / 8 := by omega
      have i2 : (k : Int) / 8 < ((zs.length : Int) + 7) / 8 := by omega
      go_wp2
      go_region
      go_wp2
      go_roundw
      case rel =>
        have hst := Row.stored (show Row wr.drew w.heap.size .u64 34 (.slice (some ⟨w.heap.size, 0, none⟩) ((zs.length + 7) / 8) ((zs.length + 7) / 8)) (wPart zs k) from World.ownsRow.drew HR.out) (wPart_len zs k) (k / 8) (wAt zs (k + 1) (k / 8))
        rw [wPart_set zs k hlt] at hst
        rw [HW.out]
        exact ⟨k + 1, by omega, by go_num, hst, hbel.drew.setCell (Nat.le_refl _) _⟩
      case measure => simp [intOf]; omega
    · obtain rfl : k = zs.length := by omega
      rw [wPart_all] at hrow
      have HR : Hid (Row wr w.heap.size .u64 34 (.slice (some ⟨w.heap.size, 0, none⟩) ((zs.length + 7) / 8) ((zs.length + 7) / 8)) (wordsOf zs)) := hrow
      clear hrow
      go_wp2
      go_ret
      exact ⟨_, rfl, HR.out, hbel⟩

theorem rwords_none (ao : Option Addr) (cap : Nat) (w : World) :
    Calls Try.prog 15 #[.slice ao 0 cap] w fun e w' => ∃ v, e = .returned v ∧ Row w' w.heap.size .u64 34 v (wordsOf []) ∧ Below w.heap.size w w' := by
  obtain ⟨i0, hi, hz0, hz1, hz2⟩ := info_parts Try.info34
  have hmk : ∀ w : World, (Instr.makeSlice 23 (.int .i64 0) (.int .i64 0)).run Try.prog w = .ok (.slice (some ⟨w.heap.size, 0, none⟩) 0 0) (w.alloc (.cells #[] 34)) := fun w => by
    have := run_make (P := Try.prog) w 23 34 i0 _ Try.underlying23 hi hz0 .i64 .i64 0 0 (by omega) (by omega) (by rw [hz2]; omega) (by omega)
    rw [hz1, show madeCells (Value.int IntKind.u64 0).cells ((0 : Int).toNat * 1) = #[] by kernel_rfl] at this; exact this
  clear hi hz0 hz1 hz2
  go_enter Try.func15, Try.ntmps15
  go_wp2
  refine wp_loop_rounds 1 ?_
  rw [rounds_succ]
  go_wp2
  go_ret
  exact ⟨_, rfl, World.ownsRow_lit (size := 1) _ #[] 0 (Nat.le_refl _) (by simp) rfl, (Below.refl _ _).alloc (Nat.le_refl _) _⟩

theorem rwords_view (v : Value) (zs : List Int) (w : World) (hv : Vw w.heap.size w .u8 v zs) (hb : bytesIn zs) (hl : (zs.length : Int) ≤ 100000) :
    Calls Try.prog 15 #[v] w fun e w' => ∃ u, e = .returned u ∧ Row w' w.heap.size .u64 34 u (wordsOf zs) ∧ Below w.heap.size w w' := by
  rcases hv with ⟨rfl, ao, cap, rfl, hn, hcm⟩ | ⟨hz, b, off, cap, rfl, k1, k2, k3, k4⟩
  · exact rwords_none ao cap w
  · exact rwords_some b off cap zs w hz k3 k1 hl k4 hb

/-- Not so many bytes: refused. -/
theorem rbytes_range (ao : Option Addr) (len cap : Nat) (n : Int) (w : World) (hl : len ≤ 100000) (hn0 : -9223372036854775808 ≤ n) (hn1 : n ≤ 9223372036854775800) (h : n < 0 ∨ 8 * (len : Int) < n ∨ (n + 7) / 8 ≠ len) :
    Calls Try.prog 11 #[.slice ao len cap, .int .i64 n] w fun e w' => e = .returned (.tuple #[.slice none 0 0, .int .i64 14]) ∧ w' = w := by
  by_cases h0 : n < 0
  · go_enter Try.func11, Try.ntmps11
    go_wp2
    go_ret2
    exact ⟨rfl, rfl⟩
  have h0' : 0 ≤ n := by omega
  by_cases h7 : (n + 7) / 8 = len
  · have h8 : 8 * (len : Int) < n := by omega
    omega
  · have h7' : (((n + 7) / 8 : Int) == (len : Int)) = false := beq_eq_false_iff_ne.2 h7
    have h7b : (((n + 7) / 8 : Int) != (len : Int)) = true := bne_iff_ne.2 h7
    clear h h7
    go_enter Try.func11, Try.ntmps11
    go_wp2
    go_ret2
    exact ⟨rfl, rfl⟩

set_option maxHeartbeats 2000000 in
theorem rbytes_ok (b off cap : Nat) (ws : List Int) (n : Nat) (w : World) (hw : 0 < ws.length) (hl : ws.length ≤ 100000) (hlc : ws.length ≤ cap) (hbw : b < w.heap.size) (hn : (n + 7) / 8 = ws.length) (hwi : wordsIn ws)
    (hc : ∀ i, i < ws.length → w.cell? ⟨b, off + i, none⟩ = some (.int .u64 (ws.getD i 0))) (hz : ∀ j, n ≤ j → j < 8 * ws.length → byteAt ws j = 0) :
    Calls Try.prog 11 #[.slice (some ⟨b, off, none⟩) ws.length cap, .int .i64 n] w fun e w' => ∃ v, e = .returned (.tuple #[v, .int .i64 0]) ∧ Row w' w.heap.size .u8 5 v (bytesUpto ws n) ∧ Below w.heap.size w w' := by
  have hn8 : (n : Int) ≤ 8 * ws.length := by omega
  have hn7 : ((n : Int) + 7) / 8 = (ws.length : Int) := by omega
  have HC : Hid (∀ i, i < ws.length → w.cell? ⟨b, off + i, none⟩ = some (.int .u64 (ws.getD i 0))) := hc
  have HZ : Hid (∀ j, n ≤ j → j < 8 * ws.length → byteAt ws j = 0) := hz
  clear hc hz
  go_enter Try.func11, Try.ntmps11
  go_wp2
  go_loopw [6, 7] (fun v i wr => ∃ k : Nat, k ≤ 8 * ws.length ∧ i = .int .i64 k ∧ Row wr w.heap.size .u8 5 v (bytesUpto ws (min k n)) ∧ Below w.heap.size w wr) (fun _ i _ => 8 * ws.length - (intOf i).toNat)
  case atStart => exact ⟨0, by omega, rfl, by rw [Nat.zero_min]; exact World.ownsRow_nil _ _ _ _, Below.refl _ _⟩
  case round =>
    obtain ⟨k, hk, rfl, hrow, hbel⟩ := hrel
    have hs := hbel.size
    by_cases hlt : k < 8 * ws.length
    · have hk8 : k / 8 < ws.length := by omega
      have hcell : wr.cell? ⟨b, off + k / 8, none⟩ = some (.int .u64 (ws.getD (k / 8) 0)) := (hbel.cell (by exact hbw)).trans (HC.out (k / 8) hk8)
      have hwb := wordsIn_get hwi hk8
      have HB : Hid (ws.getD (k / 8) 0 / 2 ^ (8 * (k % 8)) % 256 = byteAt ws k) := rfl
      generalize ws.getD (k / 8) 0 = y at *
      obtain ⟨y0, y1⟩ := hwb
      by_cases hkn : k < n
      · rw [show min k n = k by omega] at hrow
        have hbl := bytesUpto_len ws k
        go_wp2_with (first
          | (at_builtin; refine wpList_app rfl (.tmp 46) (.tmp 48) rfl w.heap.size _ (bytesUpto ws k) rfl (hrow.alloc _) _ _ [_] rfl (view_one _ _ wr.heap.size rfl) (by rw [hbl]; simp; omega) (by simp; omega) ?_; intro v2 w2 hr2 hb2))
        have hb3 : Below w.heap.size w w2 := (hbel.alloc hs _).trans hb2
        go_roundw
        case rel =>
          rw [HB.out, ← bytesUpto_succ] at hr2
          exact ⟨k + 1, by omega, by go_num, by rw [show min (k + 1) n = k + 1 by omega]; exact hr2, hb3⟩
        case measure => simp [intOf]; omega
      · have hb0 := HZ.out k (by omega) hlt
        have hy0 : (y / 2 ^ (8 * (k % 8)) % 256) = 0 := by rw [HB.out]; exact hb0
        rw [show min k n = n by omega] at hrow
        clear hb0 HB
        go_wp2
        go_roundw
        case rel => exact ⟨k + 1, by omega, by go_num, by rw [show min (k + 1) n = n by omega]; exact hrow, hbel⟩
        case measure => simp [intOf]; omega
    · obtain rfl : k = 8 * ws.length := by omega
      rw [show min (8 * ws.length) n = n by omega] at hrow
      go_wp2
      go_ret2
      exact ⟨_, rfl, hrow, hbel⟩
end Go.Proofs.Ytgkfbnjccfoaiaa
