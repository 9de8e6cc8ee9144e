/- bits.groupsOf, bits.Varint: what one call answers. -/
import Derived.Test.YtgkfbnjccfoaiaaRows
import Derived.Test.YtgkfbnjccfoaiaaMathV
import Derived.WalkKit
import Derived.ProofKit
import Derived.OpenShut
import Derived.Below
namespace Go.Proofs.Ytgkfbnjccfoaiaa
open Go.ChangeShapes Go.WideShapes Go.ChangeAt Go.RowKit
set_option linter.unusedVariables false

/-- The slice value v is a row of the call's own (blocks from 'base' on), and holds the numbers zs. -/
def Row (w : World) (base : Nat) (k : IntKind) (e : TypeId) (v : Value) (zs : List Int) : Prop := w.ownsRow base e 1 v zs.length (zs.map (Value.int k))

theorem groups_any (x : Int) (w : World) (h0 : 0 ≤ x) (h1 : x < 18446744073709551616) :
    Calls Try.prog 32 #[.int .u64 x] w fun e w' => e = .returned (.int .i64 ((vint x).length : Int)) ∧ w' = w := by
  have HT : Hid ((vint x).length ≤ 10) := vint_ten (by omega)
  go_enter Try.func32, Try.ntmps32
  go_wp2
  go_loop [0, 3] (fun a n => ∃ (y : Int) (m : Nat), 0 ≤ y ∧ y < 18446744073709551616 ∧ m ≤ 9 ∧ Hid (m + (vint y).length = (vint x).length) ∧ a = .int .u64 y ∧ n = .int .i64 ((m : Int) + 1)) (fun a _ => (intOf a).toNat)
  case atStart => exact ⟨x, 0, h0, h1, by omega, Nat.zero_add _, rfl, rfl⟩
  case round =>
    obtain ⟨y, m, hy0, hy, hm9, hm, rfl, rfl⟩ := hrel
    by_cases hlt : 128 ≤ y
    · go_wp2
      go_round
      case rel =>
        have hm := hm.out
        have hT := HT.out
        have e := vint_more (v := y) (by omega)
        rw [e, List.length_cons] at hm
        have hp := vint_pos (y / 128)
        exact ⟨y / 128, m + 1, by omega, by omega, by omega, by unfold Hid; omega, rfl, by go_num⟩
      case measure => simp [intOf]; omega
    · go_wp2
      go_ret
      have hm := hm.out
      have e := vint_one (v := y) (by omega)
      rw [e] at hm
      exact ⟨by rw [← hm]; simp, rfl⟩

theorem Try.info5 : (Try.prog.info? 5).map (fun i => (i.zero, i.size, i.bytes)) = some (some (.int .u8 0), 1, 1) := by kernel_rfl

set_option maxHeartbeats 1000000 in
theorem varint1 (x : Int) (w : World) (h0 : 0 ≤ x) (h1 : x < 18446744073709551616) (hn : (vint x).length = 1) :
    Calls Try.prog 22 #[.int .u64 x] w fun e w' => ∃ v, e = .returned v ∧ Row w' w.heap.size .u8 5 v (vint x) ∧ Below w.heap.size w w' := by
  obtain ⟨i0, hi, hz0, hz1, hz2⟩ := info_parts Try.info5
  have hmk : ∀ w : World, (Instr.makeSlice 22 (.int .i64 1) (.int .i64 1)).run Try.prog w = .ok (.slice (some ⟨w.heap.size, 0, none⟩) 1 1) (w.alloc (.cells #[.int .u8 0] 5)) := fun w => by
    have := run_make (P := Try.prog) w 22 5 i0 _ Try.underlying22 hi hz0 .i64 .i64 1 1 (by omega) (by omega) (by rw [hz2]; omega) (by omega)
    rw [hz1, show madeCells (Value.int IntKind.u8 0).cells ((1 : Int).toNat * 1) = #[.int .u8 0] by kernel_rfl] at this; exact this
  clear hi hz0 hz1 hz2
  have HE : Hid (vint x = _) := vint_eq1 h0 hn
  go_enter Try.func22, Try.ntmps22
  go_wp2_with (go_at_call 32; refine (groups_any _ _ (by assumption) (by assumption)).mono ?_; rintro e w' ⟨rfl, rfl⟩)
  go_ret
  refine ⟨_, rfl, ?_, (Below.refl _ _).alloc (Nat.le_refl _) _⟩
  unfold Row
  rw [HE.out]
  simp only [or128, not128']
  exact World.ownsRow_lit (size := 1) _ _ 1 (Nat.le_refl _) (by decide) (by rfl)
set_option maxHeartbeats 1000000 in
theorem varint2 (x : Int) (w : World) (h0 : 0 ≤ x) (h1 : x < 18446744073709551616) (hn : (vint x).length = 2) :
    Calls Try.prog 22 #[.int .u64 x] w fun e w' => ∃ v, e = .returned v ∧ Row w' w.heap.size .u8 5 v (vint x) ∧ Below w.heap.size w w' := by
  obtain ⟨i0, hi, hz0, hz1, hz2⟩ := info_parts Try.info5
  have hmk : ∀ w : World, (Instr.makeSlice 22 (.int .i64 2) (.int .i64 2)).run Try.prog w = .ok (.slice (some ⟨w.heap.size, 0, none⟩) 2 2) (w.alloc (.cells #[.int .u8 0, .int .u8 0] 5)) := fun w => by
    have := run_make (P := Try.prog) w 22 5 i0 _ Try.underlying22 hi hz0 .i64 .i64 2 2 (by omega) (by omega) (by rw [hz2]; omega) (by omega)
    rw [hz1, show madeCells (Value.int IntKind.u8 0).cells ((2 : Int).toNat * 1) = #[.int .u8 0, .int .u8 0] by kernel_rfl] at this; exact this
  clear hi hz0 hz1 hz2
  have HE : Hid (vint x = _) := vint_eq2 h0 hn
  go_enter Try.func22, Try.ntmps22
  go_wp2_with (go_at_call 32; refine (groups_any _ _ (by assumption) (by assumption)).mono ?_; rintro e w' ⟨rfl, rfl⟩)
  go_ret
  refine ⟨_, rfl, ?_, (Below.refl _ _).alloc (Nat.le_refl _) _⟩
  unfold Row
  rw [HE.out]
  simp only [or128, not128']
  exact World.ownsRow_lit (size := 1) _ _ 2 (Nat.le_refl _) (by decide) (by rfl)
set_option maxHeartbeats 1000000 in
theorem varint3 (x : Int) (w : World) (h0 : 0 ≤ x) (h1 : x < 18446744073709551616) (hn : (vint x).length = 3) :
    Calls Try.prog 22 #[.int .u64 x] w fun e w' => ∃ v, e = .returned v ∧ Row w' w.heap.size .u8 5 v (vint x) ∧ Below w.heap.size w w' := by
  obtain ⟨i0, hi, hz0, hz1, hz2⟩ := info_parts Try.info5
  have hmk : ∀ w : World, (Instr.makeSlice 22 (.int .i64 3) (.int .i64 3)).run Try.prog w = .ok (.slice (some ⟨w.heap.size, 0, none⟩) 3 3) (w.alloc (.cells #[.int .u8 0, .int .u8 0, .int .u8 0] 5)) := fun w => by
    have := run_make (P := Try.prog) w 22 5 i0 _ Try.underlying22 hi hz0 .i64 .i64 3 3 (by omega) (by omega) (by rw [hz2]; omega) (by omega)
    rw [hz1, show madeCells (Value.int IntKind.u8 0).cells ((3 : Int).toNat * 1) = #[.int .u8 0, .int .u8 0, .int .u8 0] by kernel_rfl] at this; exact this
  clear hi hz0 hz1 hz2
  have HE : Hid (vint x = _) := vint_eq3 h0 hn
  go_enter Try.func22, Try.ntmps22
  go_wp2_with (go_at_call 32; refine (groups_any _ _ (by assumption) (by assumption)).mono ?_; rintro e w' ⟨rfl, rfl⟩)
  go_ret
  refine ⟨_, rfl, ?_, (Below.refl _ _).alloc (Nat.le_refl _) _⟩
  unfold Row
  rw [HE.out]
  simp only [or128, not128']
  exact World.ownsRow_lit (size := 1) _ _ 3 (Nat.le_refl _) (by decide) (by rfl)
set_option maxHeartbeats 1000000 in
theorem varint4 (x : Int) (w : World) (h0 : 0 ≤ x) (h1 : x < 18446744073709551616) (hn : (vint x).length = 4) :
    Calls Try.prog 22 #[.int .u64 x] w fun e w' => ∃ v, e = .returned v ∧ Row w' w.heap.size .u8 5 v (vint x) ∧ Below w.heap.size w w' := by
  obtain ⟨i0, hi, hz0, hz1, hz2⟩ := info_parts Try.info5
  have hmk : ∀ w : World, (Instr.makeSlice 22 (.int .i64 4) (.int .i64 4)).run Try.prog w = .ok (.slice (some ⟨w.heap.size, 0, none⟩) 4 4) (w.alloc (.cells #[.int .u8 0, .int .u8 0, .int .u8 0, .int .u8 0] 5)) := fun w => by
    have := run_make (P := Try.prog) w 22 5 i0 _ Try.underlying22 hi hz0 .i64 .i64 4 4 (by omega) (by omega) (by rw [hz2]; omega) (by omega)
    rw [hz1, show madeCells (Value.int IntKind.u8 0).cells ((4 : Int).toNat * 1) = #[.int .u8 0, .int .u8 0, .int .u8 0, .int .u8 0] by kernel_rfl] at this; exact this
  clear hi hz0 hz1 hz2
  have HE : Hid (vint x = _) := vint_eq4 h0 hn
  go_enter Try.func22, Try.ntmps22
  go_wp2_with (go_at_call 32; refine (groups_any _ _ (by assumption) (by assumption)).mono ?_; rintro e w' ⟨rfl, rfl⟩)
  go_ret
  refine ⟨_, rfl, ?_, (Below.refl _ _).alloc (Nat.le_refl _) _⟩
  unfold Row
  rw [HE.out]
  simp only [or128, not128']
  exact World.ownsRow_lit (size := 1) _ _ 4 (Nat.le_refl _) (by decide) (by rfl)
set_option maxHeartbeats 1000000 in
theorem varint5 (x : Int) (w : World) (h0 : 0 ≤ x) (h1 : x < 18446744073709551616) (hn : (vint x).length = 5) :
    Calls Try.prog 22 #[.int .u64 x] w fun e w' => ∃ v, e = .returned v ∧ Row w' w.heap.size .u8 5 v (vint x) ∧ Below w.heap.size w w' := by
  obtain ⟨i0, hi, hz0, hz1, hz2⟩ := info_parts Try.info5
  have hmk : ∀ w : World, (Instr.makeSlice 22 (.int .i64 5) (.int .i64 5)).run Try.prog w = .ok (.slice (some ⟨w.heap.size, 0, none⟩) 5 5) (w.alloc (.cells #[.int .u8 0, .int .u8 0, .int .u8 0, .int .u8 0, .int .u8 0] 5)) := fun w => by
    have := run_make (P := Try.prog) w 22 5 i0 _ Try.underlying22 hi hz0 .i64 .i64 5 5 (by omega) (by omega) (by rw [hz2]; omega) (by omega)
    rw [hz1, show madeCells (Value.int IntKind.u8 0).cells ((5 : Int).toNat * 1) = #[.int .u8 0, .int .u8 0, .int .u8 0, .int .u8 0, .int .u8 0] by kernel_rfl] at this; exact this
  clear hi hz0 hz1 hz2
  have HE : Hid (vint x = _) := vint_eq5 h0 hn
  go_enter Try.func22, Try.ntmps22
  go_wp2_with (go_at_call 32; refine (groups_any _ _ (by assumption) (by assumption)).mono ?_; rintro e w' ⟨rfl, rfl⟩)
  go_ret
  refine ⟨_, rfl, ?_, (Below.refl _ _).alloc (Nat.le_refl _) _⟩
  unfold Row
  rw [HE.out]
  simp only [or128, not128']
  exact World.ownsRow_lit (size := 1) _ _ 5 (Nat.le_refl _) (by decide) (by rfl)
set_option maxHeartbeats 1000000 in
theorem varint6 (x : Int) (w : World) (h0 : 0 ≤ x) (h1 : x < 18446744073709551616) (hn : (vint x).length = 6) :
    Calls Try.prog 22 #[.int .u64 x] w fun e w' => ∃ v, e = .returned v ∧ Row w' w.heap.size .u8 5 v (vint x) ∧ Below w.heap.size w w' := by
  obtain ⟨i0, hi, hz0, hz1, hz2⟩ := info_parts Try.info5
  have hmk : ∀ w : World, (Instr.makeSlice 22 (.int .i64 6) (.int .i64 6)).run Try.prog w = .ok (.slice (some ⟨w.heap.size, 0, none⟩) 6 6) (w.alloc (.cells #[.int .u8 0, .int .u8 0, .int .u8 0, .int .u8 0, .int .u8 0, .int .u8 0] 5)) := fun w => by
    have := run_make (P := Try.prog) w 22 5 i0 _ Try.underlying22 hi hz0 .i64 .i64 6 6 (by omega) (by omega) (by rw [hz2]; omega) (by omega)
    rw [hz1, show madeCells (Value.int IntKind.u8 0).cells ((6 : Int).toNat * 1) = #[.int .u8 0, .int .u8 0, .int .u8 0, .int .u8 0, .int .u8 0, .int .u8 0] by kernel_rfl] at this; exact this
  clear hi hz0 hz1 hz2
  have HE : Hid (vint x = _) := vint_eq6 h0 hn
  go_enter Try.func22, Try.ntmps22
  go_wp2_with (go_at_call 32; refine (groups_any _ _ (by assumption) (by assumption)).mono ?_; rintro e w' ⟨rfl, rfl⟩)
  go_ret
  refine ⟨_, rfl, ?_, (Below.refl _ _).alloc (Nat.le_refl _) _⟩
  unfold Row
  rw [HE.out]
  simp only [or128, not128']
  exact World.ownsRow_lit (size := 1) _ _ 6 (Nat.le_refl _) (by decide) (by rfl)
set_option maxHeartbeats 1000000 in
theorem varint7 (x : Int) (w : World) (h0 : 0 ≤ x) (h1 : x < 18446744073709551616) (hn : (vint x).length = 7) :
    Calls Try.prog 22 #[.int .u64 x] w fun e w' => ∃ v, e = .returned v ∧ Row w' w.heap.size .u8 5 v (vint x) ∧ Below w.heap.size w w' := by
  obtain ⟨i0, hi, hz0, hz1, hz2⟩ := info_parts Try.info5
  have hmk : ∀ w : World, (Instr.makeSlice 22 (.int .i64 7) (.int .i64 7)).run Try.prog w = .ok (.slice (some ⟨w.heap.size, 0, none⟩) 7 7) (w.alloc (.cells #[.int .u8 0, .int .u8 0, .int .u8 0, .int .u8 0, .int .u8 0, .int .u8 0, .int .u8 0] 5)) := fun w => by
    have := run_make (P := Try.prog) w 22 5 i0 _ Try.underlying22 hi hz0 .i64 .i64 7 7 (by omega) (by omega) (by rw [hz2]; omega) (by omega)
    rw [hz1, show madeCells (Value.int IntKind.u8 0).cells ((7 : Int).toNat * 1) = #[.int .u8 0, .int .u8 0, .int .u8 0, .int .u8 0, .int .u8 0, .int .u8 0, .int .u8 0] by kernel_rfl] at this; exact this
  clear hi hz0 hz1 hz2
  have HE : Hid (vint x = _) := vint_eq7 h0 hn
  go_enter Try.func22, Try.ntmps22
  go_wp2_with (go_at_call 32; refine (groups_any _ _ (by assumption) (by assumption)).mono ?_; rintro e w' ⟨rfl, rfl⟩)
  go_ret
  refine ⟨_, rfl, ?_, (Below.refl _ _).alloc (Nat.le_refl _) _⟩
  unfold Row
  rw [HE.out]
  simp only [or128, not128']
  exact World.ownsRow_lit (size := 1) _ _ 7 (Nat.le_refl _) (by decide) (by rfl)
set_option maxHeartbeats 1000000 in
theorem varint8 (x : Int) (w : World) (h0 : 0 ≤ x) (h1 : x < 18446744073709551616) (hn : (vint x).length = 8) :
    Calls Try.prog 22 #[.int .u64 x] w fun e w' => ∃ v, e = .returned v ∧ Row w' w.heap.size .u8 5 v (vint x) ∧ Below w.heap.size w w' := by
  obtain ⟨i0, hi, hz0, hz1, hz2⟩ := info_parts Try.info5
  have hmk : ∀ w : World, (Instr.makeSlice 22 (.int .i64 8) (.int .i64 8)).run Try.prog w = .ok (.slice (some ⟨w.heap.size, 0, none⟩) 8 8) (w.alloc (.cells #[.int .u8 0, .int .u8 0, .int .u8 0, .int .u8 0, .int .u8 0, .int .u8 0, .int .u8 0, .int .u8 0] 5)) := fun w => by
    have := run_make (P := Try.prog) w 22 5 i0 _ Try.underlying22 hi hz0 .i64 .i64 8 8 (by omega) (by omega) (by rw [hz2]; omega) (by omega)
    rw [hz1, show madeCells (Value.int IntKind.u8 0).cells ((8 : Int).toNat * 1) = #[.int .u8 0, .int .u8 0, .int .u8 0, .int .u8 0, .int .u8 0, .int .u8 0, .int .u8 0, .int .u8 0] by kernel_rfl] at this; exact this
  clear hi hz0 hz1 hz2
  have HE : Hid (vint x = _) := vint_eq8 h0 hn
  go_enter Try.func22, Try.ntmps22
  go_wp2_with (go_at_call 32; refine (groups_any _ _ (by assumption) (by assumption)).mono ?_; rintro e w' ⟨rfl, rfl⟩)
  go_ret
  refine ⟨_, rfl, ?_, (Below.refl _ _).alloc (Nat.le_refl _) _⟩
  unfold Row
  rw [HE.out]
  simp only [or128, not128']
  exact World.ownsRow_lit (size := 1) _ _ 8 (Nat.le_refl _) (by decide) (by rfl)
set_option maxHeartbeats 1000000 in
theorem varint9 (x : Int) (w : World) (h0 : 0 ≤ x) (h1 : x < 18446744073709551616) (hn : (vint x).length = 9) :
    Calls Try.prog 22 #[.int .u64 x] w fun e w' => ∃ v, e = .returned v ∧ Row w' w.heap.size .u8 5 v (vint x) ∧ Below w.heap.size w w' := by
  obtain ⟨i0, hi, hz0, hz1, hz2⟩ := info_parts Try.info5
  have hmk : ∀ w : World, (Instr.makeSlice 22 (.int .i64 9) (.int .i64 9)).run Try.prog w = .ok (.slice (some ⟨w.heap.size, 0, none⟩) 9 9) (w.alloc (.cells #[.int .u8 0, .int .u8 0, .int .u8 0, .int .u8 0, .int .u8 0, .int .u8 0, .int .u8 0, .int .u8 0, .int .u8 0] 5)) := fun w => by
    have := run_make (P := Try.prog) w 22 5 i0 _ Try.underlying22 hi hz0 .i64 .i64 9 9 (by omega) (by omega) (by rw [hz2]; omega) (by omega)
    rw [hz1, show madeCells (Value.int IntKind.u8 0).cells ((9 : Int).toNat * 1) = #[.int .u8 0, .int .u8 0, .int .u8 0, .int .u8 0, .int .u8 0, .int .u8 0, .int .u8 0, .int .u8 0, .int .u8 0] by kernel_rfl] at this; exact this
  clear hi hz0 hz1 hz2
  have HE : Hid (vint x = _) := vint_eq9 h0 hn
  go_enter Try.func22, Try.ntmps22
  go_wp2_with (go_at_call 32; refine (groups_any _ _ (by assumption) (by assumption)).mono ?_; rintro e w' ⟨rfl, rfl⟩)
  go_ret
  refine ⟨_, rfl, ?_, (Below.refl _ _).alloc (Nat.le_refl _) _⟩
  unfold Row
  rw [HE.out]
  simp only [or128, or128b (x / 72057594037927936) (by omega) (by omega), not128']
  exact World.ownsRow_lit (size := 1) _ _ 9 (Nat.le_refl _) (by decide) (by rfl)
set_option maxHeartbeats 1000000 in
theorem varint10 (x : Int) (w : World) (h0 : 0 ≤ x) (h1 : x < 18446744073709551616) (hn : (vint x).length = 10) :
    Calls Try.prog 22 #[.int .u64 x] w fun e w' => ∃ v, e = .returned v ∧ Row w' w.heap.size .u8 5 v (vint x) ∧ Below w.heap.size w w' := by
  obtain ⟨i0, hi, hz0, hz1, hz2⟩ := info_parts Try.info5
  have hmk : ∀ w : World, (Instr.makeSlice 22 (.int .i64 10) (.int .i64 10)).run Try.prog w = .ok (.slice (some ⟨w.heap.size, 0, none⟩) 10 10) (w.alloc (.cells #[.int .u8 0, .int .u8 0, .int .u8 0, .int .u8 0, .int .u8 0, .int .u8 0, .int .u8 0, .int .u8 0, .int .u8 0, .int .u8 0] 5)) := fun w => by
    have := run_make (P := Try.prog) w 22 5 i0 _ Try.underlying22 hi hz0 .i64 .i64 10 10 (by omega) (by omega) (by rw [hz2]; omega) (by omega)
    rw [hz1, show madeCells (Value.int IntKind.u8 0).cells ((10 : Int).toNat * 1) = #[.int .u8 0, .int .u8 0, .int .u8 0, .int .u8 0, .int .u8 0, .int .u8 0, .int .u8 0, .int .u8 0, .int .u8 0, .int .u8 0] by kernel_rfl] at this; exact this
  clear hi hz0 hz1 hz2
  have HE : Hid (vint x = _) := vint_eq10 h0 hn
  go_enter Try.func22, Try.ntmps22
  go_wp2_with (go_at_call 32; refine (groups_any _ _ (by assumption) (by assumption)).mono ?_; rintro e w' ⟨rfl, rfl⟩)
  go_ret
  refine ⟨_, rfl, ?_, (Below.refl _ _).alloc (Nat.le_refl _) _⟩
  unfold Row
  rw [HE.out]
  simp only [or128, or128b (x / 72057594037927936) (by omega) (by omega), or128b (x / 9223372036854775808) (by omega) (by omega), not128']
  exact World.ownsRow_lit (size := 1) _ _ 10 (Nat.le_refl _) (by decide) (by rfl)
/-- bits.Varint: the varint, in new memory. -/
theorem varint_any (x : Int) (w : World) (h0 : 0 ≤ x) (h1 : x < 18446744073709551616) :
    Calls Try.prog 22 #[.int .u64 x] w fun e w' => ∃ v, e = .returned v ∧ Row w' w.heap.size .u8 5 v (vint x) ∧ Below w.heap.size w w' := by
  have a := vint_ten h1
  have b := vint_pos x
  rcases (show (vint x).length = 1 ∨ (vint x).length = 2 ∨ (vint x).length = 3 ∨ (vint x).length = 4 ∨ (vint x).length = 5 ∨ (vint x).length = 6 ∨ (vint x).length = 7 ∨ (vint x).length = 8 ∨ (vint x).length = 9 ∨ (vint x).length = 10 by omega) with h | h | h | h | h | h | h | h | h | h
  · exact varint1 x w h0 h1 h
  · exact varint2 x w h0 h1 h
  · exact varint3 x w h0 h1 h
  · exact varint4 x w h0 h1 h
  · exact varint5 x w h0 h1 h
  · exact varint6 x w h0 h1 h
  · exact varint7 x w h0 h1 h
  · exact varint8 x w h0 h1 h
  · exact varint9 x w h0 h1 h
  · exact varint10 x w h0 h1 h
end Go.Proofs.Ytgkfbnjccfoaiaa
