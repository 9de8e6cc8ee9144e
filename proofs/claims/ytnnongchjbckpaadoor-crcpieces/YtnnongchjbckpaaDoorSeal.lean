/- crc.Of, crc.Seal, crc.Sealed: what one call answers. -/
import Derived.Test.YtnnongchjbckpaaDoorHalf
namespace Go.Proofs.YtnnongchjbckpaaDoor
open Go.ChangeShapes Go.WideShapes Go.ChangeAt Go.RowKit Kit
set_option linter.unusedVariables false

/-- A new Sum. -/
def newSum (w : World) : World := w.alloc (.cells #[.int .u32 0] 36)
theorem newSum_is (w : World) : SumIs (newSum w) w.heap.size 0 := by
  refine ⟨?_, ?_, ?_⟩
  · simp [newSum]
  · simp [newSum]
  · simp [newSum]
theorem newSum_below (w : World) : Below w.heap.size w (newSum w) := (Below.refl _ _).alloc (Nat.le_refl _) _
theorem view_new {B : Nat} {w : World} {k : IntKind} {v : Value} {zs : List Int} (h : Vw B w k v zs) (hB : B ≤ w.heap.size) : Vw B (newSum w) k v zs := h.below ((Below.refl B w).alloc hB _)

set_option maxRecDepth 4000 in
set_option maxHeartbeats 1000000 in
theorem of_any (v : Value) (zs : List Int) (B : Nat) (w : World) (hv : Vw B w .u8 v zs) (hB : B ≤ w.heap.size) (hb : bytesIn zs) (hT : Tab w) :
    Calls Tryd.prog 11 #[v] w fun e w' => e = .returned (.int .u32 ((cOf (natB zs) : Nat) : Int)) ∧ Below w.heap.size w w' := by
  have HT : Hid (Tab (newSum w)) := hT.below (newSum_below w) hT.size
  have HV : Hid (Vw B (newSum w) .u8 v zs) := view_new hv hB
  have HB : Hid (bytesIn zs) := hb
  have S : Hid (SumIs (newSum w) w.heap.size 0) := newSum_is w
  have H0 : Hid (0 < 4294967296) := by show _ < _; decide
  have E : Hid (_ = _) := sumN_zero (natB zs)
  clear hT hv hb
  go_enter Tryd.func11, Tryd.ntmps11
  go_wp2_with fail
  go_at_call 17
  refine (add_any w.heap.size 0 H0 v zs B (newSum w) HV.out HB.out S.out.1 S.out.2.1 HT.out).mono ?_
  rintro e w' ⟨rfl, hw⟩
  have S2 : Hid (SumIs w' w.heap.size (cOf (natB zs)) ∧ Below w.heap.size w w') := by
    rw [hw, ← E.out]
    exact ⟨S.out.set _, (newSum_below w).setCell (Nat.le_refl _) _⟩
  clear hw
  go_wp2_with fail
  go_at_call 20
  refine (sum_any w.heap.size _ w' S2.out.1.1).mono ?_
  rintro e w2 ⟨rfl, hw2⟩
  have hw2 := hw2.symm
  subst hw2
  go_wp2
  go_ret
  exact ⟨rfl, S2.out.2⟩

theorem seal_val (v s : Nat) (hs : s < 4294967296) : bits .or .u64 (IntKind.u64.wrap (IntKind.u64.wrap (s : Int) * 4294967296)) ((v : Int) % 4294967296) = ((v % 4294967296 + s * 4294967296 : Nat) : Int) := by
  have w1 : ∀ n : Int, IntKind.u64.wrap n = n % 18446744073709551616 := fun n => by simp [IntKind.wrap, IntKind.bits, IntKind.signed]
  have e : IntKind.u64.wrap (IntKind.u64.wrap (s : Int) * 4294967296) = ((s * 4294967296 : Nat) : Int) := by rw [w1, w1]; omega
  have e2 : (v : Int) % 4294967296 = ((v % 4294967296 : Nat) : Int) := by omega
  rw [e, e2, u64_or_nat _ _ (by omega) (by omega), nat_join 32 (s * 4294967296) (v % 4294967296) (by omega) (by omega)]
  rw [Nat.add_comm]
theorem sealN_val (v : Nat) : bits .or .u64 (IntKind.u64.wrap (IntKind.u64.wrap ((sum4 v : Nat) : Int) * 4294967296)) ((v : Int) % 4294967296) = ((sealN v : Nat) : Int) := seal_val v _ (sum4_lt v)

set_option maxRecDepth 4000 in
set_option maxHeartbeats 1000000 in
theorem seal_any (x : Int) (v : Nat) (hx : Hid (x = (v : Int))) (w : World) (hT : Tab w) :
    Calls Tryd.prog 15 #[.int .u64 x] w fun e w' => e = .returned (.int .u64 ((sealN v : Nat) : Int)) ∧ Below w.heap.size w w' := by
  have hx2 := hx.out
  clear hx
  subst hx2
  have HT : Hid (Tab (newSum w)) := hT.below (newSum_below w) hT.size
  have hp := hT.size
  have S : Hid (SumIs (newSum w) w.heap.size 0) := newSum_is w
  have H0 : Hid (0 < 4294967296) := by show _ < _; decide
  have E1 : Hid (_ = _) := lo32_int v
  clear hT
  go_enter Tryd.func15, Tryd.ntmps15
  go_wp2_with fail
  go_at_call 22
  refine (half_any w.heap.size 0 H0 _ _ E1 (newSum w) S.out HT.out hp).mono ?_
  rintro e w' ⟨rfl, hS1, hG1⟩
  have S2 : Hid (SumIs w' w.heap.size (sum4 v) ∧ Below w.heap.size w w') := by
    refine ⟨?_, (newSum_below w).grown hG1 (by simp [newSum]) (by simp)⟩
    rw [sumN_zero] at hS1
    exact hS1
  clear hS1 hG1
  go_wp2_with fail
  go_at_call 20
  refine (sum_any w.heap.size _ w' S2.out.1.1).mono ?_
  rintro e w2 ⟨rfl, hw2⟩
  have hw2 := hw2.symm
  subst hw2
  have V : Hid (_ = _) := sealN_val v
  generalize sum4 v = s at *
  go_wp2
  go_ret
  exact ⟨congrArg (fun t => Ending.returned (.int .u64 t)) V.out, S2.out.2⟩

set_option maxRecDepth 4000 in
set_option maxHeartbeats 1000000 in
/-- crc.Sealed of a word that is a seal. -/
theorem sealed_yes (x : Int) (v : Nat) (hx : Hid (x = (v : Int))) (w : World) (hT : Tab w) (h : Hid (sealN v = v)) :
    Calls Tryd.prog 9 #[.int .u64 x] w fun e w' => e = .returned (.tuple #[.int .u32 (x % 4294967296), .bool true]) ∧ Below w.heap.size w w' := by
  have HT : Hid (Tab w) := hT
  have E : Hid (((sealN v : Nat) : Int) = x) := by show _ = _; rw [hx.out, h.out]
  clear hT
  go_enter Tryd.func9, Tryd.ntmps9
  go_wp2_with fail
  go_at_call 15
  refine (seal_any x v hx w HT.out).mono ?_
  rintro e w' ⟨rfl, hb⟩
  rw [E.out]
  go_wp2
  go_ret2
  exact ⟨rfl, hb⟩
set_option maxRecDepth 4000 in
set_option maxHeartbeats 1000000 in
/-- crc.Sealed of a word that is none. -/
theorem sealed_no (x : Int) (v : Nat) (hx : Hid (x = (v : Int))) (w : World) (hT : Tab w) (h : Hid (sealN v ≠ v)) :
    Calls Tryd.prog 9 #[.int .u64 x] w fun e w' => e = .returned (.tuple #[.int .u32 0, .bool false]) ∧ Below w.heap.size w w' := by
  have HT : Hid (Tab w) := hT
  have E : Hid (((sealN v : Nat) : Int) ≠ x) := by show _ ≠ _; rw [hx.out]; intro e; exact h.out (by omega)
  clear hT
  go_enter Tryd.func9, Tryd.ntmps9
  go_wp2_with fail
  go_at_call 15
  refine (seal_any x v hx w HT.out).mono ?_
  rintro e w' ⟨rfl, hb⟩
  generalize ((sealN v : Nat) : Int) = s at *
  have hne : s ≠ x := E.out
  go_wp2
  go_ret2
  exact ⟨rfl, hb⟩
end Go.Proofs.YtnnongchjbckpaaDoor
