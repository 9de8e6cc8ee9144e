/- errors.as at a target, over what is within an error. -/
import Derived.Test.YtlandjnhhcnbeabDoorAsF1
namespace Go.Proofs.YtlandjnhhcnbeabDoor.A1
open Go.RowKit Go.Extern.Stop Go.Stop Go.Extern
set_option linter.unusedVariables false

set_option maxRecDepth 4000 in
set_option maxHeartbeats 8000000 in
theorem as_pre : ∀ (f : Nat) (v : Value) (ns : List Nd) (w : World), Pre w f v ns → v ≠ .nilIface → ∀ (t a : Addr) (old : Value), w.cell? t = some old → w.frozen? t = false → w.cell? a = some (.pointer (some t)) →
    Calls Tryd.prog 20 #[v, .iface 47 (.pointer (some t)), .agg #[.pointer (some ⟨1, 47, none⟩), .pointer (some a), .int .u64 150], .iface 50 (.agg #[.pointer (some ⟨1, 28, none⟩)])] w fun e w' => e = .returned (.bool (firstOf 28 ns).isSome) ∧ AsPost w w' t (firstOf 28 ns)
  | 0, v, ns, w, h, hv => absurd h.1 hv
  | f + 1, v, ns, w, h, hv => by
    intro t a old ht hf ha
    have IH : Hid (∀ (v : Value) (ns : List Nd) (w : World), Pre w f v ns → v ≠ .nilIface → ∀ (t a : Addr) (old : Value), w.cell? t = some old → w.frozen? t = false → w.cell? a = some (.pointer (some t)) →
    Calls Tryd.prog 20 #[v, .iface 47 (.pointer (some t)), .agg #[.pointer (some ⟨1, 47, none⟩), .pointer (some a), .int .u64 150], .iface 50 (.agg #[.pointer (some ⟨1, 28, none⟩)])] w fun e w' => e = .returned (.bool (firstOf 28 ns).isSome) ∧ AsPost w w' t (firstOf 28 ns)) := fun v ns w => as_pre f v ns w
    have H : Hid (Pre w (f + 1) v ns ∧ v ≠ .nilIface) := ⟨h, hv⟩
    have e1 := @run_callFunc_extern Tryd.prog 12 _ ReflectliteType.typeOf Tryd.func12 (by kernel_rfl) (by kernel_rfl) (by kernel_rfl) (by kernel_rfl)
    have e2 := @run_callFunc_extern Tryd.prog 17 _ (fun args => ReflectliteValue.unpack (args.getD 0 (.tuple #[]))) Tryd.func17 (by kernel_rfl) (by kernel_rfl) (by kernel_rfl) (by kernel_rfl)
    have e3 := @run_callFunc_extern Tryd.prog 22 _ (ReflectliteValue.method (ReflectliteValue.valueError "reflectlite.Value.Elem" 0) ReflectliteValue.elem) Tryd.func22 (by kernel_rfl) (by kernel_rfl) (by kernel_rfl) (by kernel_rfl)
    have e4 := @run_callFunc_extern Tryd.prog 23 _ ReflectliteValue.set Tryd.func23 (by kernel_rfl) (by kernel_rfl) (by kernel_rfl) (by kernel_rfl)
    have e5 := @run_callFunc_extern Tryd.prog 45 _ (ReflectliteType.relation "AssignableTo" ReflectliteType.assignableTo) Tryd.func45 (by kernel_rfl) (by kernel_rfl) (by kernel_rfl) (by kernel_rfl)
    have mA := methodAssignableTo
    have vT := valueOfT
    have q0 := typeOf28
    have q1 := assignable28
    have q2 := lacks73_28
    have q3 := typeOf23
    have q4 := assignable23
    have q5 := lacks73_23
    have q6 := lacks55_28
    have q7 := lacks57_28
    have q8 := has55_23
    have q9 := meth_fault
    clear h hv
    have HB0 : Hid (Below w.heap.size w (w.alloc (.cells #[.pointer (some ⟨1, 47, none⟩), .pointer (some a), .int .u64 150] 63)) ∧ (w.alloc (.cells #[.pointer (some ⟨1, 47, none⟩), .pointer (some a), .int .u64 150] 63)).cell? ⟨w.heap.size, 0, none⟩ = some (.pointer (some ⟨1, 47, none⟩)) ∧ (w.alloc (.cells #[.pointer (some ⟨1, 47, none⟩), .pointer (some a), .int .u64 150] 63)).cell? ⟨w.heap.size, 1, none⟩ = some (.pointer (some a)) ∧ (w.alloc (.cells #[.pointer (some ⟨1, 47, none⟩), .pointer (some a), .int .u64 150] 63)).cell? ⟨w.heap.size, 2, none⟩ = some (.int .u64 150)) :=
      ⟨(Below.refl _ _).alloc (Nat.le_refl _) _, by simp, by simp, by simp⟩
    go_enter Tryd.func20, Tryd.ntmps20
    go_wp2
    go_loopg [0] (f + 1) (fun k e wr => ∃ ms, k ≤ f + 1 ∧ Aside (Pre w k e ms ∧ e ≠ .nilIface ∧ firstOf 28 ns = firstOf 28 ms ∧ Below w.heap.size w wr ∧ wr.cell? ⟨w.heap.size, 0, none⟩ = some (.pointer (some ⟨1, 47, none⟩)) ∧ wr.cell? ⟨w.heap.size, 1, none⟩ = some (.pointer (some a)) ∧ wr.cell? ⟨w.heap.size, 2, none⟩ = some (.int .u64 150)))
    case atStart => exact ⟨ns, Nat.le_refl _, H.out.1, H.out.2, rfl, HB0.out⟩
    case round =>
      obtain ⟨ms, hk, hA⟩ := hrel
      obtain ⟨hP, hN, hC, hBB⟩ := hA.out
      have HB : Hid (Below w.heap.size w wr ∧ wr.cell? ⟨w.heap.size, 0, none⟩ = some (.pointer (some ⟨1, 47, none⟩)) ∧ wr.cell? ⟨w.heap.size, 1, none⟩ = some (.pointer (some a)) ∧ wr.cell? ⟨w.heap.size, 2, none⟩ = some (.int .u64 150)) := hBB
      clear hA hBB HB0
      match gk, hk, hP with
      | 0, hk, hP => exact absurd hP.1 hN
      | k + 1, hk, hP =>
        rcases hP with h | ⟨m, h, hm⟩ | ⟨b, op, path, e, ms', h, h2, h3, h4, h9, h5, h6, hm⟩
        · exact absurd h.1 hN
        · subst h hm
          rw [firstOf_hit] at hC
          have HC : Hid (firstOf 28 ns = some (.int .i64 m)) := hC
          have hca := cell_old HB.out.1 ha
          have hct := cell_old HB.out.1 ht
          have hft := frozen_old HB.out.1 ht hf
          have el := elemV a t wr hca
          have st := setT t ⟨wr.heap.size, 0, none⟩ m old (wr.alloc (.cells #[(.int .i64 m)] 28)) (by simp) (cell_old ((Below.refl _ _).alloc (Nat.le_refl _) _) hct) (frozen_old ((Below.refl _ _).alloc (Nat.le_refl _) _) hct hft)
          have HW : Hid (AsPost w ((wr.alloc (.cells #[(.int .i64 m)] 28)).setCell t (.int .i64 m)) t (firstOf 28 ns)) := by
            rw [HC.out]
            exact ⟨_, HB.out.1.alloc HB.out.1.size _, rfl⟩
          have b0 := HB.out.2.1
          have b1 := HB.out.2.2.1
          have b2 := HB.out.2.2.2
          clear hC hN HB hca hct hft
          go_wp2
          go_ret
          exact ⟨by rw [HC.out]; rfl, HW.out⟩
        · subst h hm
          rw [firstOf_skip 28 23 _ ms' rfl] at hC
          have HC : Hid (firstOf 28 ns = firstOf 28 ms') := hC
          have HP : Hid (Pre w k e ms') := h6
          obtain ⟨u, x, he⟩ := (Pre.form h6).resolve_left h5
          subst he
          have h4w := cell_old HB.out.1 h4
          have BB := HB
          clear hC hN h5 h6 h2 h3 h4 h9 HB
          go_wp2_with (go_at_call 42; refine (unwrap_any b _ wr h4w).mono ?_; rintro r w' ⟨rfl, hw⟩; have hw := hw.symm; subst hw)
          go_roundg k
          case measure => omega
          case rel => exact ⟨ms', by omega, HP.out, by simp, HC.out, BB.out⟩
end Go.Proofs.YtlandjnhhcnbeabDoor.A1
