/- errors.as at a target, over what is within an error. -/
import Derived.Test.YtbebgobboccjcaaGreatDoorG2
namespace Go.Proofs.YtbebgobboccjcaaGreatDoor.A0
open Go.RowKit Go.Extern.Stop Go.Stop Go.Extern
set_option linter.unusedVariables false

set_option maxRecDepth 4000 in
set_option maxHeartbeats 8000000 in
theorem as_pre : ∀ (f : Nat) (v : Value) (ns : List Nd) (w : World), Pre w f v ns → v ≠ .nilIface → ∀ (t a : Addr) (old : Value), w.cell? t = some old → w.frozen? t = false → w.cell? a = some (.pointer (some t)) →
    Calls Tryz.prog 75 #[v, .iface 87 (.pointer (some t)), .agg #[.pointer (some ⟨4, 87, none⟩), .pointer (some a), .int .u64 150], .iface 159 (.agg #[.pointer (some ⟨4, 85, none⟩)])] w fun e w' => e = .returned (.bool (firstOf 85 ns).isSome) ∧ AsPost w w' t (firstOf 85 ns)
  | 0, v, ns, w, h, hv => absurd h.1 hv
  | f + 1, v, ns, w, h, hv => by
    intro t a old ht hf ha
    have IH : Hid (∀ (v : Value) (ns : List Nd) (w : World), Pre w f v ns → v ≠ .nilIface → ∀ (t a : Addr) (old : Value), w.cell? t = some old → w.frozen? t = false → w.cell? a = some (.pointer (some t)) →
    Calls Tryz.prog 75 #[v, .iface 87 (.pointer (some t)), .agg #[.pointer (some ⟨4, 87, none⟩), .pointer (some a), .int .u64 150], .iface 159 (.agg #[.pointer (some ⟨4, 85, none⟩)])] w fun e w' => e = .returned (.bool (firstOf 85 ns).isSome) ∧ AsPost w w' t (firstOf 85 ns)) := fun v ns w => as_pre f v ns w
    have H : Hid (Pre w (f + 1) v ns ∧ v ≠ .nilIface) := ⟨h, hv⟩
    have e1 := @run_callFunc_extern Tryz.prog 81 _ ReflectliteType.typeOf Tryz.func81 (by kernel_rfl) (by kernel_rfl) (by kernel_rfl) (by kernel_rfl)
    have e2 := @run_callFunc_extern Tryz.prog 72 _ (fun args => ReflectliteValue.unpack (args.getD 0 (.tuple #[]))) Tryz.func72 (by kernel_rfl) (by kernel_rfl) (by kernel_rfl) (by kernel_rfl)
    have e3 := @run_callFunc_extern Tryz.prog 109 _ (ReflectliteValue.method (ReflectliteValue.valueError "reflectlite.Value.Elem" 0) ReflectliteValue.elem) Tryz.func109 (by kernel_rfl) (by kernel_rfl) (by kernel_rfl) (by kernel_rfl)
    have e4 := @run_callFunc_extern Tryz.prog 110 _ ReflectliteValue.set Tryz.func110 (by kernel_rfl) (by kernel_rfl) (by kernel_rfl) (by kernel_rfl)
    have e5 := @run_callFunc_extern Tryz.prog 197 _ (ReflectliteType.relation "AssignableTo" ReflectliteType.assignableTo) Tryz.func197 (by kernel_rfl) (by kernel_rfl) (by kernel_rfl) (by kernel_rfl)
    have mA := methodAssignableTo
    have vT := valueOfT
    have q0 := typeOf80
    have q1 := assignable80
    have q2 := lacks163_80
    have q3 := typeOf85
    have q4 := assignable85
    have q5 := lacks163_85
    have q6 := lacks166_80
    have q7 := lacks168_80
    have q8 := has166_85
    have q9 := meth_fault
    clear h hv
    have HB0 : Hid (Below w.heap.size w (w.alloc (.cells #[.pointer (some ⟨4, 87, none⟩), .pointer (some a), .int .u64 150] 116)) ∧ (w.alloc (.cells #[.pointer (some ⟨4, 87, none⟩), .pointer (some a), .int .u64 150] 116)).cell? ⟨w.heap.size, 0, none⟩ = some (.pointer (some ⟨4, 87, none⟩)) ∧ (w.alloc (.cells #[.pointer (some ⟨4, 87, none⟩), .pointer (some a), .int .u64 150] 116)).cell? ⟨w.heap.size, 1, none⟩ = some (.pointer (some a)) ∧ (w.alloc (.cells #[.pointer (some ⟨4, 87, none⟩), .pointer (some a), .int .u64 150] 116)).cell? ⟨w.heap.size, 2, none⟩ = some (.int .u64 150)) :=
      ⟨(Below.refl _ _).alloc (Nat.le_refl _) _, by simp, by simp, by simp⟩
    go_enter Tryz.func75, Tryz.ntmps75
    go_wp2
    go_loopg [0] (f + 1) (fun k e wr => ∃ ms, k ≤ f + 1 ∧ Aside (Pre w k e ms ∧ e ≠ .nilIface ∧ firstOf 85 ns = firstOf 85 ms ∧ Below w.heap.size w wr ∧ wr.cell? ⟨w.heap.size, 0, none⟩ = some (.pointer (some ⟨4, 87, none⟩)) ∧ wr.cell? ⟨w.heap.size, 1, none⟩ = some (.pointer (some a)) ∧ wr.cell? ⟨w.heap.size, 2, none⟩ = some (.int .u64 150)))
    case atStart => exact ⟨ns, Nat.le_refl _, H.out.1, H.out.2, rfl, HB0.out⟩
    case round =>
      obtain ⟨ms, hk, hA⟩ := hrel
      obtain ⟨hP, hN, hC, hBB⟩ := hA.out
      have HB : Hid (Below w.heap.size w wr ∧ wr.cell? ⟨w.heap.size, 0, none⟩ = some (.pointer (some ⟨4, 87, none⟩)) ∧ wr.cell? ⟨w.heap.size, 1, none⟩ = some (.pointer (some a)) ∧ wr.cell? ⟨w.heap.size, 2, none⟩ = some (.int .u64 150)) := hBB
      clear hA hBB HB0
      match gk, hk, hP with
      | 0, hk, hP => exact absurd hP.1 hN
      | k + 1, hk, hP =>
        rcases hP with h | ⟨m, h, hm⟩ | ⟨b, op, path, e, ms', h, h2, h3, h4, h9, h5, h6, hm⟩
        · exact absurd h.1 hN
        · subst h hm
          rw [firstOf_skip 85 80 _ _ rfl, firstOf_nil] at hC
          have HC : Hid (firstOf 85 ns = none) := hC
          clear hC hN
          have HW : Hid (Below w.heap.size w wr) := HB.out.1
          clear HB
          go_wp2
          go_ret
          exact ⟨by rw [HC.out]; rfl, by rw [HC.out]; exact HW.out⟩
        · subst h hm
          clear h2 h3 h4 h9 h5 h6
          rw [firstOf_hit] at hC
          have HC : Hid (firstOf 85 ns = some (.pointer (some ⟨b, 0, none⟩))) := hC
          have hca := cell_old HB.out.1 ha
          have hct := cell_old HB.out.1 ht
          have hft := frozen_old HB.out.1 ht hf
          have el := elemV a t wr hca
          have st := setT t ⟨wr.heap.size, 0, none⟩ ⟨b, 0, none⟩ old (wr.alloc (.cells #[(.pointer (some ⟨b, 0, none⟩))] 85)) (by simp) (cell_old ((Below.refl _ _).alloc (Nat.le_refl _) _) hct) (frozen_old ((Below.refl _ _).alloc (Nat.le_refl _) _) hct hft)
          have HW : Hid (AsPost w ((wr.alloc (.cells #[(.pointer (some ⟨b, 0, none⟩))] 85)).setCell t (.pointer (some ⟨b, 0, none⟩))) t (firstOf 85 ns)) := by
            rw [HC.out]
            exact ⟨_, HB.out.1.alloc HB.out.1.size _, rfl⟩
          have b0 := HB.out.2.1
          have b1 := HB.out.2.2.1
          have b2 := HB.out.2.2.2
          clear hC hN HB hca hct hft
          go_wp2
          go_ret
          exact ⟨by rw [HC.out]; rfl, HW.out⟩
end Go.Proofs.YtbebgobboccjcaaGreatDoor.A0
