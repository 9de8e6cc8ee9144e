/- errors.as at a target, over what is within an error. -/
import Derived.Test.YtlandjnhhcnbeaaDoorAsF1
namespace Go.Proofs.YtlandjnhhcnbeaaDoor.A1
open Go.RowKit Go.Extern.Stop Go.Stop Go.Extern
set_option linter.unusedVariables false

set_option maxRecDepth 4000 in
set_option maxHeartbeats 8000000 in
theorem as_pre : ∀ (f : Nat) (v : Value) (ns : List Nd) (w : World), Pre w f v ns → v ≠ .nilIface → ∀ (t a : Addr) (old : Value), w.cell? t = some old → w.frozen? t = false → w.cell? a = some (.pointer (some t)) →
    Calls Tryd.prog 38 #[v, .iface 91 (.pointer (some t)), .agg #[.pointer (some ⟨1, 91, none⟩), .pointer (some a), .int .u64 150], .iface 93 (.agg #[.pointer (some ⟨1, 39, none⟩)])] w fun e w' => e = .returned (.bool (firstOf 39 ns).isSome) ∧ AsPost w w' t (firstOf 39 ns)
  | 0, v, ns, w, h, hv => absurd h.1 hv
  | f + 1, v, ns, w, h, hv => by
    intro t a old ht hf ha
    have IH : Hid (∀ (v : Value) (ns : List Nd) (w : World), Pre w f v ns → v ≠ .nilIface → ∀ (t a : Addr) (old : Value), w.cell? t = some old → w.frozen? t = false → w.cell? a = some (.pointer (some t)) →
    Calls Tryd.prog 38 #[v, .iface 91 (.pointer (some t)), .agg #[.pointer (some ⟨1, 91, none⟩), .pointer (some a), .int .u64 150], .iface 93 (.agg #[.pointer (some ⟨1, 39, none⟩)])] w fun e w' => e = .returned (.bool (firstOf 39 ns).isSome) ∧ AsPost w w' t (firstOf 39 ns)) := fun v ns w => as_pre f v ns w
    have H : Hid (Pre w (f + 1) v ns ∧ v ≠ .nilIface) := ⟨h, hv⟩
    have e1 := @run_callFunc_extern Tryd.prog 33 _ ReflectliteType.typeOf Tryd.func33 (by kernel_rfl) (by kernel_rfl) (by kernel_rfl) (by kernel_rfl)
    have e2 := @run_callFunc_extern Tryd.prog 35 _ (fun args => ReflectliteValue.unpack (args.getD 0 (.tuple #[]))) Tryd.func35 (by kernel_rfl) (by kernel_rfl) (by kernel_rfl) (by kernel_rfl)
    have e3 := @run_callFunc_extern Tryd.prog 44 _ (ReflectliteValue.method (ReflectliteValue.valueError "reflectlite.Value.Elem" 0) ReflectliteValue.elem) Tryd.func44 (by kernel_rfl) (by kernel_rfl) (by kernel_rfl) (by kernel_rfl)
    have e4 := @run_callFunc_extern Tryd.prog 45 _ ReflectliteValue.set Tryd.func45 (by kernel_rfl) (by kernel_rfl) (by kernel_rfl) (by kernel_rfl)
    have e5 := @run_callFunc_extern Tryd.prog 74 _ (ReflectliteType.relation "AssignableTo" ReflectliteType.assignableTo) Tryd.func74 (by kernel_rfl) (by kernel_rfl) (by kernel_rfl) (by kernel_rfl)
    have mA := methodAssignableTo
    have vT := valueOfT
    have q0 := typeOf39
    have q1 := assignable39
    have q2 := lacks105_39
    have q3 := typeOf47
    have q4 := assignable47
    have q5 := lacks105_47
    have q6 := typeOf54
    have q7 := assignable54
    have q8 := lacks105_54
    have q9 := typeOf72
    have q10 := assignable72
    have q11 := lacks105_72
    have q12 := lacks98_39
    have q13 := lacks100_39
    have q14 := lacks98_47
    have q15 := lacks100_47
    have q16 := has98_54
    have q17 := lacks98_72
    have q18 := has100_72
    have q19 := meth_fault
    have q20 := meth_join
    clear h hv
    have HB0 : Hid (Below w.heap.size w (w.alloc (.cells #[.pointer (some ⟨1, 91, none⟩), .pointer (some a), .int .u64 150] 82)) ∧ (w.alloc (.cells #[.pointer (some ⟨1, 91, none⟩), .pointer (some a), .int .u64 150] 82)).cell? ⟨w.heap.size, 0, none⟩ = some (.pointer (some ⟨1, 91, none⟩)) ∧ (w.alloc (.cells #[.pointer (some ⟨1, 91, none⟩), .pointer (some a), .int .u64 150] 82)).cell? ⟨w.heap.size, 1, none⟩ = some (.pointer (some a)) ∧ (w.alloc (.cells #[.pointer (some ⟨1, 91, none⟩), .pointer (some a), .int .u64 150] 82)).cell? ⟨w.heap.size, 2, none⟩ = some (.int .u64 150)) :=
      ⟨(Below.refl _ _).alloc (Nat.le_refl _) _, by simp, by simp, by simp⟩
    go_enter Tryd.func38, Tryd.ntmps38
    go_wp2
    go_loopg [0] (f + 1) (fun k e wr => ∃ ms, k ≤ f + 1 ∧ Aside (Pre w k e ms ∧ e ≠ .nilIface ∧ firstOf 39 ns = firstOf 39 ms ∧ Below w.heap.size w wr ∧ wr.cell? ⟨w.heap.size, 0, none⟩ = some (.pointer (some ⟨1, 91, none⟩)) ∧ wr.cell? ⟨w.heap.size, 1, none⟩ = some (.pointer (some a)) ∧ wr.cell? ⟨w.heap.size, 2, none⟩ = some (.int .u64 150)))
    case atStart => exact ⟨ns, Nat.le_refl _, H.out.1, H.out.2, rfl, HB0.out⟩
    case round =>
      obtain ⟨ms, hk, hA⟩ := hrel
      obtain ⟨hP, hN, hC, hBB⟩ := hA.out
      have HB : Hid (Below w.heap.size w wr ∧ wr.cell? ⟨w.heap.size, 0, none⟩ = some (.pointer (some ⟨1, 91, none⟩)) ∧ wr.cell? ⟨w.heap.size, 1, none⟩ = some (.pointer (some a)) ∧ wr.cell? ⟨w.heap.size, 2, none⟩ = some (.int .u64 150)) := hBB
      clear hA hBB HB0
      match gk, hk, hP with
      | 0, hk, hP => exact absurd hP.1 hN
      | k + 1, hk, hP =>
        rcases hP with h | ⟨m, h, hm⟩ | ⟨b, s, h, h2, hm⟩ | ⟨b, op, path, e, ms', h, h2, h3, h4, h9, h5, h6, hm⟩ | ⟨b, x1, x2, m1, m2, h, h3, h4, h5, h6, h7, h8, hm⟩
        · exact absurd h.1 hN
        · subst h hm
          rw [firstOf_hit] at hC
          have HC : Hid (firstOf 39 ns = some (.int .i64 m)) := hC
          have hca := cell_old HB.out.1 ha
          have hct := cell_old HB.out.1 ht
          have hft := frozen_old HB.out.1 ht hf
          have el := elemV a t wr hca
          have st := setT t ⟨wr.heap.size, 0, none⟩ m old (wr.alloc (.cells #[(.int .i64 m)] 39)) (by simp) (cell_old ((Below.refl _ _).alloc (Nat.le_refl _) _) hct) (frozen_old ((Below.refl _ _).alloc (Nat.le_refl _) _) hct hft)
          have HW : Hid (AsPost w ((wr.alloc (.cells #[(.int .i64 m)] 39)).setCell t (.int .i64 m)) t (firstOf 39 ns)) := by
            rw [HC.out]
            exact ⟨_, HB.out.1.alloc HB.out.1.size _, rfl⟩
          have b0 := HB.out.2.1
          have b1 := HB.out.2.2.1
          have b2 := HB.out.2.2.2
          clear hC hN HB hca hct hft
          go_wp2
          go_ret
          exact ⟨by rw [HC.out]; rfl, HW.out⟩
        · subst h hm
          clear h2
          rw [firstOf_skip 39 47 _ _ rfl, firstOf_nil] at hC
          have HC : Hid (firstOf 39 ns = none) := hC
          clear hC hN
          have HW : Hid (Below w.heap.size w wr) := HB.out.1
          clear HB
          go_wp2
          go_ret
          exact ⟨by rw [HC.out]; rfl, by rw [HC.out]; exact HW.out⟩
        · subst h hm
          rw [firstOf_skip 39 54 _ ms' rfl] at hC
          have HC : Hid (firstOf 39 ns = firstOf 39 ms') := hC
          have HP : Hid (Pre w k e ms') := h6
          obtain ⟨u, x, he⟩ := (Pre.form h6).resolve_left h5
          subst he
          have h4w := cell_old HB.out.1 h4
          have BB := HB
          clear hC hN h5 h6 h2 h3 h4 h9 HB
          go_wp2_with (go_at_call 67; refine (unwrap_any b _ wr h4w).mono ?_; rintro r w' ⟨rfl, hw⟩; have hw := hw.symm; subst hw)
          go_roundg k
          case measure => omega
          case rel => exact ⟨ms', by omega, HP.out, by simp, HC.out, BB.out⟩
        · subst h hm
          rw [firstOf_skip 39 72 _ _ rfl] at hC
          have HC : Hid (firstOf 39 ns = firstOf 39 (m1 ++ m2)) := hC
          have HP1 : Hid (Pre w f x1 m1) := h7.mono (by omega)
          have HP2 : Hid (Pre w f x2 m2) := h8.mono (by omega)
          obtain ⟨u1, y1, hy1⟩ := (Pre.form h7).resolve_left h5
          obtain ⟨u2, y2, hy2⟩ := (Pre.form h8).resolve_left h6
          subst hy1 hy2
          have HD : Hid (w.cell? t = some old ∧ w.frozen? t = false ∧ w.cell? a = some (.pointer (some t))) := ⟨ht, hf, ha⟩
          have HX : Hid (Calls Tryd.prog 69 _ _ _) := unwraps_any b _ _ _ _ wr (cell_old HB.out.1 h3) (cell_old HB.out.1 h4)
          clear hC hN h5 h6 h7 h8 h3 h4 ht hf ha
          go_wp2_with fail
          go_at_call 69
          refine HX.out.mono ?_
          rintro r w' ⟨g, rfl, c0, c1, hw⟩
          have HB2 : Hid (Below w.heap.size w w' ∧ w'.cell? ⟨w.heap.size, 0, none⟩ = some (.pointer (some ⟨1, 91, none⟩)) ∧ w'.cell? ⟨w.heap.size, 1, none⟩ = some (.pointer (some a)) ∧ w'.cell? ⟨w.heap.size, 2, none⟩ = some (.int .u64 150) ∧ w'.cell? ⟨g, 0, none⟩ = some (.iface u1 y1) ∧ w'.cell? ⟨g, 1, none⟩ = some (.iface u2 y2)) := ⟨bel2e HB.out.1 hw, cell_old hw HB.out.2.1, cell_old hw HB.out.2.2.1, cell_old hw HB.out.2.2.2, c0, c1⟩
          clear HX hw c0 c1 HB
          go_wp2
          go_loopw [50] (fun i wr => ∃ j : Nat, j ≤ 2 ∧ i = .int .i64 (j : Int) ∧ Hid (((1 ≤ j → firstOf 39 m1 = none) ∧ (2 ≤ j → firstOf 39 m2 = none)) ∧ Below w.heap.size w wr ∧ wr.cell? ⟨w.heap.size, 0, none⟩ = some (.pointer (some ⟨1, 91, none⟩)) ∧ wr.cell? ⟨w.heap.size, 1, none⟩ = some (.pointer (some a)) ∧ wr.cell? ⟨w.heap.size, 2, none⟩ = some (.int .u64 150) ∧ wr.cell? ⟨g, 0, none⟩ = some (.iface u1 y1) ∧ wr.cell? ⟨g, 1, none⟩ = some (.iface u2 y2))) (fun i _ => 2 - (intOf i).toNat)
          case atStart => exact ⟨0, by omega, rfl, ⟨fun h => absurd h (by omega), fun h => absurd h (by omega)⟩, HB2.out⟩
          case round =>
            obtain ⟨j, hj, rfl, HA⟩ := hrel
            match j, hj, HA with
            | 0, hj, HA =>
              have c0 := HA.out.2.2.2.2.2.1
              have c1 := HA.out.2.2.2.2.2.2
              have q0 := HA.out.2.2.1
              have q1 := HA.out.2.2.2.1
              have q2 := HA.out.2.2.2.2.1
              have HX := IH.out (.iface u1 y1) m1 wr (Pre.below HA.out.2.1 HP1.out) (by simp) t a old (cell_old HA.out.2.1 HD.out.1) (frozen_old HA.out.2.1 HD.out.1 HD.out.2.1) (cell_old HA.out.2.1 HD.out.2.2)
              rcases hh : firstOf 39 m1 with _ | y
              · have F1 : Hid (firstOf 39 m1 = none) := hh
                rw [hh] at HX
                have HX2 : Hid (Calls Tryd.prog 38 _ _ _) := HX
                clear hh HX
                go_wp2_with fail
                go_at_call 38
                refine HX2.out.mono ?_
                rintro r w' ⟨rfl, hw⟩
                have HA2 : Hid (Below w.heap.size w w' ∧ w'.cell? ⟨w.heap.size, 0, none⟩ = some (.pointer (some ⟨1, 91, none⟩)) ∧ w'.cell? ⟨w.heap.size, 1, none⟩ = some (.pointer (some a)) ∧ w'.cell? ⟨w.heap.size, 2, none⟩ = some (.int .u64 150) ∧ w'.cell? ⟨g, 0, none⟩ = some (.iface u1 y1) ∧ w'.cell? ⟨g, 1, none⟩ = some (.iface u2 y2)) :=
                  ⟨bel2e HA.out.2.1 hw, cell_old hw q0, cell_old hw q1, cell_old hw q2, cell_old hw c0, cell_old hw c1⟩
                clear hw q0 q1 q2 c0 c1 HX2 HA
                go_wp2
                go_roundw
                case rel => exact ⟨1, by omega, rfl, ⟨fun _ => trivial, fun h => absurd h (by omega)⟩, HA2.out⟩
                case measure => simp [intOf]
              · have HC2 : Hid (firstOf 39 ns = some y) := by show _ = _; rw [HC.out]; exact firstOf_left 39 m1 m2 y hh
                rw [hh] at HX
                have HX2 : Hid (Calls Tryd.prog 38 _ _ _) := HX
                clear hh HX
                go_wp2_with fail
                go_at_call 38
                refine HX2.out.mono ?_
                rintro r w' ⟨rfl, hw⟩
                have HW : Hid (AsPost w w' t (firstOf 39 ns)) := by
                  rw [HC2.out]
                  obtain ⟨w1, hw1, hw2⟩ := hw
                  exact ⟨w1, bel2e HA.out.2.1 hw1, hw2⟩
                clear hw q0 q1 q2 c0 c1 HX2 HA
                go_wp2
                go_ret
                exact ⟨by rw [HC2.out]; rfl, HW.out⟩
            | 1, hj, HA =>
              have F1 : Hid (firstOf 39 m1 = none) := HA.out.1.1 (by omega)
              have c0 := HA.out.2.2.2.2.2.1
              have c1 := HA.out.2.2.2.2.2.2
              have q0 := HA.out.2.2.1
              have q1 := HA.out.2.2.2.1
              have q2 := HA.out.2.2.2.2.1
              have HX := IH.out (.iface u2 y2) m2 wr (Pre.below HA.out.2.1 HP2.out) (by simp) t a old (cell_old HA.out.2.1 HD.out.1) (frozen_old HA.out.2.1 HD.out.1 HD.out.2.1) (cell_old HA.out.2.1 HD.out.2.2)
              rcases hh : firstOf 39 m2 with _ | y
              · have F2 : Hid (firstOf 39 m2 = none) := hh
                rw [hh] at HX
                have HX2 : Hid (Calls Tryd.prog 38 _ _ _) := HX
                clear hh HX
                go_wp2_with fail
                go_at_call 38
                refine HX2.out.mono ?_
                rintro r w' ⟨rfl, hw⟩
                have HA2 : Hid (Below w.heap.size w w' ∧ w'.cell? ⟨w.heap.size, 0, none⟩ = some (.pointer (some ⟨1, 91, none⟩)) ∧ w'.cell? ⟨w.heap.size, 1, none⟩ = some (.pointer (some a)) ∧ w'.cell? ⟨w.heap.size, 2, none⟩ = some (.int .u64 150) ∧ w'.cell? ⟨g, 0, none⟩ = some (.iface u1 y1) ∧ w'.cell? ⟨g, 1, none⟩ = some (.iface u2 y2)) :=
                  ⟨bel2e HA.out.2.1 hw, cell_old hw q0, cell_old hw q1, cell_old hw q2, cell_old hw c0, cell_old hw c1⟩
                clear hw q0 q1 q2 c0 c1 HX2 HA
                go_wp2
                go_roundw
                case rel => exact ⟨2, by omega, rfl, ⟨fun _ => F1.out, fun _ => trivial⟩, HA2.out⟩
                case measure => simp [intOf]
              · have HC2 : Hid (firstOf 39 ns = some y) := by show _ = _; rw [HC.out]; exact (by rw [firstOf_right 39 m1 m2 F1.out]; exact hh)
                rw [hh] at HX
                have HX2 : Hid (Calls Tryd.prog 38 _ _ _) := HX
                clear hh HX
                go_wp2_with fail
                go_at_call 38
                refine HX2.out.mono ?_
                rintro r w' ⟨rfl, hw⟩
                have HW : Hid (AsPost w w' t (firstOf 39 ns)) := by
                  rw [HC2.out]
                  obtain ⟨w1, hw1, hw2⟩ := hw
                  exact ⟨w1, bel2e HA.out.2.1 hw1, hw2⟩
                clear hw q0 q1 q2 c0 c1 HX2 HA
                go_wp2
                go_ret
                exact ⟨by rw [HC2.out]; rfl, HW.out⟩
            | 2, hj, HA =>
              have HC2 : Hid (firstOf 39 ns = none) := by show _ = _; rw [HC.out, firstOf_right 39 m1 m2 (HA.out.1.1 (by omega))]; exact HA.out.1.2 (by omega)
              have HW : Hid (Below w.heap.size w wr) := HA.out.2.1
              clear HA
              go_wp2
              go_ret
              exact ⟨by rw [HC2.out]; rfl, by rw [HC2.out]; exact HW.out⟩
            | j + 3, hj, HA => omega
end Go.Proofs.YtlandjnhhcnbeaaDoor.A1
