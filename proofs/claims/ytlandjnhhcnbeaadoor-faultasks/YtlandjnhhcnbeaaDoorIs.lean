/- errors.is, errors.Is over what is within an error: is a number within? -/
import Derived.Test.YtlandjnhhcnbeaaDoorPre
namespace Go.Proofs.YtlandjnhhcnbeaaDoor
open Go.RowKit Go.Extern.Stop Go.Stop Go.Extern
set_option linter.unusedVariables false

/-- Is the number within? -/
def hit (n : Int) (ns : List Nd) : Bool := (nums ns).contains n
theorem hit_num (n m : Int) (l : List (ByteArray × ByteArray)) : hit n [(39, .int .i64 m, l)] = (m == n) := by
  unfold hit nums
  by_cases h : m = n
  · subst h; simp [intOf]
  · have h2 : ¬ n = m := fun e => h e.symm
    rw [beq_eq_false_iff_ne.2 h]; simp [intOf, h2]
theorem hit_nil (n : Int) : hit n [] = false := rfl
theorem hit_app (n : Int) (a b : List Nd) : hit n (a ++ b) = (hit n a || hit n b) := by unfold hit; rw [nums_append]; simp
theorem hit_skip (n : Int) (t : Nat) (x : Value × List (ByteArray × ByteArray)) (a : List Nd) (h : (t == 39) = false) : hit n ((t, x) :: a) = hit n a := by unfold hit nums; simp [h]
theorem ret_bool {b c : Bool} (h : Hid (b = c)) : Ending.returned (.bool c) = Ending.returned (.bool b) := by rw [h.out]

set_option maxRecDepth 4000 in
set_option maxHeartbeats 4000000 in
theorem is_pre (n : Int) : ∀ (f : Nat) (v : Value) (ns : List Nd) (w : World), Pre w f v ns → v ≠ .nilIface →
    Calls Tryd.prog 34 #[v, .iface 39 (.int .i64 n), .bool true] w fun e w' => e = .returned (.bool (hit n ns)) ∧ Below w.heap.size w w'
  | 0, v, ns, w, h, hv => absurd h.1 hv
  | f + 1, v, ns, w, h, hv => by
    have IH : Hid (∀ (v : Value) (ns : List Nd) (w : World), Pre w f v ns → v ≠ .nilIface → Calls Tryd.prog 34 #[v, .iface 39 (.int .i64 n), .bool true] w fun e w' => e = .returned (.bool (hit n ns)) ∧ Below w.heap.size w w') := fun v ns w => is_pre n f v ns w
    have H : Hid (Pre w (f + 1) v ns ∧ v ≠ .nilIface) := ⟨h, hv⟩
    have q0 := lacks95_39
    have q1 := lacks98_39
    have q2 := lacks100_39
    have q3 := lacks95_47
    have q4 := lacks98_47
    have q5 := lacks100_47
    have q6 := lacks95_54
    have q7 := has98_54
    have q8 := lacks95_72
    have q9 := lacks98_72
    have q10 := has100_72
    have q11 := eql_47
    have q12 := eql_54
    have q13 := eql_72
    have q14 := meth_fault
    have q15 := meth_join
    clear h hv
    go_enter Tryd.func34, Tryd.ntmps34
    go_wp2
    go_loopg [0] (f + 1) (fun k e wr => ∃ ms, k ≤ f + 1 ∧ Aside (Pre w k e ms ∧ e ≠ .nilIface ∧ hit n ns = hit n ms ∧ Below w.heap.size w wr))
    case atStart => exact ⟨ns, Nat.le_refl _, H.out.1, H.out.2, rfl, Below.refl _ _⟩
    case round =>
      obtain ⟨ms, hk, hA⟩ := hrel
      obtain ⟨hP, hN, hC, hBB⟩ := hA.out
      have HB : Hid (Below w.heap.size w wr) := hBB
      clear hA hBB
      match gk, hk, hP with
      | 0, hk, hP => exact absurd hP.1 hN
      | k + 1, hk, hP =>
        rcases hP with h | ⟨m, h, hm⟩ | ⟨b, s, h, h2, hm⟩ | ⟨b, op, path, e, ms', h, h2, h3, h4, h9, h5, h6, hm⟩ | ⟨b, x1, x2, m1, m2, h, h3, h4, h5, h6, h7, h8, hm⟩
        · exact absurd h.1 hN
        · subst h hm
          rw [hit_num] at hC
          have HC : Hid (_ = _) := hC
          clear hC hN
          rcases hab : (m == n) with _ | _
          · have h4 := fun w => (eql_num m n w).trans (by rw [hab])
            have HC2 : Hid (_ = false) := HC.out.trans hab
            clear hab HC
            go_wp2
            go_ret
            exact ⟨ret_bool HC2, HB.out⟩
          · have h4 := fun w => (eql_num m n w).trans (by rw [hab])
            have HC2 : Hid (_ = true) := HC.out.trans hab
            clear hab HC
            go_wp2
            go_ret
            exact ⟨ret_bool HC2, HB.out⟩
        · subst h hm
          have HC : Hid (_ = false) := hC
          clear hC hN h2
          go_wp2
          go_ret
          exact ⟨ret_bool HC, HB.out⟩
        · subst h hm
          rw [hit_skip n 54 _ ms' rfl] at hC
          have HC : Hid (hit n ns = hit n ms') := hC
          have HP : Hid (Pre w k e ms') := h6
          obtain ⟨u, x, he⟩ := (Pre.form h6).resolve_left h5
          subst he
          have h4w := cell_old HB.out h4
          clear hC hN h6 h5 h2 h3 h4 h9
          go_wp2_with (go_at_call 67; refine (unwrap_any b _ wr h4w).mono ?_; rintro r w' ⟨rfl, hw⟩; have hw := hw.symm; subst hw)
          go_roundg k
          case measure => omega
          case rel => exact ⟨ms', by omega, HP.out, by simp, HC.out, HB.out⟩
        · subst h hm
          rw [hit_skip n 72 _ _ rfl, hit_app] at hC
          have HC : Hid (hit n ns = (hit n m1 || hit n m2)) := hC
          have HP1 : Hid (Pre w f x1 m1) := h7.mono (by omega)
          have HP2 : Hid (Pre w f x2 m2) := h8.mono (by omega)
          obtain ⟨u1, y1, hy1⟩ := (Pre.form h7).resolve_left h5
          obtain ⟨u2, y2, hy2⟩ := (Pre.form h8).resolve_left h6
          subst hy1 hy2
          have HX : Hid (Calls Tryd.prog 69 _ _ _) := unwraps_any b _ _ _ _ wr (cell_old HB.out h3) (cell_old HB.out h4)
          clear hC hN h5 h6 h7 h8 h3 h4
          go_wp2_with fail
          go_at_call 69
          refine HX.out.mono ?_
          rintro r w' ⟨g, rfl, c0, c1, hw⟩
          have HB2 : Hid (Below w.heap.size w w' ∧ w'.cell? ⟨g, 0, none⟩ = some (.iface u1 y1) ∧ w'.cell? ⟨g, 1, none⟩ = some (.iface u2 y2)) := ⟨bel2e HB.out hw, c0, c1⟩
          clear HX hw c0 c1 HB
          go_wp2
          go_loopw [45] (fun i wr => ∃ j : Nat, j ≤ 2 ∧ i = .int .i64 (j : Int) ∧ Hid (((1 ≤ j → hit n m1 = false) ∧ (2 ≤ j → hit n m2 = false)) ∧ Below w.heap.size w wr ∧ wr.cell? ⟨g, 0, none⟩ = some (.iface u1 y1) ∧ wr.cell? ⟨g, 1, none⟩ = some (.iface u2 y2))) (fun i _ => 2 - (intOf i).toNat)
          case atStart => exact ⟨0, by omega, rfl, ⟨fun h => absurd h (by omega), fun h => absurd h (by omega)⟩, HB2.out⟩
          case round =>
            obtain ⟨j, hj, rfl, HA⟩ := hrel
            have c0 := HA.out.2.2.1
            have c1 := HA.out.2.2.2
            match j, hj, HA with
            | 0, hj, HA =>
              rcases hh : hit n m1 with _ | _
              · have H1 : Hid (hit n m1 = false) := hh
                clear hh
                have HX : Hid (Calls Tryd.prog 34 _ _ _) := IH.out (.iface u1 y1) m1 wr (Pre.below HA.out.2.1 HP1.out) (by simp)
                go_wp2_with fail
                go_at_call 34
                refine HX.out.mono ?_
                rintro r w' ⟨rfl, hw⟩
                rw [H1.out]
                have HA2 : Hid (Below w.heap.size w w' ∧ w'.cell? ⟨g, 0, none⟩ = some (.iface u1 y1) ∧ w'.cell? ⟨g, 1, none⟩ = some (.iface u2 y2)) := ⟨bel2e HA.out.2.1 hw, cell_old hw c0, cell_old hw c1⟩
                clear hw c0 c1 HX HA
                go_wp2
                go_roundw
                case rel => exact ⟨1, by omega, rfl, ⟨fun _ => trivial, fun h => absurd h (by omega)⟩, HA2.out⟩
                case measure => simp [intOf]
              · have H1 : Hid (hit n m1 = true) := hh
                have HC2 : Hid (hit n ns = true) := by show _ = _; rw [HC.out, H1.out]; rfl
                clear hh
                have HX : Hid (Calls Tryd.prog 34 _ _ _) := IH.out (.iface u1 y1) m1 wr (Pre.below HA.out.2.1 HP1.out) (by simp)
                go_wp2_with fail
                go_at_call 34
                refine HX.out.mono ?_
                rintro r w' ⟨rfl, hw⟩
                rw [H1.out]
                have HE : Hid (Below w.heap.size w w') := bel2e HA.out.2.1 hw
                clear hw c0 c1 HX HA
                go_wp2
                go_ret
                exact ⟨ret_bool HC2, HE.out⟩
            | 1, hj, HA =>
              have H1 : Hid (hit n m1 = false) := HA.out.1.1 (by omega)
              rcases hh : hit n m2 with _ | _
              · have H2 : Hid (hit n m2 = false) := hh
                clear hh
                have HX : Hid (Calls Tryd.prog 34 _ _ _) := IH.out (.iface u2 y2) m2 wr (Pre.below HA.out.2.1 HP2.out) (by simp)
                go_wp2_with fail
                go_at_call 34
                refine HX.out.mono ?_
                rintro r w' ⟨rfl, hw⟩
                rw [H2.out]
                have HA2 : Hid (Below w.heap.size w w' ∧ w'.cell? ⟨g, 0, none⟩ = some (.iface u1 y1) ∧ w'.cell? ⟨g, 1, none⟩ = some (.iface u2 y2)) := ⟨bel2e HA.out.2.1 hw, cell_old hw c0, cell_old hw c1⟩
                clear hw c0 c1 HX HA
                go_wp2
                go_roundw
                case rel => exact ⟨2, by omega, rfl, ⟨fun _ => H1.out, fun _ => trivial⟩, HA2.out⟩
                case measure => simp [intOf]
              · have H2 : Hid (hit n m2 = true) := hh
                have HC2 : Hid (hit n ns = true) := by show _ = _; rw [HC.out, H2.out, Bool.or_true]
                clear hh
                have HX : Hid (Calls Tryd.prog 34 _ _ _) := IH.out (.iface u2 y2) m2 wr (Pre.below HA.out.2.1 HP2.out) (by simp)
                go_wp2_with fail
                go_at_call 34
                refine HX.out.mono ?_
                rintro r w' ⟨rfl, hw⟩
                rw [H2.out]
                have HE : Hid (Below w.heap.size w w') := bel2e HA.out.2.1 hw
                clear hw c0 c1 HX HA
                go_wp2
                go_ret
                exact ⟨ret_bool HC2, HE.out⟩
            | 2, hj, HA =>
              have HC2 : Hid (hit n ns = false) := by show _ = _; rw [HC.out, HA.out.1.1 (by omega), HA.out.1.2 (by omega)]; rfl
              have HE : Hid (Below w.heap.size w wr) := HA.out.2.1
              clear HA c0 c1
              go_wp2
              go_ret
              exact ⟨ret_bool HC2, HE.out⟩
            | j + 3, hj, HA => omega

theorem typeOf_num (v : Value) (w : World) : (Extern.ReflectliteType.typeOf #[.iface 39 v]).run Tryd.prog w = .ok (.iface 93 (.agg #[.pointer (some ⟨1, 39, none⟩)])) w := by kernel_rfl
theorem comparable_num (w : World) : (Extern.ReflectliteType.method (fun t => do Go.Extern.Rtype.noPackHeld "Comparable" t; pure (.bool (← typeInfo t).comparable)) #[.agg #[.pointer (some ⟨1, 39, none⟩)]]).run Tryd.prog w = .ok (.bool true) w := by kernel_rfl
theorem meth_comparable (v : Value) (w : World) : (Go.method 239 93 v "Comparable").run Tryd.prog w = .ok (75, v) w := by kernel_rfl
theorem run_comparable (w : World) : (callFunc 75 #[.agg #[.pointer (some ⟨1, 39, none⟩)]]).run Tryd.prog w = .ok (.value (.bool true)) w := by
  have h := @run_callFunc_extern Tryd.prog 75 _ (Extern.ReflectliteType.method fun t => do Go.Extern.Rtype.noPackHeld "Comparable" t; pure (.bool (← typeInfo t).comparable)) Tryd.func75 (by kernel_rfl) (by kernel_rfl) (by kernel_rfl) (by kernel_rfl)
  rw [h, comparable_num]; rfl
set_option maxHeartbeats 1000000 in
/-- errors.Is of an error and a number. -/
theorem is_any (n : Int) (f : Nat) (v : Value) (ns : List Nd) (w : World) (hp : Pre w f v ns) :
    Calls Tryd.prog 24 #[v, .iface 39 (.int .i64 n)] w fun e w' => e = .returned (.bool (hit n ns)) ∧ Below w.heap.size w w' := by
  have hT := @run_callFunc_extern Tryd.prog 33 _ Extern.ReflectliteType.typeOf Tryd.func33 (by kernel_rfl) (by kernel_rfl) (by kernel_rfl) (by kernel_rfl)
  have tT := typeOf_num
  have hC := run_comparable
  have mR := meth_comparable
  have hl := fun w => run_eql_iface_nil_left (P := Tryd.prog) w (ti := 29) 39 (.int .i64 n) Tryd.underlying29
  rcases Pre.form hp with he | ⟨u, x, he⟩
  · subst he
    have HN : Hid (hit n ns = false) := by show _ = _; rw [Pre.nil hp]; rfl
    clear hp
    go_enter Tryd.func24, Tryd.ntmps24
    go_wp2
    go_ret
    exact ⟨ret_bool HN, Below.refl _ _⟩
  · subst he
    have HX : Hid (Calls Tryd.prog 34 _ _ _) := is_pre n f (.iface u x) ns w hp (by simp)
    clear hp
    go_enter Tryd.func24, Tryd.ntmps24
    go_wp2_with fail
    go_at_call 34
    refine HX.out.mono ?_
    rintro e w' ⟨rfl, hw⟩
    have HW : Hid (Below w.heap.size w w') := hw
    clear hw HX
    go_wp2
    go_ret
    exact ⟨rfl, HW.out⟩
end Go.Proofs.YtlandjnhhcnbeaaDoor
