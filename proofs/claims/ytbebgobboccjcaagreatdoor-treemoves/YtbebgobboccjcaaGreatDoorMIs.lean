/- errors.is, errors.Is over what is within an error: is a number within? -/
import Derived.Test.YtbebgobboccjcaaGreatDoorG1
namespace Go.Proofs.YtbebgobboccjcaaGreatDoor
open Go.RowKit Go.Extern.Stop Go.Stop Go.Extern
set_option linter.unusedVariables false

/-- Is the number within? -/
def hit (n : Int) (ns : List Nd) : Bool := (nums ns).contains n
theorem hit_num (n m : Int) (l : List (ByteArray × ByteArray)) : hit n [(80, .int .i64 m, l)] = (m == n) := by
  unfold hit nums
  by_cases h : m = n
  · subst h; simp [intOf]
  · have h2 : ¬ n = m := fun e => h e.symm
    rw [beq_eq_false_iff_ne.2 h]; simp [intOf, h2]
theorem hit_nil (n : Int) : hit n [] = false := rfl
theorem hit_app (n : Int) (a b : List Nd) : hit n (a ++ b) = (hit n a || hit n b) := by unfold hit; rw [nums_append]; simp
theorem hit_skip (n : Int) (t : Nat) (x : Value × List (ByteArray × ByteArray)) (a : List Nd) (h : (t == 80) = false) : hit n ((t, x) :: a) = hit n a := by unfold hit nums; simp [h]
theorem ret_bool {b c : Bool} (h : Hid (b = c)) : Ending.returned (.bool c) = Ending.returned (.bool b) := by rw [h.out]

set_option maxRecDepth 4000 in
set_option maxHeartbeats 4000000 in
theorem is_pre (n : Int) : ∀ (f : Nat) (v : Value) (ns : List Nd) (w : World), Pre w f v ns → v ≠ .nilIface →
    Calls Tryz.prog 82 #[v, .iface 80 (.int .i64 n), .bool true] w fun e w' => e = .returned (.bool (hit n ns)) ∧ Below w.heap.size w w'
  | 0, v, ns, w, h, hv => absurd h.1 hv
  | f + 1, v, ns, w, h, hv => by
    have IH : Hid (∀ (v : Value) (ns : List Nd) (w : World), Pre w f v ns → v ≠ .nilIface → Calls Tryz.prog 82 #[v, .iface 80 (.int .i64 n), .bool true] w fun e w' => e = .returned (.bool (hit n ns)) ∧ Below w.heap.size w w') := fun v ns w => is_pre n f v ns w
    have H : Hid (Pre w (f + 1) v ns ∧ v ≠ .nilIface) := ⟨h, hv⟩
    have q0 := lacks174_80
    have q1 := lacks166_80
    have q2 := lacks168_80
    have q3 := lacks174_85
    have q4 := has166_85
    have q5 := eql_85
    have q6 := meth_fault
    clear h hv
    go_enter Tryz.func82, Tryz.ntmps82
    go_wp2
    go_loopg [0] (f + 1) (fun k e wr => ∃ ms, k ≤ f + 1 ∧ Aside (Pre w k e ms ∧ e ≠ .nilIface ∧ hit n ns = hit n ms ∧ Below w.heap.size w wr))
    case atStart => exact ⟨ns, Nat.le_refl _, H.out.1, H.out.2, rfl, Below.refl _ _⟩
    case round =>
      obtain ⟨ms, hk, hA⟩ := hrel
      obtain ⟨hP, hN, hC, hBB⟩ := hA.out
      have HB : Hid (Below w.heap.size w wr) := hBB
      clear hA hBB
      match gk, hk, hP with
      | 0, hk, hP => exact absurd hP.1 hN
      | k + 1, hk, hP =>
        rcases hP with h | ⟨m, h, hm⟩ | ⟨b, op, path, e, ms', h, h2, h3, h4, h9, h5, h6, hm⟩
        · exact absurd h.1 hN
        · subst h hm
          rw [hit_num] at hC
          have HC : Hid (_ = _) := hC
          clear hC hN
          rcases hab : (m == n) with _ | _
          · have h4 := fun w => (eql_num m n w).trans (by rw [hab])
            have HC2 : Hid (_ = false) := HC.out.trans hab
            clear hab HC
            go_wp2
            go_ret
            exact ⟨ret_bool HC2, HB.out⟩
          · have h4 := fun w => (eql_num m n w).trans (by rw [hab])
            have HC2 : Hid (_ = true) := HC.out.trans hab
            clear hab HC
            go_wp2
            go_ret
            exact ⟨ret_bool HC2, HB.out⟩
        · subst h hm
          rw [hit_skip n 85 _ ms' rfl] at hC
          have HC : Hid (hit n ns = hit n ms') := hC
          have HP : Hid (Pre w k e ms') := h6
          obtain ⟨u, x, he⟩ := (Pre.form h6).resolve_left h5
          subst he
          have h4w := cell_old HB.out h4
          clear hC hN h6 h5 h2 h3 h4 h9
          go_wp2_with (go_at_call 192; refine (unwrap_any b _ wr h4w).mono ?_; rintro r w' ⟨rfl, hw⟩; have hw := hw.symm; subst hw)
          go_roundg k
          case measure => omega
          case rel => exact ⟨ms', by omega, HP.out, by simp, HC.out, HB.out⟩

theorem typeOf_num (v : Value) (w : World) : (Extern.ReflectliteType.typeOf #[.iface 80 v]).run Tryz.prog w = .ok (.iface 159 (.agg #[.pointer (some ⟨4, 80, none⟩)])) w := by kernel_rfl
theorem comparable_num (w : World) : (Extern.ReflectliteType.method (fun t => do Go.Extern.Rtype.noPackHeld "Comparable" t; pure (.bool (← typeInfo t).comparable)) #[.agg #[.pointer (some ⟨4, 80, none⟩)]]).run Tryz.prog w = .ok (.bool true) w := by kernel_rfl
theorem meth_comparable (v : Value) (w : World) : (Go.method 354 159 v "Comparable").run Tryz.prog w = .ok (198, v) w := by kernel_rfl
theorem run_comparable (w : World) : (callFunc 198 #[.agg #[.pointer (some ⟨4, 80, none⟩)]]).run Tryz.prog w = .ok (.value (.bool true)) w := by
  have h := @run_callFunc_extern Tryz.prog 198 _ (Extern.ReflectliteType.method fun t => do Go.Extern.Rtype.noPackHeld "Comparable" t; pure (.bool (← typeInfo t).comparable)) Tryz.func198 (by kernel_rfl) (by kernel_rfl) (by kernel_rfl) (by kernel_rfl)
  rw [h, comparable_num]; rfl
set_option maxHeartbeats 1000000 in
/-- errors.Is of an error and a number. -/
theorem is_any (n : Int) (f : Nat) (v : Value) (ns : List Nd) (w : World) (hp : Pre w f v ns) :
    Calls Tryz.prog 47 #[v, .iface 80 (.int .i64 n)] w fun e w' => e = .returned (.bool (hit n ns)) ∧ Below w.heap.size w w' := by
  have hT := @run_callFunc_extern Tryz.prog 81 _ Extern.ReflectliteType.typeOf Tryz.func81 (by kernel_rfl) (by kernel_rfl) (by kernel_rfl) (by kernel_rfl)
  have tT := typeOf_num
  have hC := run_comparable
  have mR := meth_comparable
  have hl := fun w => run_eql_iface_nil_left (P := Tryz.prog) w (ti := 42) 80 (.int .i64 n) Tryz.underlying42
  rcases Pre.form hp with he | ⟨u, x, he⟩
  · subst he
    have HN : Hid (hit n ns = false) := by show _ = _; rw [Pre.nil hp]; rfl
    clear hp
    go_enter Tryz.func47, Tryz.ntmps47
    go_wp2
    go_ret
    exact ⟨ret_bool HN, Below.refl _ _⟩
  · subst he
    have HX : Hid (Calls Tryz.prog 82 _ _ _) := is_pre n f (.iface u x) ns w hp (by simp)
    clear hp
    go_enter Tryz.func47, Tryz.ntmps47
    go_wp2_with fail
    go_at_call 82
    refine HX.out.mono ?_
    rintro e w' ⟨rfl, hw⟩
    have HW : Hid (Below w.heap.size w w') := hw
    clear hw HX
    go_wp2
    go_ret
    exact ⟨rfl, HW.out⟩
end Go.Proofs.YtbebgobboccjcaaGreatDoor
