/- Several texts in one: LErr Door5. -/
import Derived.Test.YtchajlaflehodaaGreatDoorMAz0
import Derived.Test.YtchajlaflehodaaGreatDoorG2
import Derived.Test.YtchajlaflehodaaGreatDoorG1
import Derived.Test.YtchajlaflehodaaGreatDoorMRCode
import Derived.Test.YtchajlaflehodaaGreatDoorRows
import Derived.ProofKit
import Derived.LaidMore
import Derived.LaidHandle
import Derived.LaidSub
import Derived.OpenShut
import Derived.Stop.Joined
import Derived.Lay
import Derived.LaidOnce
/- dolmenalike.Code and Is over what tree.Do answers as its error. -/
namespace Go.Proofs.YtchajlaflehodaaGreatDoor
open Go.RowKit Kit
set_option linter.unusedVariables false

theorem pre_flt {w : World} {g : Nat} {op path : ByteArray} {c : Int} (h : w.heap[g]? = some (.cells #[.string op, .string path, .iface 68 (.int .i64 c)] 90)) (h1 : op.size ≤ 1000) (h2 : path.size ≤ 1000) :
    Pre w 2 (.iface 86 (.pointer (some ⟨g, 0, none⟩))) [(86, .pointer (some ⟨g, 0, none⟩), [(op, path)]), (68, .int .i64 c, [])] := by
  refine .inr (.inr ⟨g, op, path, .iface 68 (.int .i64 c), [(68, .int .i64 c, [])], rfl, ?_, ?_, ?_, ⟨h1, h2⟩, by simp, .inr (.inl ⟨c, rfl, rfl⟩), rfl⟩) <;> simp [World.cell?, h]
theorem hit_fault (k c : Int) (g : Nat) (op path : ByteArray) : hit k [(86, .pointer (some ⟨g, 0, none⟩), [(op, path)]), (68, .int .i64 c, [])] = (c == k) := by
  rw [hit_skip k 86 _ _ (by decide), hit_num]
set_option maxHeartbeats 1000000 in
/-- dolmenalike.Code of a Fault with a number within. -/
theorem code_fault (n : Nat) (w : World) (g : Nat) (op path : ByteArray) (h1 : 1 ≤ n) (h19 : n ≤ 19) (h : w.heap[g]? = some (.cells #[.string op, .string path, .iface 68 (.int .i64 n)] 90)) (hop : op.size ≤ 1000) (hpath : path.size ≤ 1000) :
    Calls Tryz.prog 21 #[.iface 86 (.pointer (some ⟨g, 0, none⟩))] w fun e w' => e = .returned (.int .i64 n) ∧ Below w.heap.size w w' := by
  have HP : Hid (Pre w 2 (.iface 86 (.pointer (some ⟨g, 0, none⟩))) [(86, .pointer (some ⟨g, 0, none⟩), [(op, path)]), (68, .int .i64 n, [])]) := pre_flt h hop hpath
  have HI : Hid (∀ (k : Int) (w1 : World), Below w.heap.size w w1 → Calls Tryz.prog 39 #[.iface 86 (.pointer (some ⟨g, 0, none⟩)), .iface 68 (.int .i64 k)] w1 fun e w' => e = .returned (.bool ((n : Int) == k)) ∧ Below w1.heap.size w1 w') := fun k w1 hb => by
    have := is_any k 2 _ _ w1 (HP.out.below hb)
    rw [hit_fault] at this
    exact this
  clear h hop hpath HP
  go_enter Tryz.func21, Tryz.ntmps21
  go_wp2
  go_loopw [3] (fun i wr => ∃ k : Nat, 1 ≤ k ∧ k ≤ n ∧ i = .int .i64 k ∧ Hid (Below w.heap.size w wr)) (fun i _ => 20 - (intOf i).toNat)
  case atStart => exact ⟨1, by omega, by omega, rfl, Below.refl _ _⟩
  case round =>
    obtain ⟨k, hk1, hk, rfl, HB⟩ := hrel
    by_cases hkn : k = n
    · subst hkn
      have hbb : (((k : Nat) : Int) == (k : Int)) = true := beq_self_eq_true _
      go_wp2_with fail
      go_at_call 39
      refine (HI.out _ _ HB.out).mono ?_
      rintro e w' ⟨rfl, hw⟩
      have HB2 : Hid (Below w.heap.size w w') := bel2e HB.out hw
      clear hw HI HB
      go_wp2
      go_ret
      exact ⟨rfl, HB2.out⟩
    · have hne : ((n : Int) == (k : Int)) = false := beq_eq_false_iff_ne.2 (by omega)
      go_wp2_with fail
      go_at_call 39
      refine (HI.out _ _ HB.out).mono ?_
      rintro e w' ⟨rfl, hw⟩
      have HB2 : Hid (Below w.heap.size w w') := bel2e HB.out hw
      clear hw HI HB
      go_wp2
      go_round
      case rel => exact ⟨k + 1, by omega, by omega, by go_num, HB2⟩
      case measure => simp [intOf]; omega

def Tied (w : World) : Prop := w.cell? ⟨0, 0, none⟩ = some (.iface 139 (.agg #[.pointer (some ⟨4, 36, none⟩)]))
theorem tied_below {w w' : World} (h : Tied w) (hb : Below w.heap.size w w') : Tied w' := cell_old hb h
theorem first_fault (c : Int) (g : Nat) (op path : ByteArray) : firstOf 86 [(86, .pointer (some ⟨g, 0, none⟩), [(op, path)]), (68, .int .i64 c, [])] = some (.pointer (some ⟨g, 0, none⟩)) := firstOf_hit _ _ _ _
theorem str_self (a : ByteArray) : (a.toList == a.toList) = true := beq_self_eq_true _
set_option maxRecDepth 4000 in
set_option maxHeartbeats 4000000 in
/-- dolmenalike.Is of a Fault with just that number, operation and path. -/
theorem ais_fault (n : Nat) (w : World) (g : Nat) (op path : ByteArray) (hg : Tied w) (h1 : 1 ≤ n) (h19 : n ≤ 19) (h : w.heap[g]? = some (.cells #[.string op, .string path, .iface 68 (.int .i64 n)] 90)) (hop : op.size ≤ 1000) (hpath : path.size ≤ 1000) :
    Calls Tryz.prog 25 #[.iface 86 (.pointer (some ⟨g, 0, none⟩)), .int .i64 n, .string op, .string path] w fun e w' => e = .returned (.bool true) ∧ Below w.heap.size w w' := by
  have hgl : g < w.heap.size := (Array.getElem?_eq_some_iff.1 h).1
  have HC : Hid (Calls Tryz.prog 21 _ _ _) := code_fault n w g op path h1 h19 h hop hpath
  have HA : Hid (∀ w1, Below w.heap.size w w1 → Calls Tryz.prog 40 #[.iface 86 (.pointer (some ⟨g, 0, none⟩)), .iface 88 (.pointer (some ⟨w1.heap.size, 0, none⟩))] (w1.alloc (.cells #[.pointer none] 86)) fun e w' => e = .returned (.bool true) ∧
      w'.cell? ⟨w1.heap.size, 0, none⟩ = some (.pointer (some ⟨g, 0, none⟩)) ∧ w'.cell? ⟨g, 0, none⟩ = some (.string op) ∧ w'.cell? ⟨g, 1, none⟩ = some (.string path) ∧ Hid (Below w.heap.size w w')) := fun w1 hb => by
    have hb2 : Below w1.heap.size w1 (w1.alloc (.cells #[.pointer none] 86)) := (Below.refl _ _).alloc (Nat.le_refl _) _
    have hb3 := bel2e hb hb2
    have hx := A0.as_any 2 _ _ (w1.alloc (.cells #[.pointer none] 86)) ((pre_flt h hop hpath).below hb3) ⟨w1.heap.size, 0, none⟩ (.pointer none) (by simp) (by simp only [World.frozen?, (MapKept.heap_alloc w1 _).1]; rfl) (tied_below hg hb3)
    rw [first_fault] at hx
    refine hx.mono ?_
    rintro e w' ⟨rfl, w2, k1, rfl⟩
    have hbl : w2.heap[g]? = w.heap[g]? := ((k1.block g (Nat.lt_of_lt_of_le hgl hb3.size)).trans (hb3.block g hgl))
    have hs : w1.heap.size < w2.heap.size := by have := k1.size; simp at this; omega
    have hne : g ≠ w1.heap.size := by have := hb.size; omega
    have hc0 : w2.cell? ⟨w1.heap.size, 0, none⟩ = some (.pointer none) := cell_old k1 (by simp)
    have hq : (w2.setCell ⟨w1.heap.size, 0, none⟩ (.pointer (some ⟨g, 0, none⟩))).heap[g]? = some (.cells #[.string op, .string path, .iface 68 (.int .i64 n)] 90) := (Below.heap_setCell w2 ⟨w1.heap.size, 0, none⟩ _ g hne).trans (hbl.trans h)
    refine ⟨rfl, ?_, ?_, ?_, ?_⟩
    · exact World.cell?_setCell_same' _ _ _ (by rw [hc0]; rfl)
    · simp [World.cell?, hq]
    · simp [World.cell?, hq]
    · exact (bel2e hb3 k1).setCell (by have := hb.size; simpa using this) _
  have hss1 := str_self op
  have hss2 := str_self path
  have hnz : ((n : Int) == 0) = false := beq_eq_false_iff_ne.2 (by omega)
  have hnn : ((n : Int) == (n : Int)) = true := beq_self_eq_true _
  clear h hop hpath hg h19
  go_enter Tryz.func25, Tryz.ntmps25
  go_wp2_with fail
  go_at_call 21
  refine HC.out.mono ?_
  rintro e w1 ⟨rfl, hw⟩
  have HB : Hid (Below w.heap.size w w1) := hw
  clear hw HC
  go_wp2_with fail
  go_at_call 40
  refine (HA.out _ HB.out).mono ?_
  rintro e w2 ⟨rfl, c0, c1, c2, HB2⟩
  clear HA HB
  go_wp2
  go_ret
  exact ⟨rfl, HB2.out⟩
/-- dolmenalike.Is of no error and nought. -/
theorem ais_nil (op path : ByteArray) (w : World) : Calls Tryz.prog 25 #[.nilIface, .int .i64 0, .string op, .string path] w fun e w' => e = .returned (.bool true) ∧ w' = w := by
  have HC : Hid (∀ w, Calls Tryz.prog 21 #[.nilIface] w fun e w' => e = .returned (.int .i64 0) ∧ w' = w) := code_nil
  go_enter Tryz.func25, Tryz.ntmps25
  go_wp2_with fail
  go_at_call 21
  refine (HC.out _).mono ?_
  rintro e w1 ⟨rfl, rfl⟩
  go_wp2
  go_ret
  exact ⟨rfl, rfl⟩
end Go.Proofs.YtchajlaflehodaaGreatDoor
/- What the rows list of variables: two tables, and a type's handle; a state that meets it. -/
namespace Go.Proofs.YtchajlaflehodaaGreatDoor
open Go.ChangeShapes Go.WideShapes Go.ChangeAt Go.RowKit

/-- The list of the rows. -/
def laid1 : List (String × DataW Unit) := Rows.treeBytesRow.laid
def tabs1 : List (String × DataW Unit) := laid1.filter fun x => x.2.handleName?.isNone
def great1 : List String := tabs1.map (·.1)
theorem own : ownKnob Tryz.prog.godebug = none := by kernel_rfl
theorem laidOut : laidOutB Tryz.prog = true := by kernel_rfl
noncomputable def startW (os : Os) : World := (World.doorLaid Tryz.prog 26 os).layVars Tryz.prog (tabs1.filter fun x => great1.contains x.1)
theorem startW_os (os : Os) : (startW os).os = os := World.layVars_os _ _ _
theorem gET : Tryz.prog.globalNamed "errors.errorType" = some 0 := by kernel_rfl
theorem oneRow : ((List.range 231).filter fun t => Tryz.prog.rowNamed t [101, 114, 114, 111, 114]) = [36] := by kernel_rfl
theorem nTypes : Tryz.prog.types.size = 231 := by kernel_rfl
set_option maxRecDepth 100000 in
theorem door_met (os : Os) (args : Array Value) : laidMetH Tryz.prog laid1 ((startW os).forCall (fun _ _ => 0) ⟨#[], args, []⟩).memory :=
  laidMetH_of_parts (laidMet_layVars (w0 := World.doorLaid Tryz.prog 26 os) great1 [] (by simp [World.memory, World.forCall, Input.heap]; rfl) (by kernel_rfl) (by kernel_rfl) (by
    have e : ((laid1.filter fun x => x.2.handleName?.isNone).filter fun x => !great1.contains x.1) = [] := by kernel_rfl
    rw [e]
    exact LaidIn.none)) (by kernel_rfl)
/-- The variable's cell. -/
theorem tied_of_laid {W : World} (h : laidMetH Tryz.prog laid1 W) : Tied W := by
  have h' := (laidMetH_iff.1 h).2
  have hm0 : ("errors.errorType", Rows.laid_errors_errorType) ∈ laid1.filter fun x => x.2.handleName?.isSome := by
    rw [show (laid1.filter fun x => x.2.handleName?.isSome) = [("errors.errorType", Rows.laid_errors_errorType)] by kernel_rfl]
    exact List.mem_singleton.2 rfl
  obtain ⟨name, u, ty, e1, e2, e3, e4, e5⟩ := h' _ hm0
  have en : name = [101, 114, 114, 111, 114] := (Option.some.inj e1).symm
  subst en
  obtain rfl : u = 139 := Option.some.inj (e2.symm.trans (by kernel_rfl))
  have hm : ty ∈ (List.range 231).filter fun t => Tryz.prog.rowNamed t [101, 114, 114, 111, 114] := List.mem_filter.2 ⟨List.mem_range.2 (by rw [← nTypes]; exact e3), e4⟩
  rw [oneRow] at hm
  obtain rfl := List.mem_singleton.1 hm
  have hh : typeHandle Tryz.prog 36 = .pointer (some ⟨4, 36, none⟩) := by kernel_rfl
  rw [hh] at e5
  unfold Tied
  simpa using World.var?_cell gET e5 0
end Go.Proofs.YtchajlaflehodaaGreatDoor
