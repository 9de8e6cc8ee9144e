/- fault.first: the first number, the first Fault within. -/
import Derived.Test.YtlandjnhhcnbeaaDoorCatch
import Derived.Test.YtlandjnhhcnbeaaDoorMore
import Derived.Test.YtlandjnhhcnbeaaDoorAz0
import Derived.Test.YtlandjnhhcnbeaaDoorAz1
import Derived.Orders
namespace Go.Proofs.YtlandjnhhcnbeaaDoor
open Go.RowKit
set_option linter.unusedVariables false

/-- The listed variable. -/
def Tied (w : World) : Prop := w.cell? ⟨0, 0, none⟩ = some (.iface 93 (.agg #[.pointer (some ⟨1, 29, none⟩)]))
theorem Tied.below {w w' : World} (h : Tied w) (hb : Below w.heap.size w w') : Tied w' := cell_old hb h
/-- Two variables of the call's own. -/
def Two (w w' : World) (x y : Value) : Prop := Below w.heap.size w w' ∧ w'.cell? ⟨w.heap.size, 0, none⟩ = some x ∧ w'.frozen? ⟨w.heap.size, 0, none⟩ = false ∧ w'.cell? ⟨w.heap.size + 1, 0, none⟩ = some y ∧ w'.frozen? ⟨w.heap.size + 1, 0, none⟩ = false
theorem two_new (w : World) (x y : Value) (s t : TypeId) : Two w ((w.alloc (.cells #[x] s)).alloc (.cells #[y] t)) x y :=
  ⟨((Below.refl _ _).alloc (Nat.le_refl _) _).alloc (by simp) _, by simp, by simp, by simp, by simp⟩
theorem Two.below {w w1 w2 : World} {x y : Value} (h : Two w w1 x y) (hb : Below w1.heap.size w1 w2) : Two w w2 x y :=
  ⟨bel2e h.1 hb, cell_old hb h.2.1, frozen_old hb h.2.1 h.2.2.1, cell_old hb h.2.2.2.1, frozen_old hb h.2.2.2.1 h.2.2.2.2⟩
theorem Two.set {w w1 : World} {x y : Value} (h : Two w w1 x y) (z : Value) : Two w (w1.setCell ⟨w.heap.size, 0, none⟩ z) z y := by
  obtain ⟨h1, h2, h3, h4, h5⟩ := h
  exact ⟨h1.setCell (by exact Nat.le_refl _) _, World.cell?_setCell_same _ _ _ h2, by rw [World.frozen?_setCell]; exact h3, by rw [World.cell?_setCell_other _ _ _ _ (by simp)]; exact h4, by rw [World.frozen?_setCell]; exact h5⟩
theorem Two.set2 {w w1 : World} {x y : Value} (h : Two w w1 x y) (z : Value) : Two w (w1.setCell ⟨w.heap.size + 1, 0, none⟩ z) x z := by
  obtain ⟨h1, h2, h3, h4, h5⟩ := h
  exact ⟨h1.setCell (by exact Nat.le_succ _) _, by rw [World.cell?_setCell_other _ _ _ _ (by simp)]; exact h2, by rw [World.frozen?_setCell]; exact h3, World.cell?_setCell_same _ _ _ h4, by rw [World.frozen?_setCell]; exact h5⟩
theorem Two.drew {w w1 : World} {x y : Value} (h : Two w w1 x y) : Two w w1.drew x y := ⟨h.1.drew, h.2.1, h.2.2.1, h.2.2.2.1, h.2.2.2.2⟩
theorem Two.as {w w1 w2 : World} {x y : Value} {r : Option Value} (h : Two w w1 x y) (hp : AsPost w1 w2 ⟨w.heap.size, 0, none⟩ r) : Two w w2 (r.getD x) y := by
  cases r with
  | none => exact h.below hp
  | some z => obtain ⟨w3, h3, rfl⟩ := hp; exact (h.below h3).set z


set_option maxRecDepth 4000 in
set_option maxHeartbeats 2000000 in
theorem firstNum_some (f : Nat) (v : Value) (ns : List Nd) (w : World) (hp : Pre w f v ns) (hg : Tied w) (n : Int) (hn : firstOf 39 ns = some (.int .i64 n)) :
    Calls Tryd.prog 30 #[v] w fun e w' => e = .returned (.tuple #[.int .i64 n, .bool true]) ∧ Below w.heap.size w w' := by
  have hmf : ∀ (fn : Fn) (first cap : Array Value) (w : World), (Instr.makeFunc fn first cap).run Tryd.prog w = .ok (.func fn first cap) w := fun _ _ _ _ => rfl
  have HT : Hid (Two w ((w.alloc (.cells #[.int .i64 0] 39)).alloc (.cells #[.bool false] 4)) (.int .i64 0) (.bool false)) := two_new w _ _ _ _
  have HX := A1.as_any f v ns _ (hp.below HT.out.1) ⟨w.heap.size, 0, none⟩ _ HT.out.2.1 HT.out.2.2.1 (hg.below HT.out.1)
  rw [hn] at HX
  have HY : Hid (Calls Tryd.prog 25 _ _ _) := HX
  clear HX hp hg hn
  go_enter_defers Tryd.func30, Tryd.ntmps30
  go_wp2_with fail
  go_at_call 25
  refine HY.out.mono ?_
  rintro e w1 ⟨rfl, hw⟩
  have H1 : Hid (Two w w1 (.int .i64 n) (.bool false)) := HT.out.as hw
  have H2 : Hid (Two w (((w1.setCell ⟨w.heap.size + 1, 0, none⟩ (.bool true)).setCell ⟨w.heap.size, 0, none⟩ (.int .i64 n)).setCell ⟨w.heap.size + 1, 0, none⟩ (.bool true)).drew (.int .i64 n) (.bool true)) := (((H1.out.set2 _).set _).set2 _).drew
  clear hw HY HT
  obtain ⟨h1, h2, h3, h4, h5⟩ := H1.out
  clear h1
  go_wp2
  go_region
  go_wp2
  refine leaves_cons (f := 40) (args := #[.pointer (some ⟨w.heap.size + 1, 0, none⟩), .pointer (some ⟨w.heap.size, 0, none⟩)]) (by simp) (by simp [go_sem]) ?_
  refine (catch_num_yes _ _ _ H2.out.2.2.2.1).mono ?_
  rintro e u' w2 ⟨rfl, rfl, hw2⟩
  have H3 := H2.out
  rw [← hw2] at H3
  clear hw2 h2 h3 h4 h5
  obtain ⟨h1, h2, h3, h4, h5⟩ := H3
  simp [Leaves, settle, results, Tryd.results30, go_sem, h2, h4, h1]
set_option maxRecDepth 4000 in
set_option maxHeartbeats 2000000 in
theorem firstNum_none (f : Nat) (v : Value) (ns : List Nd) (w : World) (hp : Pre w f v ns) (hg : Tied w) (hn : firstOf 39 ns = none) :
    Calls Tryd.prog 30 #[v] w fun e w' => e = .returned (.tuple #[.int .i64 0, .bool false]) ∧ Below w.heap.size w w' := by
  have hmf : ∀ (fn : Fn) (first cap : Array Value) (w : World), (Instr.makeFunc fn first cap).run Tryd.prog w = .ok (.func fn first cap) w := fun _ _ _ _ => rfl
  have HT : Hid (Two w ((w.alloc (.cells #[.int .i64 0] 39)).alloc (.cells #[.bool false] 4)) (.int .i64 0) (.bool false)) := two_new w _ _ _ _
  have HX := A1.as_any f v ns _ (hp.below HT.out.1) ⟨w.heap.size, 0, none⟩ _ HT.out.2.1 HT.out.2.2.1 (hg.below HT.out.1)
  rw [hn] at HX
  have HY : Hid (Calls Tryd.prog 25 _ _ _) := HX
  clear HX hp hg hn
  go_enter_defers Tryd.func30, Tryd.ntmps30
  go_wp2_with fail
  go_at_call 25
  refine HY.out.mono ?_
  rintro e w1 ⟨rfl, hw⟩
  have H1 : Hid (Two w w1 (.int .i64 0) (.bool false)) := HT.out.as hw
  have H2 : Hid (Two w (((w1.setCell ⟨w.heap.size + 1, 0, none⟩ (.bool false)).setCell ⟨w.heap.size, 0, none⟩ (.int .i64 0)).setCell ⟨w.heap.size + 1, 0, none⟩ (.bool false)).drew (.int .i64 0) (.bool false)) := (((H1.out.set2 _).set _).set2 _).drew
  clear hw HY HT
  obtain ⟨h1, h2, h3, h4, h5⟩ := H1.out
  clear h1
  go_wp2
  go_region
  go_wp2
  refine leaves_cons (f := 40) (args := #[.pointer (some ⟨w.heap.size + 1, 0, none⟩), .pointer (some ⟨w.heap.size, 0, none⟩)]) (by simp) (by simp [go_sem]) ?_
  refine (catch_num_no _ _ _ _ H2.out.2.2.2.1 H2.out.2.1 H2.out.2.2.2.2 H2.out.2.2.1 (by omega) (by omega)).mono ?_
  rintro e u' w2 ⟨rfl, rfl, hw2⟩
  have H3 := (H2.out.set (.int .i64 0)).set2 (.bool false)
  rw [← hw2] at H3
  clear hw2 h2 h3 h4 h5
  obtain ⟨h1, h2, h3, h4, h5⟩ := H3
  simp [Leaves, settle, results, Tryd.results30, go_sem, h2, h4, h1]
set_option maxRecDepth 4000 in
set_option maxHeartbeats 2000000 in
theorem firstFault_some (f : Nat) (v : Value) (ns : List Nd) (w : World) (hp : Pre w f v ns) (hg : Tied w) (b : Nat) (hn : firstOf 54 ns = some (.pointer (some ⟨b, 0, none⟩))) :
    Calls Tryd.prog 39 #[v] w fun e w' => e = .returned (.tuple #[.pointer (some ⟨b, 0, none⟩), .bool true]) ∧ Below w.heap.size w w' := by
  have hmf : ∀ (fn : Fn) (first cap : Array Value) (w : World), (Instr.makeFunc fn first cap).run Tryd.prog w = .ok (.func fn first cap) w := fun _ _ _ _ => rfl
  have HT : Hid (Two w ((w.alloc (.cells #[.pointer none] 54)).alloc (.cells #[.bool false] 4)) (.pointer none) (.bool false)) := two_new w _ _ _ _
  have HX := A0.as_any f v ns _ (hp.below HT.out.1) ⟨w.heap.size, 0, none⟩ _ HT.out.2.1 HT.out.2.2.1 (hg.below HT.out.1)
  rw [hn] at HX
  have HY : Hid (Calls Tryd.prog 25 _ _ _) := HX
  clear HX hp hg hn
  go_enter_defers Tryd.func39, Tryd.ntmps39
  go_wp2_with fail
  go_at_call 25
  refine HY.out.mono ?_
  rintro e w1 ⟨rfl, hw⟩
  have H1 : Hid (Two w w1 (.pointer (some ⟨b, 0, none⟩)) (.bool false)) := HT.out.as hw
  have H2 : Hid (Two w (((w1.setCell ⟨w.heap.size + 1, 0, none⟩ (.bool true)).setCell ⟨w.heap.size, 0, none⟩ (.pointer (some ⟨b, 0, none⟩))).setCell ⟨w.heap.size + 1, 0, none⟩ (.bool true)).drew (.pointer (some ⟨b, 0, none⟩)) (.bool true)) := (((H1.out.set2 _).set _).set2 _).drew
  clear hw HY HT
  obtain ⟨h1, h2, h3, h4, h5⟩ := H1.out
  clear h1
  go_wp2
  go_region
  go_wp2
  refine leaves_cons (f := 46) (args := #[.pointer (some ⟨w.heap.size + 1, 0, none⟩), .pointer (some ⟨w.heap.size, 0, none⟩)]) (by simp) (by simp [go_sem]) ?_
  refine (catch_fault_yes _ _ _ H2.out.2.2.2.1).mono ?_
  rintro e u' w2 ⟨rfl, rfl, hw2⟩
  have H3 := H2.out
  rw [← hw2] at H3
  clear hw2 h2 h3 h4 h5
  obtain ⟨h1, h2, h3, h4, h5⟩ := H3
  simp [Leaves, settle, results, Tryd.results39, go_sem, h2, h4, h1]
set_option maxRecDepth 4000 in
set_option maxHeartbeats 2000000 in
theorem firstFault_none (f : Nat) (v : Value) (ns : List Nd) (w : World) (hp : Pre w f v ns) (hg : Tied w) (hn : firstOf 54 ns = none) :
    Calls Tryd.prog 39 #[v] w fun e w' => e = .returned (.tuple #[.pointer none, .bool false]) ∧ Below w.heap.size w w' := by
  have hmf : ∀ (fn : Fn) (first cap : Array Value) (w : World), (Instr.makeFunc fn first cap).run Tryd.prog w = .ok (.func fn first cap) w := fun _ _ _ _ => rfl
  have HT : Hid (Two w ((w.alloc (.cells #[.pointer none] 54)).alloc (.cells #[.bool false] 4)) (.pointer none) (.bool false)) := two_new w _ _ _ _
  have HX := A0.as_any f v ns _ (hp.below HT.out.1) ⟨w.heap.size, 0, none⟩ _ HT.out.2.1 HT.out.2.2.1 (hg.below HT.out.1)
  rw [hn] at HX
  have HY : Hid (Calls Tryd.prog 25 _ _ _) := HX
  clear HX hp hg hn
  go_enter_defers Tryd.func39, Tryd.ntmps39
  go_wp2_with fail
  go_at_call 25
  refine HY.out.mono ?_
  rintro e w1 ⟨rfl, hw⟩
  have H1 : Hid (Two w w1 (.pointer none) (.bool false)) := HT.out.as hw
  have H2 : Hid (Two w (((w1.setCell ⟨w.heap.size + 1, 0, none⟩ (.bool false)).setCell ⟨w.heap.size, 0, none⟩ (.pointer none)).setCell ⟨w.heap.size + 1, 0, none⟩ (.bool false)).drew (.pointer none) (.bool false)) := (((H1.out.set2 _).set _).set2 _).drew
  clear hw HY HT
  obtain ⟨h1, h2, h3, h4, h5⟩ := H1.out
  clear h1
  go_wp2
  go_region
  go_wp2
  refine leaves_cons (f := 46) (args := #[.pointer (some ⟨w.heap.size + 1, 0, none⟩), .pointer (some ⟨w.heap.size, 0, none⟩)]) (by simp) (by simp [go_sem]) ?_
  refine (catch_fault_no _ _ _ _ H2.out.2.2.2.1 H2.out.2.1 H2.out.2.2.2.2 H2.out.2.2.1 (by omega) (by omega)).mono ?_
  rintro e u' w2 ⟨rfl, rfl, hw2⟩
  have H3 := (H2.out.set (.pointer none)).set2 (.bool false)
  rw [← hw2] at H3
  clear hw2 h2 h3 h4 h5
  obtain ⟨h1, h2, h3, h4, h5⟩ := H3
  simp [Leaves, settle, results, Tryd.results39, go_sem, h2, h4, h1]
end Go.Proofs.YtlandjnhhcnbeaaDoor
