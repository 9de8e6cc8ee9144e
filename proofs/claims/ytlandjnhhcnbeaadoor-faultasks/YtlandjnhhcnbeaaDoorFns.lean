/- fault.New, fault.Code, fault.outermost: what one call answers. -/
import Derived.Test.YtlandjnhhcnbeaaDoorGot
namespace Go.Proofs.YtlandjnhhcnbeaaDoor
open Go.RowKit
set_option linter.unusedVariables false

theorem new_nil (op path : ByteArray) (w : World) : Calls Tryd.prog 22 #[.string op, .string path, .nilIface] w fun e w' => e = .returned .nilIface ∧ w' = w := by
  go_enter Tryd.func22, Tryd.ntmps22
  go_wp2
  go_ret
  exact ⟨rfl, rfl⟩
theorem new_some (op path : ByteArray) (u : TypeId) (x : Value) (w : World) : Calls Tryd.prog 22 #[.string op, .string path, .iface u x] w fun e w' => e = .returned (.iface 54 (.pointer (some ⟨w.heap.size, 0, none⟩))) ∧ w' = w.alloc (.cells #[.string op, .string path, .iface u x] 66) := by
  go_enter Tryd.func22, Tryd.ntmps22
  go_wp2
  go_ret
  exact ⟨rfl, rfl⟩
/-- New of what is something. -/
theorem new_any (op path : ByteArray) (f : Nat) (v : Value) (ns : List Nd) (w : World) (hv : v ≠ .nilIface) (hp : Pre w f v ns) (ho : op.size ≤ 1000) (ha : path.size ≤ 1000) :
    Calls Tryd.prog 22 #[.string op, .string path, v] w fun e w' => ∃ b, e = .returned (.iface 54 (.pointer (some ⟨b, 0, none⟩))) ∧ Pre w' (f + 1) (.iface 54 (.pointer (some ⟨b, 0, none⟩))) ((54, .pointer (some ⟨b, 0, none⟩), (op, path) :: chainOf ns) :: ns) ∧ Below w.heap.size w w' := by
  obtain ⟨u, x, rfl⟩ := (Pre.form hp).resolve_left hv
  refine (new_some op path u x w).mono ?_
  rintro e w' ⟨rfl, rfl⟩
  have hb : Below w.heap.size w (w.alloc (.cells #[.string op, .string path, .iface u x] 66)) := (Below.refl _ _).alloc (Nat.le_refl _) _
  refine ⟨w.heap.size, rfl, ?_, hb⟩
  exact pre_fault (by simp) (by simp) (by simp) ho ha (by simp) (hp.below hb)

set_option maxRecDepth 4000 in
set_option maxHeartbeats 1000000 in
theorem code_any (f : Nat) (v : Value) (ns : List Nd) (w : World) (hp : Pre w f v ns) (hg : Tied w) :
    Calls Tryd.prog 18 #[v] w fun e w' => e = .returned (.int .i64 ((nums ns).headD 0)) ∧ Below w.heap.size w w' := by
  rcases Pre.number hp with ⟨h1, h2⟩ | ⟨n, l, h1, h2⟩
  · have HX : Hid (Calls Tryd.prog 30 _ _ _) := firstNum_none f v ns w hp hg h1
    rw [h2]
    clear hp hg h1 h2
    go_enter Tryd.func18, Tryd.ntmps18
    go_wp2_with fail
    go_at_call 30
    refine HX.out.mono ?_
    rintro e w1 ⟨rfl, hw⟩
    have HW : Hid (Below w.heap.size w w1) := hw
    clear hw HX
    go_wp2
    go_ret
    exact ⟨rfl, HW.out⟩
  · have HX : Hid (Calls Tryd.prog 30 _ _ _) := firstNum_some f v ns w hp hg n h1
    rw [h2]
    clear hp hg h1 h2
    go_enter Tryd.func18, Tryd.ntmps18
    go_wp2_with fail
    go_at_call 30
    refine HX.out.mono ?_
    rintro e w1 ⟨rfl, hw⟩
    have HW : Hid (Below w.heap.size w w1) := hw
    clear hw HX
    go_wp2
    go_ret
    exact ⟨rfl, HW.out⟩

/-- A Fault of the call's own. -/
def Three (w w' : World) : Prop := Below w.heap.size w w' ∧ (w'.cell? ⟨w.heap.size, 0, none⟩ = some (.string ⟨#[]⟩) ∧ w'.cell? ⟨w.heap.size, 1, none⟩ = some (.string ⟨#[]⟩) ∧ w'.cell? ⟨w.heap.size, 2, none⟩ = some .nilIface) ∧ w'.frozen? ⟨w.heap.size, 0, none⟩ = false ∧ w'.frozen? ⟨w.heap.size, 1, none⟩ = false ∧ w'.frozen? ⟨w.heap.size, 2, none⟩ = false
theorem three_new (w : World) (t : TypeId) : Three w (w.alloc (.cells #[.string ⟨#[]⟩, .string ⟨#[]⟩, .nilIface] t)) :=
  ⟨(Below.refl _ _).alloc (Nat.le_refl _) _, ⟨by simp, by simp, by simp⟩, by simp, by simp, by simp⟩
theorem Three.below {w w1 w2 : World} (h : Three w w1) (hb : Below w1.heap.size w1 w2) : Three w w2 := by
  obtain ⟨h0, ⟨h1, h2, h3⟩, h4, h5, h6⟩ := h
  exact ⟨bel2e h0 hb, ⟨cell_old hb h1, cell_old hb h2, cell_old hb h3⟩, frozen_old hb h1 h4, frozen_old hb h2 h5, frozen_old hb h3 h6⟩
theorem set3 {B : Nat} {w w1 : World} (h : Below B w w1) {b : Nat} (hb : B ≤ b) (v0 v1 v2 : Value) : Below B w (((w1.setCell ⟨b, 0, none⟩ v0).setCell ⟨b, 1, none⟩ v1).setCell ⟨b, 2, none⟩ v2) :=
  ((h.setCell (by exact hb) _).setCell (by exact hb) _).setCell (by exact hb) _

set_option maxRecDepth 4000 in
set_option maxHeartbeats 1000000 in
theorem outermost_none (f : Nat) (v : Value) (ns : List Nd) (w : World) (hp : Pre w f v ns) (hg : Tied w) (hn : firstOf 54 ns = none) :
    Calls Tryd.prog 29 #[v] w fun e w' => e = .returned (.tuple #[.agg #[.string ⟨#[]⟩, .string ⟨#[]⟩, .nilIface], .int .i64 0]) ∧ Below w.heap.size w w' := by
  have HT : Hid (Three w (w.alloc (.cells #[.string ⟨#[]⟩, .string ⟨#[]⟩, .nilIface] 66))) := three_new w _
  have HX : Hid (Calls Tryd.prog 39 _ _ _) := firstFault_none f v ns _ (hp.below HT.out.1) (hg.below HT.out.1) hn
  clear hp hg hn
  go_enter Tryd.func29, Tryd.ntmps29
  go_wp2_with fail
  go_at_call 39
  refine HX.out.mono ?_
  rintro e w1 ⟨rfl, hw⟩
  have H1 : Hid (Three w w1) := HT.out.below hw
  clear hw HX HT
  obtain ⟨h0, ⟨h1, h2, h3⟩, h4, h5, h6⟩ := H1.out
  clear h0
  go_wp2
  refine bodyPost_ret (v := .tuple #[.agg #[.string ⟨#[]⟩, .string ⟨#[]⟩, .nilIface], .int .i64 0]) (by simp [results, Tryd.results29, go_sem, *]) rfl ⟨rfl, ?_⟩
  exact set3 H1.out.1 (Nat.le_refl _) _ _ _
set_option maxRecDepth 4000 in
set_option maxHeartbeats 1000000 in
theorem outermost_some (f : Nat) (v : Value) (ns : List Nd) (w : World) (hp : Pre w f v ns) (hg : Tied w) (b : Nat) (op path : ByteArray) (u : TypeId) (x : Value) (hn : firstOf 54 ns = some (.pointer (some ⟨b, 0, none⟩))) (c0 : w.cell? ⟨b, 0, none⟩ = some (.string op)) (c1 : w.cell? ⟨b, 1, none⟩ = some (.string path)) (c2 : w.cell? ⟨b, 2, none⟩ = some (.iface u x)) :
    Calls Tryd.prog 29 #[v] w fun e w' => e = .returned (.tuple #[.agg #[.string op, .string path, .iface u x], .int .i64 2]) ∧ Below w.heap.size w w' := by
  have HT : Hid (Three w (w.alloc (.cells #[.string ⟨#[]⟩, .string ⟨#[]⟩, .nilIface] 66))) := three_new w _
  have HX : Hid (Calls Tryd.prog 39 _ _ _) := firstFault_some f v ns _ (hp.below HT.out.1) (hg.below HT.out.1) b hn
  have HC : Hid (w.cell? ⟨b, 0, none⟩ = some (.string op) ∧ w.cell? ⟨b, 1, none⟩ = some (.string path) ∧ w.cell? ⟨b, 2, none⟩ = some (.iface u x)) := ⟨c0, c1, c2⟩
  clear hp hg hn c0 c1 c2
  go_enter Tryd.func29, Tryd.ntmps29
  go_wp2_with fail
  go_at_call 39
  refine HX.out.mono ?_
  rintro e w1 ⟨rfl, hw⟩
  have H1 : Hid (Three w w1) := HT.out.below hw
  have c0 := cell_old (bel2e HT.out.1 hw) HC.out.1
  have c1 := cell_old (bel2e HT.out.1 hw) HC.out.2.1
  have c2 := cell_old (bel2e HT.out.1 hw) HC.out.2.2
  clear hw HX HT HC
  obtain ⟨h0, ⟨h1, h2, h3⟩, h4, h5, h6⟩ := H1.out
  clear h0
  go_wp2
  refine bodyPost_ret (v := .tuple #[.agg #[.string op, .string path, .iface u x], .int .i64 2]) (by simp [results, Tryd.results29, go_sem, *]) rfl ⟨rfl, ?_⟩
  exact set3 H1.out.1 (Nat.le_refl _) _ _ _
end Go.Proofs.YtlandjnhhcnbeaaDoor
