/- fault.Both, fault.Is, fault.Op, fault.Inner: what one call answers. -/
import Derived.Test.YtlandjnhhcnbeaaDoorAwake
import Derived.Test.YtlandjnhhcnbeaaDoorCatch2
namespace Go.Proofs.YtlandjnhhcnbeaaDoor
open Go.RowKit Kit
set_option linter.unusedVariables false

theorem both_left (b : Value) (w : World) : Calls Tryd.prog 23 #[.nilIface, b] w fun e w' => e = .returned b ∧ w' = w := by
  go_enter Tryd.func23, Tryd.ntmps23
  go_wp2
  go_ret
  exact ⟨rfl, rfl⟩
theorem both_right (u : TypeId) (x : Value) (w : World) : Calls Tryd.prog 23 #[.iface u x, .nilIface] w fun e w' => e = .returned (.iface u x) ∧ w' = w := by
  go_enter Tryd.func23, Tryd.ntmps23
  go_wp2
  go_ret
  exact ⟨rfl, rfl⟩
theorem both_some (u t : TypeId) (x y : Value) (w : World) : Calls Tryd.prog 23 #[.iface u x, .iface t y] w fun e w' => e = .returned (.iface 72 (.pointer (some ⟨w.heap.size, 0, none⟩))) ∧ w' = w.alloc (.cells #[.iface u x, .iface t y] 74) := by
  go_enter Tryd.func23, Tryd.ntmps23
  go_wp2
  go_ret
  exact ⟨rfl, rfl⟩
/-- Both of two that are something. -/
theorem both_any (f : Nat) (a b : Value) (m1 m2 : List Nd) (w : World) (ha : a ≠ .nilIface) (hb : b ≠ .nilIface) (h1 : Pre w f a m1) (h2 : Pre w f b m2) :
    Calls Tryd.prog 23 #[a, b] w fun e w' => ∃ p, e = .returned (.iface 72 (.pointer (some ⟨p, 0, none⟩))) ∧ Pre w' (f + 1) (.iface 72 (.pointer (some ⟨p, 0, none⟩))) ((72, .pointer (some ⟨p, 0, none⟩), []) :: (m1 ++ m2)) ∧ Below w.heap.size w w' := by
  obtain ⟨u, x, rfl⟩ := (Pre.form h1).resolve_left ha
  obtain ⟨t, y, rfl⟩ := (Pre.form h2).resolve_left hb
  refine (both_some u t x y w).mono ?_
  rintro e w' ⟨rfl, rfl⟩
  have hB : Below w.heap.size w (w.alloc (.cells #[.iface u x, .iface t y] 74)) := (Below.refl _ _).alloc (Nat.le_refl _) _
  exact ⟨w.heap.size, rfl, pre_pair (by simp) (by simp) (by simp) (by simp) (h1.below hB) (h2.below hB), hB⟩

/-- One variable of the call's own. -/
def One (w w' : World) (x : Value) : Prop := Below w.heap.size w w' ∧ w'.cell? ⟨w.heap.size, 0, none⟩ = some x ∧ w'.frozen? ⟨w.heap.size, 0, none⟩ = false
theorem one_new (w : World) (x : Value) (t : TypeId) : One w (w.alloc (.cells #[x] t)) x := ⟨(Below.refl _ _).alloc (Nat.le_refl _) _, by simp, by simp⟩
theorem One.below {w w1 w2 : World} {x : Value} (h : One w w1 x) (hb : Below w1.heap.size w1 w2) : One w w2 x := ⟨bel2e h.1 hb, cell_old hb h.2.1, frozen_old hb h.2.1 h.2.2⟩
theorem One.set {w w1 : World} {x : Value} (h : One w w1 x) (z : Value) : One w (w1.setCell ⟨w.heap.size, 0, none⟩ z) z := by
  obtain ⟨h1, h2, h3⟩ := h
  exact ⟨h1.setCell (by exact Nat.le_refl _) _, World.cell?_setCell_same _ _ _ h2, by rw [World.frozen?_setCell]; exact h3⟩

set_option maxRecDepth 4000 in
set_option maxHeartbeats 1000000 in
theorem holds_any (n : Int) (f : Nat) (v : Value) (ns : List Nd) (w : World) (hp : Pre w f v ns) :
    Calls Tryd.prog 31 #[v, .int .i64 n] w fun e w' => e = .returned (.bool (hit n ns)) ∧ Below w.heap.size w w' := by
  have hmf : ∀ (fn : Fn) (first cap : Array Value) (w : World), (Instr.makeFunc fn first cap).run Tryd.prog w = .ok (.func fn first cap) w := fun _ _ _ _ => rfl
  have HT : Hid (One w (w.alloc (.cells #[.bool false] 4)) (.bool false)) := one_new w _ _
  have HY : Hid (Calls Tryd.prog 24 _ _ _) := is_any n f v ns _ (hp.below HT.out.1)
  clear hp
  go_enter_defers Tryd.func31, Tryd.ntmps31
  go_wp2_with fail
  go_at_call 24
  refine HY.out.mono ?_
  rintro e w1 ⟨rfl, hw⟩
  have H1 : Hid (One w w1 (.bool false)) := HT.out.below hw
  have H2 : Hid (One w (w1.setCell ⟨w.heap.size, 0, none⟩ (.bool (hit n ns))) (.bool (hit n ns))) := H1.out.set _
  clear hw HY HT
  obtain ⟨h1, h2, h3⟩ := H1.out
  clear h1
  go_wp2
  refine leaves_cons (f := 41) (args := #[.pointer (some ⟨w.heap.size, 0, none⟩)]) (by simp) (by simp [go_sem]) ?_
  refine (catch_holds _ _).mono ?_
  rintro e u' w2 ⟨rfl, rfl, hw2⟩
  have H3 := H2.out
  rw [← hw2] at H3
  clear hw2 h2 h3
  obtain ⟨h1, h2, h3⟩ := H3
  simp [Leaves, settle, results, Tryd.results31, go_sem, h2, h1]

set_option maxRecDepth 4000 in
set_option maxHeartbeats 2000000 in
/-- fault.Is of an error and numbers. -/
theorem fis_any (f : Nat) (v x : Value) (ns : List Nd) (cs : List Int) (w : World) (hp : Pre w f v ns) (hx : Sees w x (cs.map (Value.int .i64))) :
    Calls Tryd.prog 19 #[v, x] w fun e w' => e = .returned (.bool (cs.any fun c => hit c ns)) ∧ Below w.heap.size w w' := by
  obtain ⟨ao, cap, rfl, h1, h2, h3, h4⟩ := hx
  simp only [List.length_map] at *
  have hm : (cs.length : Int) ≤ 9223372036854775807 := by unfold maxLen at h2; omega
  have H4 : Hid (_ → _) := h4
  have HP : Hid (Pre w f v ns) := hp
  clear h1 h2 h3 h4 hp
  go_enter Tryd.func19, Tryd.ntmps19
  go_wp2
  go_loopw [9] (fun i wr => ∃ k : Nat, k ≤ cs.length ∧ i = .int .i64 (k : Int) ∧ Hid (∀ j, j < k → hit (cs.getD j 0) ns = false) ∧ Hid (Below w.heap.size w wr)) (fun i _ => cs.length - (intOf i).toNat)
  case atStart => exact ⟨0, Nat.zero_le _, rfl, fun j hj => absurd hj (Nat.not_lt_zero _), Below.refl _ _⟩
  case round =>
    obtain ⟨k, hk, rfl, HE, HB⟩ := hrel
    by_cases hlt : k < cs.length
    · obtain ⟨b, off, rfl, hbl, hc⟩ := H4.out (by omega)
      have c0 := (HB.out.cell (by exact hbl)).trans (hc k (.int .i64 (cs.getD k 0)) (by simp [hlt, List.getD]))
      have i0 : (k : Int) < (cs.length : Int) := by omega
      have i2 : (0 : Int) ≤ (k : Int) := by omega
      obtain ⟨c, hcc⟩ : ∃ c, cs.getD k 0 = c := ⟨_, rfl⟩
      rw [hcc] at c0
      have HC : Hid (cs.getD k 0 = c) := hcc
      have HX : Hid (Calls Tryd.prog 31 _ _ _) := holds_any c f v ns wr (HP.out.below HB.out)
      clear hc hbl hcc
      go_wp2_with fail
      go_at_call 31
      refine HX.out.mono ?_
      rintro e w1 ⟨rfl, hw⟩
      have HB1 : Hid (Below w.heap.size w w1) := bel2e HB.out hw
      clear hw HX HB c0
      rcases hh : hit c ns with _ | _
      · have HE2 : Hid (∀ j, j < k + 1 → hit (cs.getD j 0) ns = false) := fun j hj => by
          by_cases hj2 : j = k
          · subst hj2; rw [HC.out]; exact hh
          · exact HE.out j (by omega)
        clear hh HE HC
        go_wp2
        go_roundw
        case rel => exact ⟨k + 1, by omega, by simp, HE2.out, HB1.out⟩
        case measure => simp [intOf]; omega
      · have HR : Hid ((cs.any fun c => hit c ns) = true) := by
          refine List.any_eq_true.2 ⟨c, ?_, hh⟩
          rw [← HC.out]
          simp [List.getD, hlt]
        clear hh HE HC
        go_wp2
        go_ret
        exact ⟨ret_bool HR, HB1.out⟩
    · have hkl : k = cs.length := by omega
      subst hkl
      have HR : Hid ((cs.any fun c => hit c ns) = false) := by
        refine List.any_eq_false.2 ?_
        intro c hc
        obtain ⟨j, hj, rfl⟩ := List.mem_iff_getElem.1 hc
        have := HE.out j hj
        simpa [List.getD, hj] using this
      clear HE
      go_wp2
      go_ret
      exact ⟨ret_bool HR, HB.out⟩

set_option maxRecDepth 4000 in
set_option maxHeartbeats 1000000 in
theorem op_none (f : Nat) (v : Value) (ns : List Nd) (w : World) (hp : Pre w f v ns) (hg : Tied w) (hn : firstOf 54 ns = none) :
    Calls Tryd.prog 17 #[v] w fun e w' => e = .returned (.tuple #[.string ⟨#[]⟩, .string ⟨#[]⟩, .bool false]) ∧ Below w.heap.size w w' := by
  have HX : Hid (Calls Tryd.prog 29 _ _ _) := outermost_none f v ns w hp hg hn
  clear hp hg hn
  go_enter Tryd.func17, Tryd.ntmps17
  go_wp2_with fail
  go_at_call 29
  refine HX.out.mono ?_
  rintro e w1 ⟨rfl, hw⟩
  have HW : Hid (Below w.heap.size w w1) := hw
  clear hw HX
  go_wp2
  go_region
  go_wp2
  go_ret3
  exact ⟨rfl, (HW.out.alloc HW.out.size _).drew⟩
set_option maxRecDepth 4000 in
set_option maxHeartbeats 1000000 in
theorem op_some (f : Nat) (v : Value) (ns : List Nd) (w : World) (hp : Pre w f v ns) (hg : Tied w) (op path : ByteArray) (l : List (ByteArray × ByteArray)) (hn : chainOf ns = (op, path) :: l) :
    Calls Tryd.prog 17 #[v] w fun e w' => e = .returned (.tuple #[.string op, .string path, .bool true]) ∧ Below w.heap.size w w' := by
  rcases hh : firstOf 54 ns with _ | y
  · rw [chainOf_none ns hh] at hn; cases hn
  obtain ⟨b, op', path', e, ms, k, rfl, c0, c1, c2, _, he, h7, _, h9⟩ := Pre.fault hp hh
  rw [h9] at hn
  cases hn
  obtain ⟨u, x, rfl⟩ := (Pre.form h7).resolve_left he
  have HX : Hid (Calls Tryd.prog 29 _ _ _) := outermost_some f v ns w hp hg b op path u x hh c0 c1 c2
  clear hp hg hh c0 c1 c2 he h7 h9
  go_enter Tryd.func17, Tryd.ntmps17
  go_wp2_with fail
  go_at_call 29
  refine HX.out.mono ?_
  rintro e w1 ⟨rfl, hw⟩
  have HW : Hid (Below w.heap.size w w1) := hw
  clear hw HX
  go_wp2
  go_region
  go_wp2
  go_ret3
  exact ⟨rfl, (HW.out.alloc HW.out.size _).drew⟩
end Go.Proofs.YtlandjnhhcnbeaaDoor
