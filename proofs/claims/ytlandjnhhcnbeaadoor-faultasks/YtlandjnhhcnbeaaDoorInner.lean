/- errors.Unwrap, fault.Inner: what one call answers. -/
import Derived.Test.YtlandjnhhcnbeaaDoorFns2
namespace Go.Proofs.YtlandjnhhcnbeaaDoor
open Go.RowKit Kit
set_option linter.unusedVariables false

theorem nil_lacks (w : World) : (Instr.typeAssert .nilIface 29 98 true).run Tryd.prog w = .ok (.tuple #[.nilIface, .bool false]) w := by kernel_rfl
set_option maxHeartbeats 1000000 in
theorem eunwrap_nil (w : World) : Calls Tryd.prog 43 #[.nilIface] w fun e w' => e = .returned .nilIface ∧ w' = w := by
  have q := nil_lacks
  go_enter Tryd.func43, Tryd.ntmps43
  go_wp2
  go_ret
  exact ⟨rfl, rfl⟩
set_option maxHeartbeats 1000000 in
theorem eunwrap_num (x : Value) (w : World) : Calls Tryd.prog 43 #[.iface 39 x] w fun e w' => e = .returned .nilIface ∧ w' = w := by
  have q := lacks98_39
  go_enter Tryd.func43, Tryd.ntmps43
  go_wp2
  go_ret
  exact ⟨rfl, rfl⟩
set_option maxHeartbeats 1000000 in
theorem eunwrap_plain (x : Value) (w : World) : Calls Tryd.prog 43 #[.iface 47 x] w fun e w' => e = .returned .nilIface ∧ w' = w := by
  have q := lacks98_47
  go_enter Tryd.func43, Tryd.ntmps43
  go_wp2
  go_ret
  exact ⟨rfl, rfl⟩
set_option maxHeartbeats 1000000 in
theorem eunwrap_pair (x : Value) (w : World) : Calls Tryd.prog 43 #[.iface 72 x] w fun e w' => e = .returned .nilIface ∧ w' = w := by
  have q := lacks98_72
  go_enter Tryd.func43, Tryd.ntmps43
  go_wp2
  go_ret
  exact ⟨rfl, rfl⟩
set_option maxHeartbeats 1000000 in
theorem eunwrap_fault (b : Nat) (e : Value) (w : World) (h : w.cell? ⟨b, 2, none⟩ = some e) : Calls Tryd.prog 43 #[.iface 54 (.pointer (some ⟨b, 0, none⟩))] w fun r w' => r = .returned e ∧ w' = w := by
  have q := has98_54
  have q2 := meth_fault
  have HX : Hid (Calls Tryd.prog 67 _ _ _) := unwrap_any b e w h
  clear h
  go_enter Tryd.func43, Tryd.ntmps43
  go_wp2_with fail
  go_at_call 67
  refine HX.out.mono ?_
  rintro r w' ⟨rfl, hw⟩
  have hw := hw.symm
  subst hw
  clear HX
  go_wp2
  go_ret
  exact ⟨rfl, rfl⟩
/-- What one Unwrap leads to. -/
def Next (w : World) (f : Nat) (ns : List Nd) (r : Value) : Prop :=
  (r = .nilIface ∧ innerOf ns = ns) ∨ (r ≠ .nilIface ∧ ∃ ms k, Pre w k r ms ∧ k < f ∧ innerOf ns = innerOf ms)
theorem eunwrap_any {w : World} : ∀ (f : Nat) (v : Value) (ns : List Nd), Pre w f v ns → ∀ w1, Below w.heap.size w w1 → Calls Tryd.prog 43 #[v] w1 fun e w' => ∃ r, e = .returned r ∧ Next w f ns r ∧ w' = w1
  | 0, v, ns, h, w1, hb => by
    obtain ⟨rfl, rfl⟩ := h
    refine (eunwrap_nil w1).mono ?_
    rintro e w' ⟨rfl, hw⟩
    exact ⟨_, rfl, .inl ⟨rfl, rfl⟩, hw⟩
  | f + 1, v, ns, h, w1, hb => by
    rcases h with h | ⟨m, h, hm⟩ | ⟨b, s, h, h2, hm⟩ | ⟨b, op, path, e, ms', h, h2, h3, h4, h9, h5, h6, hm⟩ | ⟨b, x1, x2, m1, m2, h, h3, h4, h5, h6, h7, h8, hm⟩
    · obtain ⟨rfl, rfl⟩ := h
      refine (eunwrap_nil w1).mono ?_
      rintro e w' ⟨rfl, hw⟩
      exact ⟨_, rfl, .inl ⟨rfl, rfl⟩, hw⟩
    · subst h hm
      refine (eunwrap_num _ w1).mono ?_
      rintro e w' ⟨rfl, hw⟩
      exact ⟨_, rfl, .inl ⟨rfl, innerOf_skip _ _ _ rfl⟩, hw⟩
    · subst h hm
      refine (eunwrap_plain _ w1).mono ?_
      rintro e w' ⟨rfl, hw⟩
      exact ⟨_, rfl, .inl ⟨rfl, innerOf_skip _ _ _ rfl⟩, hw⟩
    · subst h hm
      refine (eunwrap_fault b e w1 (cell_old hb h4)).mono ?_
      rintro r w' ⟨rfl, hw⟩
      exact ⟨_, rfl, .inr ⟨h5, ms', f, h6, Nat.lt_succ_self _, innerOf_fault _ _⟩, hw⟩
    · subst h hm
      refine (eunwrap_pair _ w1).mono ?_
      rintro e w' ⟨rfl, hw⟩
      exact ⟨_, rfl, .inl ⟨rfl, innerOf_skip _ _ _ rfl⟩, hw⟩

set_option maxRecDepth 4000 in
set_option maxHeartbeats 1000000 in
theorem unwrapped_any {w0 : World} (f : Nat) (v : Value) (ns : List Nd) (w : World) (hp : Pre w0 f v ns) (hb : Below w0.heap.size w0 w) :
    Calls Tryd.prog 32 #[v] w fun e w' => ∃ r, e = .returned r ∧ Next w0 f ns r ∧ Below w.heap.size w w' := by
  have hmf : ∀ (fn : Fn) (first cap : Array Value) (w : World), (Instr.makeFunc fn first cap).run Tryd.prog w = .ok (.func fn first cap) w := fun _ _ _ _ => rfl
  have HT : Hid (One w (w.alloc (.cells #[.nilIface] 29)) .nilIface) := one_new w _ _
  have HY : Hid (Calls Tryd.prog 43 _ _ _) := eunwrap_any f v ns hp (w.alloc (.cells #[.nilIface] 29)) (bel2e hb HT.out.1)
  clear hp hb
  go_enter_defers Tryd.func32, Tryd.ntmps32
  go_wp2_with fail
  go_at_call 43
  refine HY.out.mono ?_
  rintro e w1 ⟨r, rfl, hn, hw⟩
  have H1 : Hid (One w w1 .nilIface) := by rw [hw]; exact HT.out
  have HN : Hid (Next w0 f ns r) := hn
  have hr : r = .nilIface ∨ ∃ u x, r = .iface u x := by
    rcases hn with ⟨h, _⟩ | ⟨h, ms, k, h2, _⟩
    · exact .inl h
    · exact Pre.form h2
  clear HY hn hw HT
  rcases hr with hr | ⟨u, x, hr⟩
  · subst hr
    have H2 : Hid (One w (w1.setCell ⟨w.heap.size, 0, none⟩ (.nilIface)) (.nilIface)) := H1.out.set _
    obtain ⟨h1, h2, h3⟩ := H1.out
    clear h1
    go_wp2
    refine leaves_cons (f := 42) (args := #[.pointer (some ⟨w.heap.size, 0, none⟩)]) (by simp) (by simp [go_sem]) ?_
    refine (catch_unwrapped _ _).mono ?_
    rintro e u' w2 ⟨rfl, rfl, hw2⟩
    have H3 := H2.out
    rw [← hw2] at H3
    clear hw2 h2 h3
    obtain ⟨h1, h2, h3⟩ := H3
    simp [Leaves, settle, results, Tryd.results32, go_sem, h2, h1]
    exact HN.out
  · subst hr
    have H2 : Hid (One w (w1.setCell ⟨w.heap.size, 0, none⟩ (.iface u x)) (.iface u x)) := H1.out.set _
    obtain ⟨h1, h2, h3⟩ := H1.out
    clear h1
    go_wp2
    refine leaves_cons (f := 42) (args := #[.pointer (some ⟨w.heap.size, 0, none⟩)]) (by simp) (by simp [go_sem]) ?_
    refine (catch_unwrapped _ _).mono ?_
    rintro e u' w2 ⟨rfl, rfl, hw2⟩
    have H3 := H2.out
    rw [← hw2] at H3
    clear hw2 h2 h3
    obtain ⟨h1, h2, h3⟩ := H3
    simp [Leaves, settle, results, Tryd.results32, go_sem, h2, h1]
    exact HN.out

set_option maxRecDepth 4000 in
set_option maxHeartbeats 2000000 in
/-- fault.Inner: behind all Faults. -/
theorem inner_any (f : Nat) (v : Value) (ns : List Nd) (w : World) (hp : Pre w f v ns) :
    Calls Tryd.prog 20 #[v] w fun e w' => ∃ r k, e = .returned r ∧ Pre w' k r (innerOf ns) ∧ Below w.heap.size w w' := by
  have H0 : Hid (Pre w f v ns) := hp
  clear hp
  go_enter Tryd.func20, Tryd.ntmps20
  go_wp2
  go_loopg [0] f (fun k e wr => ∃ ms, Aside (Pre w k e ms ∧ innerOf ns = innerOf ms ∧ Below w.heap.size w wr))
  case atStart => exact ⟨ns, H0.out, rfl, Below.refl _ _⟩
  case round =>
    obtain ⟨ms, hA⟩ := hrel
    have HA : Hid (Pre w gk u0 ms ∧ innerOf ns = innerOf ms ∧ Below w.heap.size w wr) := hA.out
    clear hA H0
    have HX : Hid (Calls Tryd.prog 32 _ _ _) := unwrapped_any gk u0 ms wr HA.out.1 HA.out.2.2
    go_wp2_with fail
    go_at_call 32
    refine HX.out.mono ?_
    rintro e w1 ⟨r, rfl, hn, hw⟩
    have HB : Hid (Below w.heap.size w w1) := bel2e HA.out.2.2 hw
    clear hw HX
    rcases hn with ⟨h1, h2⟩ | ⟨h1, ms2, k2, h2, h3, h4⟩
    · subst h1
      have HR : Hid (Pre w1 gk u0 (innerOf ns)) := by
        show Pre _ _ _ _
        rw [HA.out.2.1, h2]
        exact HA.out.1.below HB.out
      clear h2 HA
      go_wp2
      go_ret
      exact ⟨_, _, rfl, HR.out, HB.out⟩
    · obtain ⟨u, x, hx⟩ := (Pre.form h2).resolve_left h1
      subst hx
      have HR : Hid (Pre w k2 (.iface u x) ms2 ∧ innerOf ns = innerOf ms2 ∧ Below w.heap.size w w1) := ⟨h2, HA.out.2.1.trans h4, HB.out⟩
      clear h1 h2 h4 HA HB
      go_wp2
      go_roundg k2
      case measure => omega
      case rel => exact ⟨ms2, HR.out⟩
end Go.Proofs.YtlandjnhhcnbeaaDoor
