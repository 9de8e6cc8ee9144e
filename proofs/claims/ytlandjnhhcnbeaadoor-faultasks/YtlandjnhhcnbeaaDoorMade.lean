/- dolmenlaw3.made: what one call answers. -/
import Derived.Test.YtlandjnhhcnbeaaDoorNodes
import Derived.Deep.RegionHeld3
namespace Go.Proofs.YtlandjnhhcnbeaaDoor
open Go.RowKit Kit
set_option linter.unusedVariables false

/-- The error r has just these within it. -/
def Makes (w : World) (f : Nat) (r : Value) (l : List Sh) : Prop := ∃ ns, Pre w f r ns ∧ shapes ns = l
theorem Makes.below {w w' : World} {f : Nat} {r : Value} {l : List Sh} (h : Makes w f r l) (hb : Below w.heap.size w w') : Makes w' f r l := by
  obtain ⟨ns, h1, h2⟩ := h
  exact ⟨ns, h1.below hb, h2⟩
theorem Makes.nil {w : World} {f : Nat} {r : Value} {l : List Sh} (h : Makes w f r l) : (r = .nilIface ∧ l = []) ∨ (r ≠ .nilIface ∧ l ≠ []) := by
  obtain ⟨ns, h1, rfl⟩ := h
  by_cases hr : r = .nilIface
  · subst hr
    rw [Pre.nil h1]; exact .inl ⟨rfl, rfl⟩
  · refine .inr ⟨hr, fun e => hr ?_⟩
    have : ns = [] := by cases ns with
      | nil => rfl
      | cons a b => cases e
    subst this
    exact Pre.empty h1
theorem new_makes (op path : ByteArray) (f : Nat) (r : Value) (l : List Sh) (w : World) (h : Makes w f r l) (ho : op.size ≤ 1000) (ha : path.size ≤ 1000) :
    Calls Tryd.prog 22 #[.string op, .string path, r] w fun e w' => ∃ r', e = .returned r' ∧ Hid (Makes w' (f + 1) r' (faultS op path l)) ∧ Below w.heap.size w w' := by
  rcases h.nil with ⟨rfl, rfl⟩ | ⟨hr, hl⟩
  · refine (new_nil op path w).mono ?_
    rintro e w' ⟨rfl, rfl⟩
    exact ⟨_, rfl, ⟨[], .inl ⟨rfl, rfl⟩, rfl⟩, Below.refl _ _⟩
  · obtain ⟨ns, h1, rfl⟩ := h
    refine (new_any op path f r ns w hr h1 ho ha).mono ?_
    rintro e w' ⟨b, rfl, hp, hb⟩
    refine ⟨_, rfl, ⟨_, hp, ?_⟩, hb⟩
    unfold faultS
    rw [if_neg (by simpa using hl), chainS_shapes]; rfl
theorem both_makes (f : Nat) (r q : Value) (l m : List Sh) (w : World) (h : Makes w f r l) (g : Makes w f q m) :
    Calls Tryd.prog 23 #[r, q] w fun e w' => ∃ r', e = .returned r' ∧ Hid (Makes w' (f + 1) r' (bothS l m)) ∧ Below w.heap.size w w' := by
  rcases h.nil with ⟨rfl, rfl⟩ | ⟨hr, hl⟩
  · refine (both_left q w).mono ?_
    rintro e w' ⟨rfl, rfl⟩
    obtain ⟨ns, g1, g2⟩ := g
    exact ⟨_, rfl, ⟨ns, g1.up, g2⟩, Below.refl _ _⟩
  · rcases g.nil with ⟨rfl, rfl⟩ | ⟨hq, hm⟩
    · obtain ⟨ns, h1, h2⟩ := h
      obtain ⟨u, x, rfl⟩ := (Pre.form h1).resolve_left hr
      refine (both_right u x w).mono ?_
      rintro e w' ⟨rfl, rfl⟩
      refine ⟨_, rfl, ⟨ns, h1.up, ?_⟩, Below.refl _ _⟩
      unfold bothS
      rw [if_neg (by simpa using hl)]; exact h2
    · obtain ⟨ns, h1, rfl⟩ := h
      obtain ⟨ms, g1, rfl⟩ := g
      refine (both_any f r q ns ms w hr hq h1 g1).mono ?_
      rintro e w' ⟨b, rfl, hp, hb⟩
      refine ⟨_, rfl, ⟨_, hp, ?_⟩, hb⟩
      unfold bothS
      rw [if_neg (by simpa using hl), if_neg (by simpa using hm)]
      unfold shapes
      rw [List.map_cons, List.map_append]; rfl

set_option maxRecDepth 4000 in
set_option maxHeartbeats 1000000 in
/-- Of a Mold of no kind, of a number, of a plain error. -/
theorem made_leaf (n : Nat) (l : Lab) (a : Option Addr) (len cap : Nat) (x y : Tr n) (w : World) (h2 : l.kind ≠ 2) (h3 : l.kind ≠ 3) :
    Calls Tryd.prog 11 #[moldV l a len cap] w fun e w' => ∃ r, e = .returned r ∧ Hid (Makes w' (n + 1) r (nodesT (n + 1) (some (l, x, y)))) ∧ Below w.heap.size w w' := by
  obtain ⟨kd, nm, op, pa⟩ := l
  simp only at h2 h3
  have e2 : (kd == 2) = false := beq_eq_false_iff_ne.2 h2
  have e3 : (kd == 3) = false := beq_eq_false_iff_ne.2 h3
  rw [nodesT_some]
  simp only [h2, h3, if_false]
  unfold moldV
  by_cases k1 : kd = 1
  · subst k1
    rw [if_pos rfl]
    clear e2 e3 h2 h3
    go_enter Tryd.func11, Tryd.ntmps11
    go_wp2
    go_ret
    exact ⟨_, rfl, ⟨_, pre_num _ n nm, rfl⟩, (Below.refl _ _).alloc (Nat.le_refl _) _⟩
  · have e1 : (kd == 1) = false := beq_eq_false_iff_ne.2 k1
    rw [if_neg k1]
    by_cases k4 : kd = 4
    · subst k4
      rw [if_pos rfl]
      clear e2 e3 h2 h3 e1 k1
      go_enter Tryd.func11, Tryd.ntmps11
      go_wp2
      go_ret
      exact ⟨_, rfl, ⟨_, pre_leaf n _ (t := op) (by simp), rfl⟩, ((Below.refl _ _).alloc (Nat.le_refl _) _).alloc (by simp) _⟩
    · have e4 : (kd == 4) = false := beq_eq_false_iff_ne.2 k4
      rw [if_neg k4]
      clear h2 h3 k1 k4
      go_enter Tryd.func11, Tryd.ntmps11
      go_wp2
      go_ret
      exact ⟨_, rfl, ⟨[], .inl ⟨rfl, rfl⟩, rfl⟩, (Below.refl _ _).alloc (Nat.le_refl _) _⟩
end Go.Proofs.YtlandjnhhcnbeaaDoor
