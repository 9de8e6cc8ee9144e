/- dolmenlaw3.first: what one call answers. -/
import Derived.Test.YtlandjnhhcnbeaaDoorMoldWeight
namespace Go.Proofs.YtlandjnhhcnbeaaDoor
open Go.ChangeShapes Go.WideShapes Go.ChangeAt Go.RowKit
set_option linter.unusedVariables false

/-- The first Fault within, the first one within that, and so on. -/
def chainT : (n : Nat) → Tr n → List (ByteArray × ByteArray)
  | 0, _ => []
  | _ + 1, none => []
  | n + 1, some (l, x, y) => if noneT (n + 1) (some (l, x, y)) = true then [] else if l.kind = 2 then (l.op, l.path) :: chainT n x else if l.kind = 3 then (if (chainT n x).isEmpty = true then chainT n y else chainT n x) else []
theorem chainT_zero : ∀ n, chainT n (Tr.zero n) = []
  | 0 => rfl
  | _ + 1 => rfl
/-- What first answers. -/
def FirstIs (w : World) (n : Nat) (t : Tr n) (v : Value) : Prop :=
  (chainT n t = [] ∧ v = zeroM) ∨
  ∃ (k : Nat) (l : Lab) (x y : Tr k), MoldAt w (k + 1) v (some (l, x, y)) ∧ l.kind = 2 ∧ k < n ∧ chainT n t = (l.op, l.path) :: chainT k x ∧ 1 + l.op.size + l.path.size + bulk k x ≤ bulk n t
theorem FirstIs.below {w w' : World} {n : Nat} {t : Tr n} {v : Value} (h : FirstIs w n t v) (hb : Below w.heap.size w w') : FirstIs w' n t v := by
  rcases h with h | ⟨k, l, x, y, h1, h2⟩
  · exact .inl h
  · exact .inr ⟨k, l, x, y, h1.below hb, h2⟩
theorem firstIs_form {w : World} {n : Nat} {t : Tr n} {v : Value} (h : FirstIs w n t v) : ∃ l a len cap, v = moldV l a len cap ∧ ((chainT n t).isEmpty = true ∧ l.kind = 0 ∨ (chainT n t).isEmpty = false ∧ l.kind = 2) := by
  rcases h with ⟨h1, h2⟩ | ⟨k, l, x, y, ⟨a, len, cap, hv, _⟩, hk, _, hc, _⟩
  · exact ⟨⟨0, 0, ⟨#[]⟩, ⟨#[]⟩⟩, none, 0, 0, h2, .inl ⟨by rw [h1]; rfl, rfl⟩⟩
  · exact ⟨l, a, len, cap, hv, .inr ⟨by rw [hc]; rfl, hk⟩⟩

/-- Five cells of the call's own, open to stores. -/
def Free5 (w : World) (b : Nat) : Prop := (∃ d0 d1 d2 d3 d4, w.cell? ⟨b, 0, none⟩ = some d0 ∧ w.cell? ⟨b, 1, none⟩ = some d1 ∧ w.cell? ⟨b, 2, none⟩ = some d2 ∧ w.cell? ⟨b, 3, none⟩ = some d3 ∧ w.cell? ⟨b, 4, none⟩ = some d4) ∧
  w.frozen? ⟨b, 0, none⟩ = false ∧ w.frozen? ⟨b, 1, none⟩ = false ∧ w.frozen? ⟨b, 2, none⟩ = false ∧ w.frozen? ⟨b, 3, none⟩ = false ∧ w.frozen? ⟨b, 4, none⟩ = false
theorem Free5.below {w w' : World} {b B : Nat} (h : Free5 w b) (hb : Below B w w') (hB : b < B) : Free5 w' b := by
  unfold Free5 at *
  have c : ∀ j, w'.cell? ⟨b, j, none⟩ = w.cell? ⟨b, j, none⟩ := fun j => hb.cell (by exact hB)
  have f : ∀ j, w'.frozen? ⟨b, j, none⟩ = w.frozen? ⟨b, j, none⟩ := fun j => hb.frozen (by exact hB)
  simp only [c, f]; exact h
theorem free5_new (w : World) (c0 c1 c2 c3 c4 : Value) (t : TypeId) : Free5 (w.alloc (.cells #[c0, c1, c2, c3, c4] t)) w.heap.size :=
  ⟨⟨c0, c1, c2, c3, c4, by simp, by simp, by simp, by simp, by simp⟩, by simp, by simp, by simp, by simp, by simp⟩
theorem set5 {B : Nat} {w w1 : World} (h : Below B w w1) {b : Nat} (hb : B ≤ b) (v0 v1 v2 v3 v4 : Value) : Below B w (((((w1.setCell ⟨b, 0, none⟩ v0).setCell ⟨b, 1, none⟩ v1).setCell ⟨b, 2, none⟩ v2).setCell ⟨b, 3, none⟩ v3).setCell ⟨b, 4, none⟩ v4) :=
  ((((h.setCell (by exact hb) _).setCell (by exact hb) _).setCell (by exact hb) _).setCell (by exact hb) _).setCell (by exact hb) _
theorem at5_box (w : World) (l : Lab) (a : Option Addr) (len cap : Nat) : At5 ((w.alloc (.cells #[.int .i64 l.kind, .int .i64 l.num, .string l.op, .string l.path, .slice a len cap] 24)).alloc (.cells #[.int .i64 0, .int .i64 0, .string ⟨#[]⟩, .string ⟨#[]⟩, .slice none 0 0] 24)) w.heap.size 0 l a len cap := (box5 w l a len cap _).below ((Below.refl _ _).alloc (by simp) _)

set_option maxRecDepth 4000 in
set_option maxHeartbeats 2000000 in
/-- Of a Mold that makes nothing, or makes no Fault by its kind: nothing. -/
theorem first_out (n : Nat) (l : Lab) (a : Option Addr) (len cap : Nat) (t : Tr n) (w : World) (HM : Hid (MoldAt w n (moldV l a len cap) t)) (h : Hid (noneT n t = true ∨ l.kind ≠ 2 ∧ l.kind ≠ 3)) :
    Calls Tryd.prog 28 #[moldV l a len cap] w fun e w' => e = .returned zeroM ∧ Below w.heap.size w w' := by
  have B0 : Hid (Below w.heap.size w ((w.alloc (.cells #[.int .i64 l.kind, .int .i64 l.num, .string l.op, .string l.path, .slice a len cap] 24)).alloc (.cells #[.int .i64 0, .int .i64 0, .string ⟨#[]⟩, .string ⟨#[]⟩, .slice none 0 0] 24))) := ((Below.refl _ _).alloc (Nat.le_refl _) _).alloc (by simp) _
  have X : Hid (At5 ((w.alloc (.cells #[.int .i64 l.kind, .int .i64 l.num, .string l.op, .string l.path, .slice a len cap] 24)).alloc (.cells #[.int .i64 0, .int .i64 0, .string ⟨#[]⟩, .string ⟨#[]⟩, .slice none 0 0] 24)) w.heap.size 0 l a len cap) := at5_box w l a len cap
  have F0 : Hid (Free5 ((w.alloc (.cells #[.int .i64 l.kind, .int .i64 l.num, .string l.op, .string l.path, .slice a len cap] 24)).alloc (.cells #[.int .i64 0, .int .i64 0, .string ⟨#[]⟩, .string ⟨#[]⟩, .slice none 0 0] 24)) (w.heap.size + 1) ∧ ((w.alloc (.cells #[.int .i64 l.kind, .int .i64 l.num, .string l.op, .string l.path, .slice a len cap] 24)).alloc (.cells #[.int .i64 0, .int .i64 0, .string ⟨#[]⟩, .string ⟨#[]⟩, .slice none 0 0] 24)).heap.size = w.heap.size + 1 + 1) := ⟨by have := free5_new (w.alloc (.cells #[.int .i64 l.kind, .int .i64 l.num, .string l.op, .string l.path, .slice a len cap] 24)) (.int .i64 0) (.int .i64 0) (.string ⟨#[]⟩) (.string ⟨#[]⟩) (.slice none 0 0) 24; simpa using this, by simp⟩
  have HN : Hid (Calls Tryd.prog 12 _ _ _) := none_any n (moldV l a len cap) t _ (HM.out.below B0.out)
  obtain ⟨kd, nm, op, pa⟩ := l
  unfold moldV at *
  go_enter Tryd.func28, Tryd.ntmps28
  go_wp2_with fail
  go_at_call 12
  refine HN.out.mono ?_
  rintro e w1 ⟨rfl, hb⟩
  have B1 : Hid (Below w.heap.size w w1) := bel2m B0.out hb
  obtain ⟨c0, c1, c2, c3, c4⟩ := X.out.below hb
  obtain ⟨⟨d0, d1, d2, d3, d4, y0, y1, y2, y3, y4⟩, z0, z1, z2, z3, z4⟩ := F0.out.1.below hb (by have := F0.out.2; omega)
  clear hb X F0 HN B0 HM
  rcases hno : noneT n t with _ | _
  · have hk := h.out.resolve_left (by rw [hno]; decide)
    have e2 : (kd == 2) = false := beq_eq_false_iff_ne.2 hk.1
    have e3 : (kd == 3) = false := beq_eq_false_iff_ne.2 hk.2
    clear h hk hno
    go_wp2
    refine bodyPost_ret (v := zeroM) (by simp [results, Tryd.results28, go_sem, zeroM, *]) rfl ⟨rfl, ?_⟩
    exact set5 B1.out (by omega) _ _ _ _ _
  · clear h hno
    go_wp2
    refine bodyPost_ret (v := zeroM) (by simp [results, Tryd.results28, go_sem, zeroM, *]) rfl ⟨rfl, ?_⟩
    exact set5 B1.out (by omega) _ _ _ _ _
set_option maxRecDepth 4000 in
set_option maxHeartbeats 2000000 in
/-- Of a Mold that makes a Fault: itself. -/
theorem first_self (n : Nat) (l : Lab) (a : Option Addr) (len cap : Nat) (t : Tr n) (w : World) (HM : Hid (MoldAt w n (moldV l a len cap) t)) (h : Hid (noneT n t = false)) (hk : l.kind = 2) :
    Calls Tryd.prog 28 #[moldV l a len cap] w fun e w' => e = .returned (moldV l a len cap) ∧ Below w.heap.size w w' := by
  have B0 : Hid (Below w.heap.size w ((w.alloc (.cells #[.int .i64 l.kind, .int .i64 l.num, .string l.op, .string l.path, .slice a len cap] 24)).alloc (.cells #[.int .i64 0, .int .i64 0, .string ⟨#[]⟩, .string ⟨#[]⟩, .slice none 0 0] 24))) := ((Below.refl _ _).alloc (Nat.le_refl _) _).alloc (by simp) _
  have X : Hid (At5 ((w.alloc (.cells #[.int .i64 l.kind, .int .i64 l.num, .string l.op, .string l.path, .slice a len cap] 24)).alloc (.cells #[.int .i64 0, .int .i64 0, .string ⟨#[]⟩, .string ⟨#[]⟩, .slice none 0 0] 24)) w.heap.size 0 l a len cap) := at5_box w l a len cap
  have F0 : Hid (Free5 ((w.alloc (.cells #[.int .i64 l.kind, .int .i64 l.num, .string l.op, .string l.path, .slice a len cap] 24)).alloc (.cells #[.int .i64 0, .int .i64 0, .string ⟨#[]⟩, .string ⟨#[]⟩, .slice none 0 0] 24)) (w.heap.size + 1) ∧ ((w.alloc (.cells #[.int .i64 l.kind, .int .i64 l.num, .string l.op, .string l.path, .slice a len cap] 24)).alloc (.cells #[.int .i64 0, .int .i64 0, .string ⟨#[]⟩, .string ⟨#[]⟩, .slice none 0 0] 24)).heap.size = w.heap.size + 1 + 1) := ⟨by have := free5_new (w.alloc (.cells #[.int .i64 l.kind, .int .i64 l.num, .string l.op, .string l.path, .slice a len cap] 24)) (.int .i64 0) (.int .i64 0) (.string ⟨#[]⟩) (.string ⟨#[]⟩) (.slice none 0 0) 24; simpa using this, by simp⟩
  have HN : Hid (Calls Tryd.prog 12 _ _ _) := none_any n (moldV l a len cap) t _ (HM.out.below B0.out)
  obtain ⟨kd, nm, op, pa⟩ := l
  simp only at hk
  subst hk
  unfold moldV at *
  go_enter Tryd.func28, Tryd.ntmps28
  go_wp2_with fail
  go_at_call 12
  refine HN.out.mono ?_
  rintro e w1 ⟨rfl, hb⟩
  have B1 : Hid (Below w.heap.size w w1) := bel2m B0.out hb
  obtain ⟨c0, c1, c2, c3, c4⟩ := X.out.below hb
  obtain ⟨⟨d0, d1, d2, d3, d4, y0, y1, y2, y3, y4⟩, z0, z1, z2, z3, z4⟩ := F0.out.1.below hb (by have := F0.out.2; omega)
  clear hb X F0 HN B0 HM
  rw [h.out]
  clear h
  simp only [Nat.zero_add] at c1 c2 c3 c4
  go_wp2
  refine bodyPost_ret (v := .agg #[.int .i64 2, .int .i64 nm, .string op, .string pa, .slice a len cap]) (by simp [results, Tryd.results28, go_sem, *]) rfl ⟨rfl, ?_⟩
  exact set5 B1.out (by omega) _ _ _ _ _
end Go.Proofs.YtlandjnhhcnbeaaDoor
