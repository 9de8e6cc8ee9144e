/- dolmenlaw3.none: what one call answers. -/
import Derived.Test.YtlandjnhhcnbeaaDoorMold
namespace Go.Proofs.YtlandjnhhcnbeaaDoor
open Go.ChangeShapes Go.WideShapes Go.ChangeAt Go.RowKit
set_option linter.unusedVariables false

def noneT : (n : Nat) → Tr n → Bool
  | 0, _ => true
  | _ + 1, none => true
  | n + 1, some (l, x, y) => if l.kind = 1 ∨ l.kind = 4 then false else if l.kind = 2 then noneT n x else if l.kind = 3 then noneT n x && noneT n y else true
theorem noneT_zero : ∀ n, noneT n (Tr.zero n) = true
  | 0 => rfl
  | _ + 1 => rfl
theorem bel2m {w w1 w2 : World} (h : Below w.heap.size w w1) (k : Below w1.heap.size w1 w2) : Below w.heap.size w w2 := h.trans (k.mono h.size)

set_option maxRecDepth 4000 in
set_option maxHeartbeats 1000000 in
/-- Of a Mold of no kind, of a number, of a plain error. -/
theorem none_leaf (l : Lab) (a : Option Addr) (len cap : Nat) (w : World) (h2 : l.kind ≠ 2) (h3 : l.kind ≠ 3) :
    Calls Tryd.prog 12 #[moldV l a len cap] w fun e w' => e = .returned (.bool (decide (¬ (l.kind = 1 ∨ l.kind = 4)))) ∧ Below w.heap.size w w' := by
  obtain ⟨kd, nm, op, pa⟩ := l
  have e2 : (kd == 2) = false := beq_eq_false_iff_ne.2 h2
  have e3 : (kd == 3) = false := beq_eq_false_iff_ne.2 h3
  simp only at h2 h3
  unfold moldV
  by_cases k1 : kd = 1
  · subst k1
    clear e2 e3 h2 h3
    go_enter Tryd.func12, Tryd.ntmps12
    go_wp2
    go_ret
    exact ⟨rfl, (Below.refl _ _).alloc (Nat.le_refl _) _⟩
  · have e1 : (kd == 1) = false := beq_eq_false_iff_ne.2 k1
    by_cases k4 : kd = 4
    · subst k4
      clear e2 e3 h2 h3 e1 k1
      go_enter Tryd.func12, Tryd.ntmps12
      go_wp2
      go_ret
      exact ⟨rfl, (Below.refl _ _).alloc (Nat.le_refl _) _⟩
    · have e4 : (kd == 4) = false := beq_eq_false_iff_ne.2 k4
      have HD : Hid (decide (¬ (kd = 1 ∨ kd = 4)) = true) := by show _ = _; simp [k1, k4]
      clear h2 h3 k1 k4
      go_enter Tryd.func12, Tryd.ntmps12
      go_wp2
      go_ret
      exact ⟨congrArg (fun b => Ending.returned (.bool b)) HD.out.symm, (Below.refl _ _).alloc (Nat.le_refl _) _⟩

set_option maxRecDepth 4000 in
set_option maxHeartbeats 2000000 in
theorem none_any : ∀ (n : Nat) (v : Value) (t : Tr n) (w : World), MoldAt w n v t →
    Calls Tryd.prog 12 #[v] w fun e w' => e = .returned (.bool (noneT n t)) ∧ Below w.heap.size w w'
  | 0, v, t, w, h => by
    have hz : v = moldV ⟨0, 0, ⟨#[]⟩, ⟨#[]⟩⟩ none 0 0 := h
    subst hz
    exact none_leaf _ none 0 0 w (by decide) (by decide)
  | n + 1, v, none, w, h => by
    have hz : v = moldV ⟨0, 0, ⟨#[]⟩, ⟨#[]⟩⟩ none 0 0 := h
    subst hz
    exact none_leaf _ none 0 0 w (by decide) (by decide)
  | n + 1, v, some (l, x, y), w, h => by
    have IH : Hid (∀ (v : Value) (t : Tr n) (w : World), MoldAt w n v t → Calls Tryd.prog 12 #[v] w fun e w' => e = .returned (.bool (noneT n t)) ∧ Below w.heap.size w w') := fun v t w => none_any n v t w
    have HM : Hid (MoldAt w (n + 1) v (some (l, x, y))) := h
    obtain ⟨a, len, cap, h1, h2, h3, h4, h5, h6, h7, h8⟩ := h
    have HV : Hid (v = moldV l a len cap) := h1
    subst h1
    clear h2 h3 h4 h5 h6 h7 h8 HV
    by_cases k2 : l.kind = 2
    · have HN : Hid (noneT (n + 1) (some (l, x, y)) = noneT n x) := by show _ = _; simp [noneT, k2]
      have HB : Hid (Below w.heap.size w (w.alloc (.cells #[.int .i64 l.kind, .int .i64 l.num, .string l.op, .string l.path, .slice a len cap] 24))) := (Below.refl _ _).alloc (Nat.le_refl _) _
      have HK := (kid_any n _ _ _ (HM.out.below HB.out)).1
      obtain ⟨kd, nm, op, pa⟩ := l
      simp only at k2
      subst k2
      have HK2 : Hid (Calls Tryd.prog 27 _ _ _) := HK
      clear HK
      unfold moldV
      go_enter Tryd.func12, Tryd.ntmps12
      go_wp2_with fail
      go_at_call 27
      refine HK2.out.mono ?_
      rintro e w1 ⟨v', rfl, hm, hb⟩
      have HC : Hid (MoldAt w1 n v' x ∧ Below w.heap.size w w1) := ⟨hm.below hb, bel2m HB.out hb⟩
      clear hm hb HK2
      go_wp2_with fail
      go_at_call 12
      refine (IH.out v' x w1 HC.out.1).mono ?_
      rintro e w2 ⟨rfl, hb2⟩
      have HD : Hid (Below w.heap.size w w2) := bel2m HC.out.2 hb2
      clear hb2
      go_wp2
      go_ret
      exact ⟨congrArg (fun b => Ending.returned (.bool b)) HN.out.symm, HD.out⟩
    · by_cases k3 : l.kind = 3
      · have HN : Hid (noneT (n + 1) (some (l, x, y)) = (noneT n x && noneT n y)) := by show _ = _; simp [noneT, k3]
        have HB : Hid (Below w.heap.size w (w.alloc (.cells #[.int .i64 l.kind, .int .i64 l.num, .string l.op, .string l.path, .slice a len cap] 24))) := (Below.refl _ _).alloc (Nat.le_refl _) _
        have HK := kid_any n _ _ _ (HM.out.below HB.out)
        have HX : Hid (At5 (w.alloc (.cells #[.int .i64 l.kind, .int .i64 l.num, .string l.op, .string l.path, .slice a len cap] 24)) w.heap.size 0 l a len cap) := box5 w l a len cap _
        have HKK : Hid (∀ w2, Below w.heap.size w w2 → Calls Tryd.prog 27 #[moldV l a len cap, .int .i64 1] w2 fun e w' => ∃ v', e = .returned v' ∧ MoldAt w2 n v' y ∧ Below w2.heap.size w2 w') := fun w2 hb => (kid_any n _ _ _ (HM.out.below hb)).2
        obtain ⟨kd, nm, op, pa⟩ := l
        simp only at k3 k2
        subst k3
        have HK2 : Hid (Calls Tryd.prog 27 _ _ _) := HK.1
        clear HK k2
        unfold moldV at *
        go_enter Tryd.func12, Tryd.ntmps12
        go_wp2_with fail
        go_at_call 27
        refine HK2.out.mono ?_
        rintro e w1 ⟨v', rfl, hm, hb⟩
        have HC : Hid (MoldAt w1 n v' x ∧ Below w.heap.size w w1 ∧ At5 w1 w.heap.size 0 _ a len cap) := ⟨hm.below hb, bel2m HB.out hb, HX.out.below hb⟩
        clear hm hb HK2
        go_wp2_with fail
        go_at_call 12
        refine (IH.out v' x w1 HC.out.1).mono ?_
        rintro e w2 ⟨rfl, hb2⟩
        have HD : Hid (Below w.heap.size w w2 ∧ At5 w2 w.heap.size 0 _ a len cap) := ⟨bel2m HC.out.2.1 hb2, HC.out.2.2.below hb2⟩
        clear hb2 HC
        rcases hx : noneT n x with _ | _
        · have HN2 : Hid (noneT (n + 1) (some (⟨3, nm, op, pa⟩, x, y)) = false) := by show _ = _; rw [HN.out, hx]; rfl
          clear hx
          go_wp2
          go_ret
          exact ⟨congrArg (fun b => Ending.returned (.bool b)) HN2.out.symm, HD.out.1⟩
        · have HN2 : Hid (noneT (n + 1) (some (⟨3, nm, op, pa⟩, x, y)) = noneT n y) := by show _ = _; rw [HN.out, hx]; rfl
          clear hx
          have c := HD.out.2
          obtain ⟨c0, c1, c2, c3, c4⟩ := c
          simp only [Nat.zero_add] at c1 c2 c3 c4
          go_wp2_with fail
          go_at_call 27
          refine (HKK.out w2 HD.out.1).mono ?_
          rintro e w3 ⟨v3, rfl, hm, hb⟩
          have HE : Hid (MoldAt w3 n v3 y ∧ Below w.heap.size w w3) := ⟨hm.below hb, bel2m HD.out.1 hb⟩
          clear hm hb c0 c1 c2 c3 c4
          go_wp2_with fail
          go_at_call 12
          refine (IH.out v3 y w3 HE.out.1).mono ?_
          rintro e w4 ⟨rfl, hb2⟩
          have HF : Hid (Below w.heap.size w w4) := bel2m HE.out.2 hb2
          clear hb2
          go_wp2
          go_ret
          exact ⟨congrArg (fun b => Ending.returned (.bool b)) HN2.out.symm, HF.out⟩
      · have e : noneT (n + 1) (some (l, x, y)) = decide (¬ (l.kind = 1 ∨ l.kind = 4)) := by
          simp only [noneT, k2, k3, if_false]
          by_cases h : l.kind = 1 ∨ l.kind = 4
          · simp [h]
          · simp [h]
        rw [e]
        exact none_leaf l a len cap w k2 k3
end Go.Proofs.YtlandjnhhcnbeaaDoor
