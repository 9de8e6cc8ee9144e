/- dolmenlaw3.first: of a Mold that makes two at once; of any. -/
import Derived.Test.YtlandjnhhcnbeaaDoorMoldFirst
namespace Go.Proofs.YtlandjnhhcnbeaaDoor
open Go.ChangeShapes Go.WideShapes Go.ChangeAt Go.RowKit
set_option linter.unusedVariables false

set_option maxRecDepth 4000 in
set_option maxHeartbeats 4000000 in
theorem first_two (n : Nat) (l : Lab) (a : Option Addr) (len cap : Nat) (x y : Tr n) (w0 w : World) (HW : Hid (Below w0.heap.size w0 w)) (HM : Hid (MoldAt w0 (n + 1) (moldV l a len cap) (some (l, x, y)))) (h : Hid (noneT (n + 1) (some (l, x, y)) = false)) (hk : l.kind = 3)
    (IH : Hid (∀ (v : Value) (t : Tr n) (w : World), Below w0.heap.size w0 w → MoldAt w0 n v t → Calls Tryd.prog 28 #[v] w fun e w' => ∃ v', e = .returned v' ∧ FirstIs w0 n t v' ∧ Below w.heap.size w w')) :
    Calls Tryd.prog 28 #[moldV l a len cap] w fun e w' => ∃ v', e = .returned v' ∧ Hid (((chainT n x).isEmpty = true → FirstIs w0 n y v') ∧ ((chainT n x).isEmpty = false → FirstIs w0 n x v')) ∧ Below w.heap.size w w' := by
  have B0 : Hid (Below w.heap.size w ((w.alloc (.cells #[.int .i64 l.kind, .int .i64 l.num, .string l.op, .string l.path, .slice a len cap] 24)).alloc (.cells #[.int .i64 0, .int .i64 0, .string ⟨#[]⟩, .string ⟨#[]⟩, .slice none 0 0] 24))) := ((Below.refl _ _).alloc (Nat.le_refl _) _).alloc (by simp) _
  have X : Hid (At5 ((w.alloc (.cells #[.int .i64 l.kind, .int .i64 l.num, .string l.op, .string l.path, .slice a len cap] 24)).alloc (.cells #[.int .i64 0, .int .i64 0, .string ⟨#[]⟩, .string ⟨#[]⟩, .slice none 0 0] 24)) w.heap.size 0 l a len cap) := at5_box w l a len cap
  have F0 : Hid (Free5 ((w.alloc (.cells #[.int .i64 l.kind, .int .i64 l.num, .string l.op, .string l.path, .slice a len cap] 24)).alloc (.cells #[.int .i64 0, .int .i64 0, .string ⟨#[]⟩, .string ⟨#[]⟩, .slice none 0 0] 24)) (w.heap.size + 1) ∧ ((w.alloc (.cells #[.int .i64 l.kind, .int .i64 l.num, .string l.op, .string l.path, .slice a len cap] 24)).alloc (.cells #[.int .i64 0, .int .i64 0, .string ⟨#[]⟩, .string ⟨#[]⟩, .slice none 0 0] 24)).heap.size = w.heap.size + 1 + 1) := ⟨by have := free5_new (w.alloc (.cells #[.int .i64 l.kind, .int .i64 l.num, .string l.op, .string l.path, .slice a len cap] 24)) (.int .i64 0) (.int .i64 0) (.string ⟨#[]⟩) (.string ⟨#[]⟩) (.slice none 0 0) 24; simpa using this, by simp⟩
  have HN : Hid (Calls Tryd.prog 12 _ _ _) := none_any (n + 1) (moldV l a len cap) _ _ (HM.out.below (bel2m HW.out B0.out))
  have HK0 : Hid (∀ w2, Below w.heap.size w w2 → Calls Tryd.prog 27 #[moldV l a len cap, .int .i64 0] w2 fun e w' => ∃ v', e = .returned v' ∧ MoldAt w0 n v' x ∧ Below w2.heap.size w2 w') := fun w2 hb => (kid_any0 n _ _ w0 w2 (bel2m HW.out hb) HM.out).1
  have HK1 : Hid (∀ w2, Below w.heap.size w w2 → Calls Tryd.prog 27 #[moldV l a len cap, .int .i64 1] w2 fun e w' => ∃ v', e = .returned v' ∧ MoldAt w0 n v' y ∧ Below w2.heap.size w2 w') := fun w2 hb => (kid_any0 n _ _ w0 w2 (bel2m HW.out hb) HM.out).2
  obtain ⟨kd, nm, op, pa⟩ := l
  simp only at hk
  subst hk
  unfold moldV at *
  go_enter Tryd.func28, Tryd.ntmps28
  go_wp2_with fail
  go_at_call 12
  refine HN.out.mono ?_
  rintro e w1 ⟨rfl, hb⟩
  have S1 : Hid (Below w.heap.size w w1 ∧ At5 w1 w.heap.size 0 _ a len cap ∧ Free5 w1 (w.heap.size + 1) ∧ w.heap.size + 2 ≤ w1.heap.size) := ⟨bel2m B0.out hb, X.out.below hb, F0.out.1.below hb (by have := F0.out.2; omega), by have := F0.out.2; have := hb.size; omega⟩
  clear hb X F0 HN B0
  rw [h.out]
  clear h
  have c := S1.out.2.1
  obtain ⟨c0, c1, c2, c3, c4⟩ := c
  simp only [Nat.zero_add] at c1 c2 c3 c4
  go_wp2_with fail
  go_at_call 27
  refine (HK0.out w1 S1.out.1).mono ?_
  rintro e w2 ⟨v2, rfl, hm2, hb⟩
  have S2 : Hid (Below w.heap.size w w2 ∧ At5 w2 w.heap.size 0 _ a len cap ∧ Free5 w2 (w.heap.size + 1) ∧ w.heap.size + 2 ≤ w2.heap.size ∧ MoldAt w0 n v2 x) := ⟨bel2m S1.out.1 hb, S1.out.2.1.below hb, S1.out.2.2.1.below hb (by have := S1.out.2.2.2; omega), Nat.le_trans S1.out.2.2.2 hb.size, hm2⟩
  clear hb hm2 S1 c0 c1 c2 c3 c4 HK0
  go_wp2_with fail
  go_at_call 28
  refine (IH.out v2 x w2 (bel2m HW.out S2.out.1) S2.out.2.2.2.2).mono ?_
  rintro e w3 ⟨vf, rfl, hf3, hb⟩
  have S3 : Hid (Below w.heap.size w w3 ∧ At5 w3 w.heap.size 0 _ a len cap ∧ Free5 w3 (w.heap.size + 1) ∧ w.heap.size + 2 ≤ w3.heap.size ∧ FirstIs w0 n x vf) := ⟨bel2m S2.out.1 hb, S2.out.2.1.below hb, S2.out.2.2.1.below hb (by have := S2.out.2.2.2.1; omega), Nat.le_trans S2.out.2.2.2.1 hb.size, hf3⟩
  clear hb hf3 S2
  obtain ⟨lf, af, lenf, capf, hvf, hcase⟩ := firstIs_form S3.out.2.2.2.2
  subst hvf
  obtain ⟨kf, nf, of, pf⟩ := lf
  unfold moldV at *
  have B4 : Hid (Below w3.heap.size w3 (w3.alloc (.cells #[.int .i64 kf, .int .i64 nf, .string of, .string pf, .slice af lenf capf] 24))) := (Below.refl _ _).alloc (Nat.le_refl _) _
  have g1 : ¬ w3.heap.size = w.heap.size + 1 := by have := S3.out.2.2.2.1; omega
  have g2 : ¬ w.heap.size + 1 = w3.heap.size := by have := S3.out.2.2.2.1; omega
  rcases hcase with ⟨hE, hk0⟩ | ⟨hE, hk2⟩
  · simp only at hk0
    subst hk0
    have HE : Hid ((chainT n x).isEmpty = true) := hE
    clear hE
    have c := S3.out.2.1.below B4.out
    obtain ⟨c0, c1, c2, c3, c4⟩ := c
    simp only [Nat.zero_add] at c1 c2 c3 c4
    go_wp2_with fail
    go_at_call 27
    refine (HK1.out _ (bel2m S3.out.1 B4.out)).mono ?_
    rintro e w5 ⟨v5, rfl, hm5, hb⟩
    have S5 : Hid (Below w.heap.size w w5 ∧ Free5 w5 (w.heap.size + 1) ∧ Free5 w5 w3.heap.size ∧ w3.heap.size + 1 ≤ w5.heap.size ∧ MoldAt w0 n v5 y) := by
      have hs : (w3.alloc (.cells #[.int .i64 0, .int .i64 nf, .string of, .string pf, .slice af lenf capf] 24)).heap.size = w3.heap.size + 1 := by simp
      exact ⟨bel2m (bel2m S3.out.1 B4.out) hb, (S3.out.2.2.1.below B4.out (by have := S3.out.2.2.2.1; omega)).below hb (by have := S3.out.2.2.2.1; omega), (free5_new w3 _ _ _ _ _ _).below hb (by omega), by have := hb.size; omega, hm5⟩
    clear hb hm5 c0 c1 c2 c3 c4 HK1 B4
    go_wp2_with fail
    go_at_call 28
    refine (IH.out v5 y w5 (bel2m HW.out S5.out.1) S5.out.2.2.2.2).mono ?_
    rintro e w6 ⟨vg, rfl, hf6, hb⟩
    have S6 : Hid (Below w.heap.size w w6 ∧ Free5 w6 (w.heap.size + 1) ∧ Free5 w6 w3.heap.size ∧ FirstIs w0 n y vg) := ⟨bel2m S5.out.1 hb, S5.out.2.1.below hb (by have := S5.out.2.2.2.1; have := S3.out.2.2.2.1; omega), S5.out.2.2.1.below hb (by have := S5.out.2.2.2.1; omega), hf6⟩
    clear hb hf6 S5
    obtain ⟨lg, ag, leng, capg, hvg, _⟩ := firstIs_form S6.out.2.2.2
    subst hvg
    obtain ⟨kg, ng, og, pg⟩ := lg
    unfold moldV at *
    obtain ⟨⟨d0, d1, d2, d3, d4, y0, y1, y2, y3, y4⟩, z0, z1, z2, z3, z4⟩ := S6.out.2.1
    obtain ⟨⟨t0, t1, t2, t3, t4, q0, q1, q2, q3, q4⟩, r0, r1, r2, r3, r4⟩ := S6.out.2.2.1
    have HF : Hid (FirstIs w0 n y (.agg #[.int .i64 kg, .int .i64 ng, .string og, .string pg, .slice ag leng capg])) := S6.out.2.2.2
    have h3 : w.heap.size ≤ w3.heap.size := by have := S3.out.2.2.2.1; omega
    go_wp2
    refine bodyPost_ret (v := .agg #[.int .i64 kg, .int .i64 ng, .string og, .string pg, .slice ag leng capg]) (by simp [results, Tryd.results28, go_sem, *]) rfl ⟨_, rfl, ⟨fun _ => HF.out, fun hh => ?_⟩, ?_⟩
    · rw [HE.out] at hh; cases hh
    · exact set5 (set5 S6.out.1 h3 _ _ _ _ _) (by omega) _ _ _ _ _
  · simp only at hk2
    subst hk2
    have HE : Hid ((chainT n x).isEmpty = false) := hE
    clear hE
    have HF : Hid (FirstIs w0 n x (.agg #[.int .i64 2, .int .i64 nf, .string of, .string pf, .slice af lenf capf])) := S3.out.2.2.2.2
    obtain ⟨⟨d0, d1, d2, d3, d4, y0, y1, y2, y3, y4⟩, z0, z1, z2, z3, z4⟩ := S3.out.2.2.1.below B4.out (by have := S3.out.2.2.2.1; omega)
    have B5 : Hid (Below w.heap.size w (w3.alloc (.cells #[.int .i64 2, .int .i64 nf, .string of, .string pf, .slice af lenf capf] 24))) := bel2m S3.out.1 B4.out
    clear B4
    go_wp2
    refine bodyPost_ret (v := .agg #[.int .i64 2, .int .i64 nf, .string of, .string pf, .slice af lenf capf]) (by simp [results, Tryd.results28, go_sem, *]) rfl ⟨_, rfl, ⟨fun hh => ?_, fun _ => HF.out⟩, ?_⟩
    · rw [HE.out] at hh; cases hh
    · exact set5 B5.out (by omega) _ _ _ _ _

theorem first_any (w0 : World) : ∀ (n : Nat) (v : Value) (t : Tr n) (w : World), Below w0.heap.size w0 w → MoldAt w0 n v t →
    Calls Tryd.prog 28 #[v] w fun e w' => ∃ v', e = .returned v' ∧ FirstIs w0 n t v' ∧ Below w.heap.size w w'
  | 0, v, t, w, hb, h => by
    have hz : v = moldV ⟨0, 0, ⟨#[]⟩, ⟨#[]⟩⟩ none 0 0 := h
    subst hz
    refine (first_out 0 _ none 0 0 t w (h.below hb) (.inl rfl)).mono ?_
    rintro e w' ⟨rfl, hb'⟩
    exact ⟨_, rfl, .inl ⟨rfl, rfl⟩, hb'⟩
  | n + 1, v, none, w, hb, h => by
    have hz : v = moldV ⟨0, 0, ⟨#[]⟩, ⟨#[]⟩⟩ none 0 0 := h
    subst hz
    refine (first_out (n + 1) _ none 0 0 none w (h.below hb) (.inl rfl)).mono ?_
    rintro e w' ⟨rfl, hb'⟩
    exact ⟨_, rfl, .inl ⟨rfl, rfl⟩, hb'⟩
  | n + 1, v, some (l, x, y), w, hb, h => by
    have hM := h
    obtain ⟨a, len, cap, h1, _⟩ := h
    subst h1
    by_cases ho : noneT (n + 1) (some (l, x, y)) = true ∨ l.kind ≠ 2 ∧ l.kind ≠ 3
    · refine (first_out (n + 1) l a len cap _ w (hM.below hb) ho).mono ?_
      rintro e w' ⟨rfl, hb'⟩
      refine ⟨_, rfl, .inl ⟨?_, rfl⟩, hb'⟩
      rcases ho with ho | ⟨k2, k3⟩
      · simp only [chainT, ho, if_true]
      · simp only [chainT, k2, k3, if_false, ite_self]
    · have hn : noneT (n + 1) (some (l, x, y)) = false := by
        rcases hh : noneT (n + 1) (some (l, x, y)) with _ | _
        · rfl
        · exact absurd (.inl hh) ho
      by_cases k2 : l.kind = 2
      · refine (first_self (n + 1) l a len cap _ w (hM.below hb) hn k2).mono ?_
        rintro e w' ⟨rfl, hb'⟩
        refine ⟨_, rfl, .inr ⟨n, l, x, y, hM, k2, Nat.lt_succ_self _, ?_, ?_⟩, hb'⟩
        · simp only [chainT, hn, k2, if_true, Bool.false_eq_true, if_false]
        · simp only [bulk]; omega
      · have k3 : l.kind = 3 := by
          by_cases k3 : l.kind = 3
          · exact k3
          · exact absurd (.inr ⟨k2, k3⟩) ho
        have hc : chainT (n + 1) (some (l, x, y)) = if (chainT n x).isEmpty = true then chainT n y else chainT n x := by
          have k2' : ¬ (3 : Int) = 2 := by decide
          simp only [chainT, hn, k3, if_true, Bool.false_eq_true, if_false, k2']
        refine (first_two n l a len cap x y w0 w hb hM hn k3 (fun v t w => first_any w0 n v t w)).mono ?_
        rintro e w' ⟨v', rfl, hf, hb'⟩
        refine ⟨v', rfl, ?_, hb'⟩
        have up : ∀ z : Tr n, FirstIs w0 n z v' → chainT (n + 1) (some (l, x, y)) = chainT n z → bulk n z ≤ bulk (n + 1) (some (l, x, y)) → FirstIs w0 (n + 1) (some (l, x, y)) v' := fun z hz e1 e2 => by
          rcases hz with ⟨q1, q2⟩ | ⟨k, l', x', y', q1, q2, q3, q4, q5⟩
          · exact .inl ⟨by rw [e1]; exact q1, q2⟩
          · exact .inr ⟨k, l', x', y', q1, q2, by omega, by rw [e1]; exact q4, by omega⟩
        rcases he : (chainT n x).isEmpty with _ | _
        · exact up x (hf.out.2 he) (by rw [hc, he]; rfl) (by simp only [bulk]; omega)
        · exact up y (hf.out.1 he) (by rw [hc, he]; rfl) (by simp only [bulk]; omega)
end Go.Proofs.YtlandjnhhcnbeaaDoor
