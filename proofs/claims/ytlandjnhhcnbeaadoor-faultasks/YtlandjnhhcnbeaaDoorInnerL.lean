/- dolmenlaw3.inner: what one call answers. -/
import Derived.Test.YtlandjnhhcnbeaaDoorChainL
namespace Go.Proofs.YtlandjnhhcnbeaaDoor
open Go.RowKit Kit
set_option linter.unusedVariables false

/-- What inner answers: the Mold that makes what is innermost: a number, a plain error, two at once. -/
def InnerIs (w : World) (n : Nat) (t : Tr n) (v : Value) : Prop :=
  ∃ (k : Nat) (l : Lab) (x y : Tr k), MoldAt w (k + 1) v (some (l, x, y)) ∧ bulk (k + 1) (some (l, x, y)) ≤ bulk n t ∧ nodesT (k + 1) (some (l, x, y)) = innerS (nodesT n t) ∧ (l.kind = 1 ∨ l.kind = 4 ∨ l.kind = 3)
theorem innerIs_form {w : World} {n : Nat} {t : Tr n} {v : Value} (h : InnerIs w n t v) : ∃ l a len cap, v = moldV l a len cap := by
  obtain ⟨k, l, x, y, ⟨a, len, cap, hv, _⟩, _⟩ := h
  exact ⟨l, a, len, cap, hv⟩
theorem InnerIs.via {w : World} {n m : Nat} {t : Tr n} {s : Tr m} {v : Value} (h : InnerIs w n t v) (hb : bulk n t ≤ bulk m s) (hi : innerS (nodesT n t) = innerS (nodesT m s)) : InnerIs w m s v := by
  obtain ⟨k, l, x, y, h1, h2, h3, h4⟩ := h
  exact ⟨k, l, x, y, h1, Nat.le_trans h2 hb, h3.trans hi, h4⟩
theorem innerS_fault (op path : ByteArray) (l : List Sh) : innerS (faultS op path l) = innerS l := by
  unfold faultS
  split
  · rename_i h; rw [List.isEmpty_iff.1 h]
  · unfold innerS; simp
theorem innerS_skip (t : Nat) (x : Int × List (ByteArray × ByteArray)) (r : List Sh) (h : (t == 54) = false) : innerS ((t, x) :: r) = (t, x) :: r := by unfold innerS; simp [h]
/-- A Mold of the call's own, and a variable that is still zero. -/
def Pair5 (w w' : World) (l : Lab) (a : Option Addr) (len cap : Nat) : Prop :=
  (w'.cell? ⟨w.heap.size, 0, none⟩ = some (.int .i64 l.kind) ∧ w'.cell? ⟨w.heap.size, 1, none⟩ = some (.int .i64 l.num) ∧ w'.cell? ⟨w.heap.size, 2, none⟩ = some (.string l.op) ∧ w'.cell? ⟨w.heap.size, 3, none⟩ = some (.string l.path) ∧ w'.cell? ⟨w.heap.size, 4, none⟩ = some (.slice a len cap)) ∧
  Free5 w' (w.heap.size + 1) ∧ Below w.heap.size w w' ∧ w.heap.size + 2 ≤ w'.heap.size
theorem pair5_new (w : World) (l : Lab) (a : Option Addr) (len cap : Nat) : Pair5 w ((w.alloc (.cells #[.int .i64 l.kind, .int .i64 l.num, .string l.op, .string l.path, .slice a len cap] 24)).alloc (.cells #[.int .i64 0, .int .i64 0, .string ⟨#[]⟩, .string ⟨#[]⟩, .slice none 0 0] 24)) l a len cap := by
  obtain ⟨c0, c1, c2, c3, c4⟩ := at5_box w l a len cap
  refine ⟨⟨c0, c1, c2, c3, c4⟩, ?_, ((Below.refl _ _).alloc (Nat.le_refl _) _).alloc (by simp) _, by simp⟩
  have := free5_new (w.alloc (.cells #[.int .i64 l.kind, .int .i64 l.num, .string l.op, .string l.path, .slice a len cap] 24)) (.int .i64 0) (.int .i64 0) (.string ⟨#[]⟩) (.string ⟨#[]⟩) (.slice none 0 0) 24
  simpa using this
theorem Pair5.below {w w1 w2 : World} {l : Lab} {a : Option Addr} {len cap : Nat} (h : Pair5 w w1 l a len cap) (hb : Below w1.heap.size w1 w2) : Pair5 w w2 l a len cap := by
  obtain ⟨⟨c0, c1, c2, c3, c4⟩, hf, h2, h3⟩ := h
  exact ⟨⟨cell_old hb c0, cell_old hb c1, cell_old hb c2, cell_old hb c3, cell_old hb c4⟩, hf.below hb (by omega), bel2e h2 hb, Nat.le_trans h3 hb.size⟩

set_option maxRecDepth 4000 in
set_option maxHeartbeats 2000000 in
/-- Of a Mold that makes a number, a plain error, nothing. -/
theorem inner_self (l : Lab) (a : Option Addr) (len cap : Nat) (w : World) (h2 : l.kind ≠ 2) (h3 : l.kind ≠ 3) :
    Calls Tryd.prog 21 #[moldV l a len cap] w fun e w' => e = .returned (moldV l a len cap) ∧ Below w.heap.size w w' := by
  obtain ⟨kd, nm, op, pa⟩ := l
  simp only at h2 h3
  have e2 : (kd == 2) = false := beq_eq_false_iff_ne.2 h2
  have e3 : (kd == 3) = false := beq_eq_false_iff_ne.2 h3
  clear h2 h3
  unfold moldV at *
  go_enter Tryd.func21, Tryd.ntmps21
  go_wp2
  refine bodyPost_ret (v := .agg #[.int .i64 kd, .int .i64 nm, .string op, .string pa, .slice a len cap]) (by simp [results, Tryd.results21, go_sem]) rfl ⟨rfl, ?_⟩
  exact ((Below.refl _ _).alloc (Nat.le_refl _) _).alloc (by simp) _
set_option maxRecDepth 4000 in
set_option maxHeartbeats 4000000 in
/-- Of a Mold that makes a Fault. -/
theorem inner_fault (n : Nat) (l : Lab) (a : Option Addr) (len cap : Nat) (x y : Tr n) (w0 w : World) (HW : Hid (Below w0.heap.size w0 w)) (HM : Hid (MoldAt w0 (n + 1) (moldV l a len cap) (some (l, x, y)))) (hk : l.kind = 2)
    (IH : Hid (∀ (v : Value) (w : World), Below w0.heap.size w0 w → MoldAt w0 n v x → Calls Tryd.prog 21 #[v] w fun e w' => ∃ v', e = .returned v' ∧ InnerIs w0 n x v' ∧ Below w.heap.size w w')) :
    Calls Tryd.prog 21 #[moldV l a len cap] w fun e w' => ∃ v', e = .returned v' ∧ InnerIs w0 n x v' ∧ Below w.heap.size w w' := by
  have HK0 : Hid (∀ w2, Below w.heap.size w w2 → Calls Tryd.prog 27 #[moldV l a len cap, .int .i64 0] w2 fun e w' => ∃ v', e = .returned v' ∧ MoldAt w0 n v' x ∧ Below w2.heap.size w2 w') := fun w2 hb => (kid_any0 n _ _ w0 w2 (bel2m HW.out hb) HM.out).1
  have HK1 : Hid (∀ w2, Below w.heap.size w w2 → Calls Tryd.prog 27 #[moldV l a len cap, .int .i64 1] w2 fun e w' => ∃ v', e = .returned v' ∧ MoldAt w0 n v' y ∧ Below w2.heap.size w2 w') := fun w2 hb => (kid_any0 n _ _ w0 w2 (bel2m HW.out hb) HM.out).2
  have H0 : Hid (Pair5 w ((w.alloc (.cells #[.int .i64 l.kind, .int .i64 l.num, .string l.op, .string l.path, .slice a len cap] 24)).alloc (.cells #[.int .i64 0, .int .i64 0, .string ⟨#[]⟩, .string ⟨#[]⟩, .slice none 0 0] 24)) l a len cap) := pair5_new w l a len cap
  obtain ⟨kd, nm, op, pa⟩ := l
  simp only at hk
  subst hk
  clear HM
  unfold moldV at *
  go_enter Tryd.func21, Tryd.ntmps21
  have c := H0.out.1
  obtain ⟨c0, c1, c2, c3, c4⟩ := c
  simp only at c0 c1 c2 c3
  go_wp2_with fail
  go_at_call 27
  refine (HK0.out _ H0.out.2.2.1).mono ?_
  rintro e wA1 ⟨v1, rfl, hm, hb⟩
  have A1 : Hid (Pair5 w wA1 _ a len cap ∧ MoldAt w0 n v1 x) := ⟨H0.out.below hb, hm⟩
  clear hm hb c0 c1 c2 c3 c4
  have HX : Hid (Calls Tryd.prog 21 _ _ _) := IH.out v1 wA1 (bel2m HW.out A1.out.1.2.2.1) A1.out.2
  go_wp2_with fail
  go_at_call 21
  refine HX.out.mono ?_
  rintro e wz ⟨vz, rfl, hi, hb⟩
  obtain ⟨lz, az, lenz, capz, hvz⟩ := innerIs_form hi
  subst hvz
  have Z : Hid (Pair5 w wz _ a len cap) := A1.out.1.below hb
  have HI : Hid (_) := hi
  clear hi hb HX A1
  obtain ⟨_, ⟨⟨d0, d1, d2, d3, d4, y0, y1, y2, y3, y4⟩, z0, z1, z2, z3, z4⟩, hB, _⟩ := Z.out
  have HB : Hid (Below w.heap.size w wz) := hB
  clear hB Z
  obtain ⟨kz, nz, oz, pz⟩ := lz
  unfold moldV at *
  go_wp2
  refine bodyPost_ret (v := .agg #[.int .i64 kz, .int .i64 nz, .string oz, .string pz, .slice az lenz capz]) (by simp [results, Tryd.results21, go_sem, *]) rfl ⟨_, rfl, HI.out, ?_⟩
  exact set5 HB.out (Nat.le_succ _) _ _ _ _ _
set_option maxRecDepth 4000 in
set_option maxHeartbeats 4000000 in
/-- Of two, the first one nothing. -/
theorem inner_right (n : Nat) (l : Lab) (a : Option Addr) (len cap : Nat) (x y : Tr n) (w0 w : World) (HW : Hid (Below w0.heap.size w0 w)) (HM : Hid (MoldAt w0 (n + 1) (moldV l a len cap) (some (l, x, y)))) (hk : l.kind = 3) (HN : Hid (noneT n x = true))
    (IH : Hid (∀ (v : Value) (w : World), Below w0.heap.size w0 w → MoldAt w0 n v y → Calls Tryd.prog 21 #[v] w fun e w' => ∃ v', e = .returned v' ∧ InnerIs w0 n y v' ∧ Below w.heap.size w w')) :
    Calls Tryd.prog 21 #[moldV l a len cap] w fun e w' => ∃ v', e = .returned v' ∧ InnerIs w0 n y v' ∧ Below w.heap.size w w' := by
  have HK0 : Hid (∀ w2, Below w.heap.size w w2 → Calls Tryd.prog 27 #[moldV l a len cap, .int .i64 0] w2 fun e w' => ∃ v', e = .returned v' ∧ MoldAt w0 n v' x ∧ Below w2.heap.size w2 w') := fun w2 hb => (kid_any0 n _ _ w0 w2 (bel2m HW.out hb) HM.out).1
  have HK1 : Hid (∀ w2, Below w.heap.size w w2 → Calls Tryd.prog 27 #[moldV l a len cap, .int .i64 1] w2 fun e w' => ∃ v', e = .returned v' ∧ MoldAt w0 n v' y ∧ Below w2.heap.size w2 w') := fun w2 hb => (kid_any0 n _ _ w0 w2 (bel2m HW.out hb) HM.out).2
  have H0 : Hid (Pair5 w ((w.alloc (.cells #[.int .i64 l.kind, .int .i64 l.num, .string l.op, .string l.path, .slice a len cap] 24)).alloc (.cells #[.int .i64 0, .int .i64 0, .string ⟨#[]⟩, .string ⟨#[]⟩, .slice none 0 0] 24)) l a len cap) := pair5_new w l a len cap
  obtain ⟨kd, nm, op, pa⟩ := l
  simp only at hk
  subst hk
  clear HM
  unfold moldV at *
  go_enter Tryd.func21, Tryd.ntmps21
  have c := H0.out.1
  obtain ⟨c0, c1, c2, c3, c4⟩ := c
  simp only at c0 c1 c2 c3
  go_wp2_with fail
  go_at_call 27
  refine (HK0.out _ H0.out.2.2.1).mono ?_
  rintro e wA1 ⟨v1, rfl, hm, hb⟩
  have A1 : Hid (Pair5 w wA1 _ a len cap ∧ MoldAt w0 n v1 x) := ⟨H0.out.below hb, hm⟩
  clear hm hb c0 c1 c2 c3 c4
  have HX : Hid (Calls Tryd.prog 12 _ _ _) := none_any n v1 x wA1 (A1.out.2.below (bel2m HW.out A1.out.1.2.2.1))
  go_wp2_with fail
  go_at_call 12
  refine HX.out.mono ?_
  rintro e wA2 ⟨rfl, hb⟩
  rw [HN.out]
  have A2 : Hid (Pair5 w wA2 _ a len cap) := A1.out.1.below hb
  clear hb HX A1
  have c := A2.out.1
  obtain ⟨c0, c1, c2, c3, c4⟩ := c
  simp only at c0 c1 c2 c3
  go_wp2_with fail
  go_at_call 27
  refine (HK1.out _ A2.out.2.2.1).mono ?_
  rintro e wA3 ⟨v3, rfl, hm, hb⟩
  have A3 : Hid (Pair5 w wA3 _ a len cap ∧ MoldAt w0 n v3 y) := ⟨A2.out.below hb, hm⟩
  clear hm hb c0 c1 c2 c3 c4
  have HX : Hid (Calls Tryd.prog 21 _ _ _) := IH.out v3 wA3 (bel2m HW.out A3.out.1.2.2.1) A3.out.2
  go_wp2_with fail
  go_at_call 21
  refine HX.out.mono ?_
  rintro e wz ⟨vz, rfl, hi, hb⟩
  obtain ⟨lz, az, lenz, capz, hvz⟩ := innerIs_form hi
  subst hvz
  have Z : Hid (Pair5 w wz _ a len cap) := A3.out.1.below hb
  have HI : Hid (_) := hi
  clear hi hb HX A3
  obtain ⟨_, ⟨⟨d0, d1, d2, d3, d4, y0, y1, y2, y3, y4⟩, z0, z1, z2, z3, z4⟩, hB, _⟩ := Z.out
  have HB : Hid (Below w.heap.size w wz) := hB
  clear hB Z
  obtain ⟨kz, nz, oz, pz⟩ := lz
  unfold moldV at *
  go_wp2
  refine bodyPost_ret (v := .agg #[.int .i64 kz, .int .i64 nz, .string oz, .string pz, .slice az lenz capz]) (by simp [results, Tryd.results21, go_sem, *]) rfl ⟨_, rfl, HI.out, ?_⟩
  exact set5 HB.out (Nat.le_succ _) _ _ _ _ _
set_option maxRecDepth 4000 in
set_option maxHeartbeats 4000000 in
/-- Of two, the second one nothing. -/
theorem inner_left (n : Nat) (l : Lab) (a : Option Addr) (len cap : Nat) (x y : Tr n) (w0 w : World) (HW : Hid (Below w0.heap.size w0 w)) (HM : Hid (MoldAt w0 (n + 1) (moldV l a len cap) (some (l, x, y)))) (hk : l.kind = 3) (HN : Hid (noneT n x = false)) (HO : Hid (noneT n y = true))
    (IH : Hid (∀ (v : Value) (w : World), Below w0.heap.size w0 w → MoldAt w0 n v x → Calls Tryd.prog 21 #[v] w fun e w' => ∃ v', e = .returned v' ∧ InnerIs w0 n x v' ∧ Below w.heap.size w w')) :
    Calls Tryd.prog 21 #[moldV l a len cap] w fun e w' => ∃ v', e = .returned v' ∧ InnerIs w0 n x v' ∧ Below w.heap.size w w' := by
  have HK0 : Hid (∀ w2, Below w.heap.size w w2 → Calls Tryd.prog 27 #[moldV l a len cap, .int .i64 0] w2 fun e w' => ∃ v', e = .returned v' ∧ MoldAt w0 n v' x ∧ Below w2.heap.size w2 w') := fun w2 hb => (kid_any0 n _ _ w0 w2 (bel2m HW.out hb) HM.out).1
  have HK1 : Hid (∀ w2, Below w.heap.size w w2 → Calls Tryd.prog 27 #[moldV l a len cap, .int .i64 1] w2 fun e w' => ∃ v', e = .returned v' ∧ MoldAt w0 n v' y ∧ Below w2.heap.size w2 w') := fun w2 hb => (kid_any0 n _ _ w0 w2 (bel2m HW.out hb) HM.out).2
  have H0 : Hid (Pair5 w ((w.alloc (.cells #[.int .i64 l.kind, .int .i64 l.num, .string l.op, .string l.path, .slice a len cap] 24)).alloc (.cells #[.int .i64 0, .int .i64 0, .string ⟨#[]⟩, .string ⟨#[]⟩, .slice none 0 0] 24)) l a len cap) := pair5_new w l a len cap
  obtain ⟨kd, nm, op, pa⟩ := l
  simp only at hk
  subst hk
  clear HM
  unfold moldV at *
  go_enter Tryd.func21, Tryd.ntmps21
  have c := H0.out.1
  obtain ⟨c0, c1, c2, c3, c4⟩ := c
  simp only at c0 c1 c2 c3
  go_wp2_with fail
  go_at_call 27
  refine (HK0.out _ H0.out.2.2.1).mono ?_
  rintro e wA1 ⟨v1, rfl, hm, hb⟩
  have A1 : Hid (Pair5 w wA1 _ a len cap ∧ MoldAt w0 n v1 x) := ⟨H0.out.below hb, hm⟩
  clear hm hb c0 c1 c2 c3 c4
  have HX : Hid (Calls Tryd.prog 12 _ _ _) := none_any n v1 x wA1 (A1.out.2.below (bel2m HW.out A1.out.1.2.2.1))
  go_wp2_with fail
  go_at_call 12
  refine HX.out.mono ?_
  rintro e wA2 ⟨rfl, hb⟩
  rw [HN.out]
  have A2 : Hid (Pair5 w wA2 _ a len cap) := A1.out.1.below hb
  clear hb HX A1
  have c := A2.out.1
  obtain ⟨c0, c1, c2, c3, c4⟩ := c
  simp only at c0 c1 c2 c3
  go_wp2_with fail
  go_at_call 27
  refine (HK1.out _ A2.out.2.2.1).mono ?_
  rintro e wA3 ⟨v3, rfl, hm, hb⟩
  have A3 : Hid (Pair5 w wA3 _ a len cap ∧ MoldAt w0 n v3 y) := ⟨A2.out.below hb, hm⟩
  clear hm hb c0 c1 c2 c3 c4
  have HX : Hid (Calls Tryd.prog 12 _ _ _) := none_any n v3 y wA3 (A3.out.2.below (bel2m HW.out A3.out.1.2.2.1))
  go_wp2_with fail
  go_at_call 12
  refine HX.out.mono ?_
  rintro e wA4 ⟨rfl, hb⟩
  rw [HO.out]
  have A4 : Hid (Pair5 w wA4 _ a len cap) := A3.out.1.below hb
  clear hb HX A3
  have c := A4.out.1
  obtain ⟨c0, c1, c2, c3, c4⟩ := c
  simp only at c0 c1 c2 c3
  go_wp2_with fail
  go_at_call 27
  refine (HK0.out _ A4.out.2.2.1).mono ?_
  rintro e wA5 ⟨v5, rfl, hm, hb⟩
  have A5 : Hid (Pair5 w wA5 _ a len cap ∧ MoldAt w0 n v5 x) := ⟨A4.out.below hb, hm⟩
  clear hm hb c0 c1 c2 c3 c4
  have HX : Hid (Calls Tryd.prog 21 _ _ _) := IH.out v5 wA5 (bel2m HW.out A5.out.1.2.2.1) A5.out.2
  go_wp2_with fail
  go_at_call 21
  refine HX.out.mono ?_
  rintro e wz ⟨vz, rfl, hi, hb⟩
  obtain ⟨lz, az, lenz, capz, hvz⟩ := innerIs_form hi
  subst hvz
  have Z : Hid (Pair5 w wz _ a len cap) := A5.out.1.below hb
  have HI : Hid (_) := hi
  clear hi hb HX A5
  obtain ⟨_, ⟨⟨d0, d1, d2, d3, d4, y0, y1, y2, y3, y4⟩, z0, z1, z2, z3, z4⟩, hB, _⟩ := Z.out
  have HB : Hid (Below w.heap.size w wz) := hB
  clear hB Z
  obtain ⟨kz, nz, oz, pz⟩ := lz
  unfold moldV at *
  go_wp2
  refine bodyPost_ret (v := .agg #[.int .i64 kz, .int .i64 nz, .string oz, .string pz, .slice az lenz capz]) (by simp [results, Tryd.results21, go_sem, *]) rfl ⟨_, rfl, HI.out, ?_⟩
  exact set5 HB.out (Nat.le_succ _) _ _ _ _ _
set_option maxRecDepth 4000 in
set_option maxHeartbeats 4000000 in
/-- Of two at once. -/
theorem inner_both (n : Nat) (l : Lab) (a : Option Addr) (len cap : Nat) (x y : Tr n) (w0 w : World) (HW : Hid (Below w0.heap.size w0 w)) (HM : Hid (MoldAt w0 (n + 1) (moldV l a len cap) (some (l, x, y)))) (hk : l.kind = 3) (HN : Hid (noneT n x = false)) (HO : Hid (noneT n y = false)) :
    Calls Tryd.prog 21 #[moldV l a len cap] w fun e w' => e = .returned (moldV l a len cap) ∧ Below w.heap.size w w' := by
  have HK0 : Hid (∀ w2, Below w.heap.size w w2 → Calls Tryd.prog 27 #[moldV l a len cap, .int .i64 0] w2 fun e w' => ∃ v', e = .returned v' ∧ MoldAt w0 n v' x ∧ Below w2.heap.size w2 w') := fun w2 hb => (kid_any0 n _ _ w0 w2 (bel2m HW.out hb) HM.out).1
  have HK1 : Hid (∀ w2, Below w.heap.size w w2 → Calls Tryd.prog 27 #[moldV l a len cap, .int .i64 1] w2 fun e w' => ∃ v', e = .returned v' ∧ MoldAt w0 n v' y ∧ Below w2.heap.size w2 w') := fun w2 hb => (kid_any0 n _ _ w0 w2 (bel2m HW.out hb) HM.out).2
  have H0 : Hid (Pair5 w ((w.alloc (.cells #[.int .i64 l.kind, .int .i64 l.num, .string l.op, .string l.path, .slice a len cap] 24)).alloc (.cells #[.int .i64 0, .int .i64 0, .string ⟨#[]⟩, .string ⟨#[]⟩, .slice none 0 0] 24)) l a len cap) := pair5_new w l a len cap
  obtain ⟨kd, nm, op, pa⟩ := l
  simp only at hk
  subst hk
  clear HM
  unfold moldV at *
  go_enter Tryd.func21, Tryd.ntmps21
  have c := H0.out.1
  obtain ⟨c0, c1, c2, c3, c4⟩ := c
  simp only at c0 c1 c2 c3
  go_wp2_with fail
  go_at_call 27
  refine (HK0.out _ H0.out.2.2.1).mono ?_
  rintro e wA1 ⟨v1, rfl, hm, hb⟩
  have A1 : Hid (Pair5 w wA1 _ a len cap ∧ MoldAt w0 n v1 x) := ⟨H0.out.below hb, hm⟩
  clear hm hb c0 c1 c2 c3 c4
  have HX : Hid (Calls Tryd.prog 12 _ _ _) := none_any n v1 x wA1 (A1.out.2.below (bel2m HW.out A1.out.1.2.2.1))
  go_wp2_with fail
  go_at_call 12
  refine HX.out.mono ?_
  rintro e wA2 ⟨rfl, hb⟩
  rw [HN.out]
  have A2 : Hid (Pair5 w wA2 _ a len cap) := A1.out.1.below hb
  clear hb HX A1
  have c := A2.out.1
  obtain ⟨c0, c1, c2, c3, c4⟩ := c
  simp only at c0 c1 c2 c3
  go_wp2_with fail
  go_at_call 27
  refine (HK1.out _ A2.out.2.2.1).mono ?_
  rintro e wA3 ⟨v3, rfl, hm, hb⟩
  have A3 : Hid (Pair5 w wA3 _ a len cap ∧ MoldAt w0 n v3 y) := ⟨A2.out.below hb, hm⟩
  clear hm hb c0 c1 c2 c3 c4
  have HX : Hid (Calls Tryd.prog 12 _ _ _) := none_any n v3 y wA3 (A3.out.2.below (bel2m HW.out A3.out.1.2.2.1))
  go_wp2_with fail
  go_at_call 12
  refine HX.out.mono ?_
  rintro e wA4 ⟨rfl, hb⟩
  rw [HO.out]
  have A4 : Hid (Pair5 w wA4 _ a len cap) := A3.out.1.below hb
  clear hb HX A3
  obtain ⟨⟨c0, c1, c2, c3, c4⟩, ⟨⟨d0, d1, d2, d3, d4, y0, y1, y2, y3, y4⟩, z0, z1, z2, z3, z4⟩, hB, _⟩ := A4.out
  have HB : Hid (Below w.heap.size w wA4) := hB
  clear hB A4
  simp only at c0 c1 c2 c3
  go_wp2
  refine bodyPost_ret (v := .agg #[.int .i64 3, .int .i64 nm, .string op, .string pa, .slice a len cap]) (by simp [results, Tryd.results21, go_sem, *]) rfl ⟨rfl, ?_⟩
  exact set5 HB.out (Nat.le_succ _) _ _ _ _ _

/-- inner of any Mold that makes something. -/
theorem innerL_any (w0 : World) : ∀ (n : Nat) (v : Value) (t : Tr n) (w : World), Below w0.heap.size w0 w → MoldAt w0 n v t → noneT n t = false →
    Calls Tryd.prog 21 #[v] w fun e w' => ∃ v', e = .returned v' ∧ InnerIs w0 n t v' ∧ Below w.heap.size w w'
  | 0, v, t, w, hb, h, hn => by cases hn
  | n + 1, v, none, w, hb, h, hn => by cases hn
  | n + 1, v, some (l, x, y), w, hb, h, hn => by
    have hM := h
    obtain ⟨a, len, cap, h1, _⟩ := h
    subst h1
    have hn' := hn
    rw [noneT_some] at hn'
    by_cases k2 : l.kind = 2
    · have e : nodesT (n + 1) (some (l, x, y)) = faultS l.op l.path (nodesT n x) := by rw [nodesT_some, k2]; rfl
      have hx : noneT n x = false := by
        rw [k2] at hn'
        simpa using hn'
      refine (inner_fault n l a len cap x y w0 w hb hM k2 (fun v w hb hm => innerL_any w0 n v x w hb hm hx)).mono ?_
      rintro e' w' ⟨v', rfl, hi, hb'⟩
      exact ⟨v', rfl, hi.via (by show _ ≤ 1 + l.op.size + l.path.size + bulk n x + bulk n y; omega) (by rw [e, innerS_fault]), hb'⟩
    by_cases k3 : l.kind = 3
    · have e : nodesT (n + 1) (some (l, x, y)) = bothS (nodesT n x) (nodesT n y) := by rw [nodesT_some, k3]; rfl
      have ex := none_nodes n x
      have ey := none_nodes n y
      have hxy : (noneT n x && noneT n y) = false := by
        rw [k3] at hn'
        simpa using hn'
      rcases hx : noneT n x with _ | _
      · rcases hy : noneT n y with _ | _
        · refine (inner_both n l a len cap x y w0 w hb hM k3 hx hy).mono ?_
          rintro e' w' ⟨rfl, hb'⟩
          refine ⟨_, rfl, ⟨n, l, x, y, hM, Nat.le_refl _, ?_, .inr (.inr k3)⟩, hb'⟩
          rw [e]
          unfold bothS
          rw [← ex, ← ey, hx, hy]
          exact (innerS_skip 72 _ _ rfl).symm
        · refine (inner_left n l a len cap x y w0 w hb hM k3 hx hy (fun v w hb hm => innerL_any w0 n v x w hb hm hx)).mono ?_
          rintro e' w' ⟨v', rfl, hi, hb'⟩
          refine ⟨v', rfl, hi.via (by show _ ≤ 1 + l.op.size + l.path.size + bulk n x + bulk n y; omega) ?_, hb'⟩
          rw [e]
          unfold bothS
          rw [← ex, ← ey, hx, hy]; rfl
      · have hy : noneT n y = false := by rw [hx] at hxy; simpa using hxy
        refine (inner_right n l a len cap x y w0 w hb hM k3 hx (fun v w hb hm => innerL_any w0 n v y w hb hm hy)).mono ?_
        rintro e' w' ⟨v', rfl, hi, hb'⟩
        refine ⟨v', rfl, hi.via (by show _ ≤ 1 + l.op.size + l.path.size + bulk n x + bulk n y; omega) ?_, hb'⟩
        rw [e]
        unfold bothS
        rw [← ex, hx]; rfl
    · have hk : l.kind = 1 ∨ l.kind = 4 := by
        by_cases k : l.kind = 1 ∨ l.kind = 4
        · exact k
        · rw [if_neg k, if_neg k2, if_neg k3] at hn'; cases hn'
      refine (inner_self l a len cap w k2 k3).mono ?_
      rintro e' w' ⟨rfl, hb'⟩
      refine ⟨_, rfl, ⟨n, l, x, y, hM, Nat.le_refl _, ?_, hk.elim .inl (fun h => .inr (.inl h))⟩, hb'⟩
      rw [nodesT_some]
      rcases hk with hk | hk
      · rw [hk]; exact (innerS_skip 39 _ _ rfl).symm
      · rw [hk]; exact (innerS_skip 47 _ _ rfl).symm
end Go.Proofs.YtlandjnhhcnbeaaDoor
