/- dolmenlaw3.codes: what one call answers. -/
import Derived.Test.YtlandjnhhcnbeaaDoorMade2
import Derived.Test.YtlandjnhhcnbeaaDoorKitStep
namespace Go.Proofs.YtlandjnhhcnbeaaDoor
open Go.RowKit Kit
set_option linter.unusedVariables false

theorem infoI : (Tryd.prog.info? 3).map (fun i => (i.zero, i.size, i.bytes)) = some (some (.int .i64 0), 1, 8) := by kernel_rfl
theorem numsS_fault (op path : ByteArray) (l : List Sh) : numsS (faultS op path l) = numsS l := by
  unfold faultS
  split
  · rename_i h; rw [List.isEmpty_iff.1 h]
  · unfold numsS; simp
theorem numsS_both (a b : List Sh) : numsS (bothS a b) = numsS a ++ numsS b := by
  unfold bothS
  split
  · rename_i h; rw [List.isEmpty_iff.1 h]; rfl
  split
  · rename_i h; rw [List.isEmpty_iff.1 h]; simp [numsS]
  · rw [← numsS_append]; unfold numsS; simp
theorem nums_bulk : ∀ (n : Nat) (t : Tr n), (numsS (nodesT n t)).length ≤ bulk n t
  | 0, _ => by simp [nodesT, numsS]
  | _ + 1, none => by simp [nodesT, numsS]
  | n + 1, some (l, x, y) => by
    have hx := nums_bulk n x
    have hy := nums_bulk n y
    rw [nodesT_some]
    show _ ≤ 1 + l.op.size + l.path.size + bulk n x + bulk n y
    split
    · simp [numsS]; omega
    split
    · rw [numsS_fault]; omega
    split
    · rw [numsS_both, List.length_append]; omega
    split
    · simp [numsS]
    · simp [numsS]
/-- A list of numbers of the call's own. -/
def Ints (w : World) (base : Nat) (v : Value) (zs : List Int) : Prop := RowV w base 3 v (zs.map (Value.int .i64))
theorem Ints.below {w w' : World} {base : Nat} {v : Value} {zs : List Int} (h : Ints w base v zs) (hb : Below w.heap.size w w') : Ints w' base v zs := RowV.below h hb
theorem size5 {w w1 : World} {v : Value} (h : w1.cell? ⟨w.heap.size, 0, none⟩ = some v) : w.heap.size + 1 ≤ w1.heap.size := by
  rcases Nat.lt_or_ge w.heap.size w1.heap.size with h' | h'
  · exact h'
  · simp [World.cell?, Array.getElem?_eq_none h'] at h

set_option maxRecDepth 4000 in
set_option maxHeartbeats 1000000 in
/-- Of a Mold that makes nothing; of one that is no Fault, no pair. -/
theorem codes_leaf (n : Nat) (l : Lab) (a : Option Addr) (len cap : Nat) (x y : Tr n) (w0 w : World) (HW : Hid (Below w0.heap.size w0 w)) (HM : Hid (MoldAt w0 (n + 1) (moldV l a len cap) (some (l, x, y)))) (h : Hid (noneT (n + 1) (some (l, x, y)) = true ∨ l.kind ≠ 2 ∧ l.kind ≠ 3)) :
    Calls Tryd.prog 13 #[moldV l a len cap] w fun e w' => ∃ r, e = .returned r ∧ Hid (Ints w' w.heap.size r (numsS (nodesT (n + 1) (some (l, x, y))))) ∧ Below w.heap.size w w' := by
  have B0 : Hid (Below w.heap.size w (w.alloc (.cells #[.int .i64 l.kind, .int .i64 l.num, .string l.op, .string l.path, .slice a len cap] 24))) := (Below.refl _ _).alloc (Nat.le_refl _) _
  have X : Hid (At5 (w.alloc (.cells #[.int .i64 l.kind, .int .i64 l.num, .string l.op, .string l.path, .slice a len cap] 24)) w.heap.size 0 l a len cap) := box5 w l a len cap _
  have HN : Hid (Calls Tryd.prog 12 _ _ _) := none_any (n + 1) (moldV l a len cap) (some (l, x, y)) _ (HM.out.below (bel2m HW.out B0.out))
  have hE := none_nodes (n + 1) (some (l, x, y))
  have HE : Hid (noneT (n + 1) (some (l, x, y)) = (nodesT (n + 1) (some (l, x, y))).isEmpty) := hE
  have HS : Hid (nodesT (n + 1) (some (l, x, y)) = _) := nodesT_some n l x y
  obtain ⟨kd, nm, op, pa⟩ := l
  clear hE HM
  unfold moldV at *
  go_enter Tryd.func13, Tryd.ntmps13
  go_wp2_with fail
  go_at_call 12
  refine HN.out.mono ?_
  rintro e w1 ⟨rfl, hb⟩
  have B1 : Hid (Below w.heap.size w w1) := bel2m B0.out hb
  obtain ⟨c0, c1, c2, c3, c4⟩ := X.out.below hb
  simp only [Nat.zero_add] at c1 c2 c3 c4
  clear hb X HN B0
  rcases hno : noneT (n + 1) (some (⟨kd, nm, op, pa⟩, x, y)) with _ | _
  · have hk := h.out.resolve_left (by rw [hno]; decide)
    have e2 : (kd == 2) = false := beq_eq_false_iff_ne.2 hk.1
    have e3 : (kd == 3) = false := beq_eq_false_iff_ne.2 hk.2
    by_cases k1 : kd = 1
    · have HR : Hid (numsS (nodesT (n + 1) (some (⟨kd, nm, op, pa⟩, x, y))) = [nm]) := by show _ = _; rw [HS.out, k1]; rfl
      have hk1 : kd = 1 := k1
      clear h hk hno HE HS k1
      subst hk1
      go_wp2
      go_ret
      refine ⟨_, rfl, ?_, B1.out.alloc B1.out.size _⟩
      show Ints _ _ _ _
      rw [HR.out]
      exact rowV_lit w1 w.heap.size 3 [.int .i64 nm] B1.out.size (by simp [maxLen])
    · have e1 : (kd == 1) = false := beq_eq_false_iff_ne.2 k1
      have HR : Hid (numsS (nodesT (n + 1) (some (⟨kd, nm, op, pa⟩, x, y))) = []) := by
        show _ = _
        rw [HS.out]
        simp only [k1, hk.1, hk.2, if_false]
        split
        · rfl
        · rfl
      clear h hk hno HE HS k1
      go_wp2
      go_ret
      refine ⟨_, rfl, ?_, B1.out⟩
      show Ints _ _ _ _
      rw [HR.out]
      exact rowV_nil _ _ _
  · have HR : Hid (numsS (nodesT (n + 1) (some (⟨kd, nm, op, pa⟩, x, y))) = []) := by
      have := HE.out
      rw [hno] at this
      show _ = _
      rw [List.isEmpty_iff.1 this.symm]; rfl
    clear h hno HE HS
    go_wp2
    go_ret
    refine ⟨_, rfl, ?_, B1.out⟩
    show Ints _ _ _ _
    rw [HR.out]
    exact rowV_nil _ _ _

set_option maxRecDepth 4000 in
set_option maxHeartbeats 2000000 in
/-- Of a Mold that makes a Fault. -/
theorem codes_fault (n : Nat) (l : Lab) (a : Option Addr) (len cap : Nat) (x y : Tr n) (w0 w : World) (HW : Hid (Below w0.heap.size w0 w)) (HM : Hid (MoldAt w0 (n + 1) (moldV l a len cap) (some (l, x, y)))) (h : Hid (noneT (n + 1) (some (l, x, y)) = false)) (hk : l.kind = 2)
    (IH : Hid (∀ (v : Value) (t : Tr n) (w : World), t = x ∨ t = y → Below w0.heap.size w0 w → MoldAt w0 n v t → Calls Tryd.prog 13 #[v] w fun e w' => ∃ r, e = .returned r ∧ Hid (Ints w' w.heap.size r (numsS (nodesT n t))) ∧ Below w.heap.size w w')) :
    Calls Tryd.prog 13 #[moldV l a len cap] w fun e w' => ∃ r, e = .returned r ∧ Hid (Ints w' w.heap.size r (numsS (nodesT n x))) ∧ Below w.heap.size w w' := by
  have HK0 : Hid (∀ w2, Below w.heap.size w w2 → Calls Tryd.prog 27 #[moldV l a len cap, .int .i64 0] w2 fun e w' => ∃ v', e = .returned v' ∧ Hid (MoldAt w0 n v' x) ∧ Below w2.heap.size w2 w') := fun w2 hb => (kid_any0 n _ _ w0 w2 (bel2m HW.out hb) HM.out).1
  have H5 : Hid (Own5 w (w.alloc (.cells #[.int .i64 l.kind, .int .i64 l.num, .string l.op, .string l.path, .slice a len cap] 24)) l.kind l.num l.op l.path a len cap) := own5_new w _ _ _ _ _ _ _ _
  have HN : Hid (Calls Tryd.prog 12 _ _ _) := none_any (n + 1) (moldV l a len cap) (some (l, x, y)) _ (HM.out.below (bel2m HW.out H5.out.out))
  obtain ⟨kd, nm, op, pa⟩ := l
  simp only at hk
  subst hk
  clear HM
  unfold moldV at *
  go_enter Tryd.func13, Tryd.ntmps13
  go_wp2_with fail
  go_at_call 12
  refine HN.out.mono ?_
  rintro e w1 ⟨rfl, hb⟩
  rw [h.out]
  have H1 : Hid (Own5 w w1 2 nm op pa a len cap) := H5.out.below hb
  clear hb HN H5 h
  have c := H1.out
  obtain ⟨c0, c1, c2, c3, c4, _⟩ := c
  go_wp2_with fail
  go_at_call 27
  refine (HK0.out w1 H1.out.out).mono ?_
  rintro e w2 ⟨v2, rfl, hm, hb⟩
  have H2 : Hid (Own5 w w2 2 nm op pa a len cap) := H1.out.below hb
  have HX : Hid (Calls Tryd.prog 13 _ _ _) := IH.out v2 x w2 (.inl rfl) (bel2m HW.out H2.out.out) hm.out
  clear hb hm H1 c0 c1 c2 c3 c4 HK0
  go_wp2_with fail
  go_at_call 13
  refine HX.out.mono ?_
  rintro e w3 ⟨r3, rfl, hr, hb⟩
  have HR : Hid (Ints w3 w.heap.size r3 (numsS (nodesT n x)) ∧ Below w.heap.size w w3) := ⟨RowV.mono hr.out (Nat.le_trans (Nat.le_succ _) (size5 H2.out.1)), bel2e H2.out.out hb⟩
  clear hr hb HX H2
  go_wp2
  go_ret
  exact ⟨_, rfl, HR.out⟩

theorem keep5b {w w1 w2 : World} {kd nm : Int} {op pa : ByteArray} {a : Option Addr} {len cap : Nat} (hb : Below (w.heap.size + 1) w1 w2) (h : w1.cell? ⟨w.heap.size, 0, none⟩ = some (.int .i64 kd) ∧ w1.cell? ⟨w.heap.size, 1, none⟩ = some (.int .i64 nm) ∧ w1.cell? ⟨w.heap.size, 2, none⟩ = some (.string op) ∧ w1.cell? ⟨w.heap.size, 3, none⟩ = some (.string pa) ∧ w1.cell? ⟨w.heap.size, 4, none⟩ = some (.slice a len cap) ∧ Hid (Below w.heap.size w w1)) : w2.cell? ⟨w.heap.size, 0, none⟩ = some (.int .i64 kd) ∧ w2.cell? ⟨w.heap.size, 1, none⟩ = some (.int .i64 nm) ∧ w2.cell? ⟨w.heap.size, 2, none⟩ = some (.string op) ∧ w2.cell? ⟨w.heap.size, 3, none⟩ = some (.string pa) ∧ w2.cell? ⟨w.heap.size, 4, none⟩ = some (.slice a len cap) ∧ Hid (Below w.heap.size w w2) := by
  obtain ⟨h0, h1, h2, h3, h4, h5⟩ := h
  have hc : ∀ j, w2.cell? ⟨w.heap.size, j, none⟩ = w1.cell? ⟨w.heap.size, j, none⟩ := fun j => hb.cell (Nat.lt_succ_self _)
  rw [hc, hc, hc, hc, hc]
  exact ⟨h0, h1, h2, h3, h4, h5.out.trans (hb.mono (Nat.le_succ _))⟩
theorem app_len {a b : Nat} (h : a + b ≤ 300) : (a + b) * 16 ≤ 140737488355328 := by omega

set_option maxRecDepth 4000 in
set_option maxHeartbeats 8000000 in
/-- Of a Mold that makes two at once. -/
theorem codes_both (n : Nat) (l : Lab) (a : Option Addr) (len cap : Nat) (x y : Tr n) (w0 w : World) (HW : Hid (Below w0.heap.size w0 w)) (HM : Hid (MoldAt w0 (n + 1) (moldV l a len cap) (some (l, x, y)))) (h : Hid (noneT (n + 1) (some (l, x, y)) = false)) (hk : l.kind = 3) (HL : Hid ((numsS (nodesT n x)).length + (numsS (nodesT n y)).length ≤ 300))
    (IH : Hid (∀ (v : Value) (t : Tr n) (w : World), t = x ∨ t = y → Below w0.heap.size w0 w → MoldAt w0 n v t → Calls Tryd.prog 13 #[v] w fun e w' => ∃ r, e = .returned r ∧ Hid (Ints w' w.heap.size r (numsS (nodesT n t))) ∧ Below w.heap.size w w')) :
    Calls Tryd.prog 13 #[moldV l a len cap] w fun e w' => ∃ r, e = .returned r ∧ Hid (Ints w' w.heap.size r (numsS (nodesT n x) ++ numsS (nodesT n y))) ∧ Below w.heap.size w w' := by
  have HK0 : Hid (∀ w2, Below w.heap.size w w2 → Calls Tryd.prog 27 #[moldV l a len cap, .int .i64 0] w2 fun e w' => ∃ v', e = .returned v' ∧ Hid (MoldAt w0 n v' x) ∧ Below w2.heap.size w2 w') := fun w2 hb => (kid_any0 n _ _ w0 w2 (bel2m HW.out hb) HM.out).1
  have HK1 : Hid (∀ w2, Below w.heap.size w w2 → Calls Tryd.prog 27 #[moldV l a len cap, .int .i64 1] w2 fun e w' => ∃ v', e = .returned v' ∧ Hid (MoldAt w0 n v' y) ∧ Below w2.heap.size w2 w') := fun w2 hb => (kid_any0 n _ _ w0 w2 (bel2m HW.out hb) HM.out).2
  have H5 : Hid (Own5 w (w.alloc (.cells #[.int .i64 l.kind, .int .i64 l.num, .string l.op, .string l.path, .slice a len cap] 24)) l.kind l.num l.op l.path a len cap) := own5_new w _ _ _ _ _ _ _ _
  have HN : Hid (Calls Tryd.prog 12 _ _ _) := none_any (n + 1) (moldV l a len cap) (some (l, x, y)) _ (HM.out.below (bel2m HW.out H5.out.out))
  obtain ⟨kd, nm, op, pa⟩ := l
  simp only at hk
  subst hk
  have HC : Hid (∀ (v : Value) (t : Tr n) (w1 : World), t = x ∨ t = y → (w1.cell? ⟨w.heap.size, 0, none⟩ = some (.int .i64 3) ∧ w1.cell? ⟨w.heap.size, 1, none⟩ = some (.int .i64 nm) ∧ w1.cell? ⟨w.heap.size, 2, none⟩ = some (.string op) ∧ w1.cell? ⟨w.heap.size, 3, none⟩ = some (.string pa) ∧ w1.cell? ⟨w.heap.size, 4, none⟩ = some (.slice a len cap) ∧ Hid (Below w.heap.size w w1)) → MoldAt w0 n v t → Calls Tryd.prog 13 #[v] w1 fun e w' => ∃ r, e = .returned r ∧ Hid (Ints w' (w.heap.size + 1) r (numsS (nodesT n t))) ∧ Below w1.heap.size w1 w') := fun v t w1 ht ho hm => by
    refine (IH.out v t w1 ht (bel2m HW.out (bel5 ho)) hm).mono ?_
    rintro e w' ⟨r, rfl, hr, hb⟩
    exact ⟨r, rfl, RowV.mono hr.out (size5 ho.1), hb⟩
  clear HM IH
  have tok1 : Hid True := trivial
  have tok2 : Hid True := trivial
  unfold moldV at *
  go_enter Tryd.func13, Tryd.ntmps13
  go_wp2_with fail
  go_at_call 12
  refine HN.out.mono ?_
  rintro e w1 ⟨rfl, hb⟩
  rw [h.out]
  have H1 : Hid (Own5 w w1 3 nm op pa a len cap) := H5.out.below hb
  clear hb HN H5 h
  have c := H1.out
  obtain ⟨c0, c1, c2, c3, c4, _⟩ := c
  go_wp2
  go_region_held3 (fun w' => w'.cell? ⟨w.heap.size, 0, none⟩ = some (.int .i64 3) ∧ w'.cell? ⟨w.heap.size, 1, none⟩ = some (.int .i64 nm) ∧ w'.cell? ⟨w.heap.size, 2, none⟩ = some (.string op) ∧ w'.cell? ⟨w.heap.size, 3, none⟩ = some (.string pa) ∧ w'.cell? ⟨w.heap.size, 4, none⟩ = some (.slice a len cap) ∧ Hid (Below w.heap.size w w')) (first | exact H1.out | exact H1.out.drew | exact keep5 (by assumption) (by assumption) | exact keep5b (by assumption) (by assumption))
    (first
      | (go_at_call 27; clear tok1; refine (HK0.out _ (bel5 (by assumption))).mono ?_; rintro e w2 ⟨v2, rfl, hm2, hb2⟩)
      | (go_at_call 27; refine (HK1.out _ (bel5 (by assumption))).mono ?_; rintro e w4 ⟨v4, rfl, hm4, hb4⟩)
      | (go_at_call 13; clear tok2; refine (HC.out v2 x _ (.inl rfl) (by assumption) hm2.out).mono ?_; rintro e w3 ⟨r3, rfl, hr3, hb3⟩)
      | (go_at_call 13; refine (HC.out v4 y _ (.inr rfl) (by assumption) hm4.out).mono ?_; rintro e w5 ⟨r5, rfl, hr5, hb5⟩)
      | (refine step_appV Tryd.underlying25 infoI rfl (by decide) (by rfl) _ _ (by rfl) (w.heap.size + 1) r3 _ (by rfl) ((hr3.out.below hb4).below hb5) r5 _ (by rfl) (RowV.sees hr5.out) (ints_one _ _) (by rw [List.length_map, List.length_map]; exact app_len HL.out) (size5 (And.left (by assumption))) ?_; intro r6 w6 hr6 hb6))
  rename_i hS
  have HB : Hid (Below w.heap.size w w6) := bel5 hS
  have HR : Hid (Ints w6 w.heap.size r6 (numsS (nodesT n x) ++ numsS (nodesT n y))) := by
    show RowV _ _ _ _ _
    rw [List.map_append]
    exact hr6.mono (Nat.le_succ _)
  clear hr6 hb6
  go_wp2
  go_ret
  exact ⟨_, rfl, HR.out, HB.out⟩

/-- codes of any Mold that is not too great. -/
theorem codes_any (w0 : World) : ∀ (n : Nat) (v : Value) (t : Tr n) (w : World), Below w0.heap.size w0 w → MoldAt w0 n v t → bulk n t ≤ 300 →
    Calls Tryd.prog 13 #[v] w fun e w' => ∃ r, e = .returned r ∧ Hid (Ints w' w.heap.size r (numsS (nodesT n t))) ∧ Below w.heap.size w w'
  | 0, v, t, w, hb, h, hk => by
    have hz : v = moldV ⟨0, 0, ⟨#[]⟩, ⟨#[]⟩⟩ none 0 0 := h
    subst hz
    exact codes_leaf 0 ⟨0, 0, ⟨#[]⟩, ⟨#[]⟩⟩ none 0 0 () () w0 w hb ⟨none, 0, 0, rfl, Nat.zero_le _, Nat.zero_le _, Nat.le_refl _, Nat.zero_le _, fun _ => rfl, fun _ => rfl, fun h => absurd h (by omega)⟩ (.inl rfl)
  | n + 1, v, none, w, hb, h, hk => by
    have hz : v = moldV ⟨0, 0, ⟨#[]⟩, ⟨#[]⟩⟩ none 0 0 := h
    subst hz
    exact codes_leaf n ⟨0, 0, ⟨#[]⟩, ⟨#[]⟩⟩ none 0 0 (Tr.zero n) (Tr.zero n) w0 w hb ⟨none, 0, 0, rfl, Nat.zero_le _, Nat.zero_le _, Nat.le_refl _, Nat.zero_le _, fun _ => rfl, fun _ => rfl, fun h => absurd h (by omega)⟩ (.inr ⟨by decide, by decide⟩)
  | n + 1, v, some (l, x, y), w, hb, h, hk => by
    have hM := h
    obtain ⟨a, len, cap, h1, _⟩ := h
    subst h1
    have hs : 1 + l.op.size + l.path.size + bulk n x + bulk n y ≤ 300 := hk
    have ih : ∀ (v : Value) (t : Tr n) (w : World), t = x ∨ t = y → Below w0.heap.size w0 w → MoldAt w0 n v t → Calls Tryd.prog 13 #[v] w fun e w' => ∃ r, e = .returned r ∧ Hid (Ints w' w.heap.size r (numsS (nodesT n t))) ∧ Below w.heap.size w w' := fun v t w ht hb hm => codes_any w0 n v t w hb hm (by rcases ht with rfl | rfl <;> omega)
    by_cases ho : noneT (n + 1) (some (l, x, y)) = true ∨ l.kind ≠ 2 ∧ l.kind ≠ 3
    · exact codes_leaf n l a len cap x y w0 w hb hM ho
    · have hn : noneT (n + 1) (some (l, x, y)) = false := by
        rcases hh : noneT (n + 1) (some (l, x, y)) with _ | _
        · rfl
        · exact absurd (.inl hh) ho
      by_cases k2 : l.kind = 2
      · have e : nodesT (n + 1) (some (l, x, y)) = faultS l.op l.path (nodesT n x) := by rw [nodesT_some, k2]; rfl
        rw [e, numsS_fault]
        exact codes_fault n l a len cap x y w0 w hb hM hn k2 ih
      · have k3 : l.kind = 3 := by
          by_cases k3 : l.kind = 3
          · exact k3
          · exact absurd (.inr ⟨k2, k3⟩) ho
        have e : nodesT (n + 1) (some (l, x, y)) = bothS (nodesT n x) (nodesT n y) := by rw [nodesT_some, k3]; rfl
        rw [e, numsS_both]
        have b1 := nums_bulk n x
        have b2 := nums_bulk n y
        exact codes_both n l a len cap x y w0 w hb hM hn k3 (by show _ ≤ _; omega) ih
end Go.Proofs.YtlandjnhhcnbeaaDoor
