/- dolmenlaw3.made: of a Mold that makes a Fault, of one that makes two at once. -/
import Derived.Test.YtlandjnhhcnbeaaDoorMade
import Derived.Deep.RegionHeld3
namespace Go.Proofs.YtlandjnhhcnbeaaDoor
open Go.RowKit Kit
set_option linter.unusedVariables false

/-- The call's own Mold. -/
def Own5 (w w' : World) (kd nm : Int) (op pa : ByteArray) (a : Option Addr) (len cap : Nat) : Prop :=
  w'.cell? ⟨w.heap.size, 0, none⟩ = some (.int .i64 kd) ∧ w'.cell? ⟨w.heap.size, 1, none⟩ = some (.int .i64 nm) ∧ w'.cell? ⟨w.heap.size, 2, none⟩ = some (.string op) ∧ w'.cell? ⟨w.heap.size, 3, none⟩ = some (.string pa) ∧ w'.cell? ⟨w.heap.size, 4, none⟩ = some (.slice a len cap) ∧ Hid (Below w.heap.size w w')
theorem own5_new (w : World) (kd nm : Int) (op pa : ByteArray) (a : Option Addr) (len cap : Nat) (t : TypeId) : Own5 w (w.alloc (.cells #[.int .i64 kd, .int .i64 nm, .string op, .string pa, .slice a len cap] t)) kd nm op pa a len cap :=
  ⟨by simp, by simp, by simp, by simp, by simp, (Below.refl _ _).alloc (Nat.le_refl _) _⟩
theorem Own5.below {w w1 w2 : World} {kd nm : Int} {op pa : ByteArray} {a : Option Addr} {len cap : Nat} (h : Own5 w w1 kd nm op pa a len cap) (hb : Below w1.heap.size w1 w2) : Own5 w w2 kd nm op pa a len cap :=
  ⟨cell_old hb h.1, cell_old hb h.2.1, cell_old hb h.2.2.1, cell_old hb h.2.2.2.1, cell_old hb h.2.2.2.2.1, bel2e h.2.2.2.2.2.out hb⟩
theorem Own5.drew {w w1 : World} {kd nm : Int} {op pa : ByteArray} {a : Option Addr} {len cap : Nat} (h : Own5 w w1 kd nm op pa a len cap) : Own5 w w1.drew kd nm op pa a len cap :=
  ⟨h.1, h.2.1, h.2.2.1, h.2.2.2.1, h.2.2.2.2.1, h.2.2.2.2.2.out.drew⟩
theorem Own5.out {w w1 : World} {kd nm : Int} {op pa : ByteArray} {a : Option Addr} {len cap : Nat} (h : Own5 w w1 kd nm op pa a len cap) : Below w.heap.size w w1 := h.2.2.2.2.2

theorem keep5 {w w1 w2 : World} {kd nm : Int} {op pa : ByteArray} {a : Option Addr} {len cap : Nat} (hb : Below w1.heap.size w1 w2) (h : w1.cell? ⟨w.heap.size, 0, none⟩ = some (.int .i64 kd) ∧ w1.cell? ⟨w.heap.size, 1, none⟩ = some (.int .i64 nm) ∧ w1.cell? ⟨w.heap.size, 2, none⟩ = some (.string op) ∧ w1.cell? ⟨w.heap.size, 3, none⟩ = some (.string pa) ∧ w1.cell? ⟨w.heap.size, 4, none⟩ = some (.slice a len cap) ∧ Hid (Below w.heap.size w w1)) : w2.cell? ⟨w.heap.size, 0, none⟩ = some (.int .i64 kd) ∧ w2.cell? ⟨w.heap.size, 1, none⟩ = some (.int .i64 nm) ∧ w2.cell? ⟨w.heap.size, 2, none⟩ = some (.string op) ∧ w2.cell? ⟨w.heap.size, 3, none⟩ = some (.string pa) ∧ w2.cell? ⟨w.heap.size, 4, none⟩ = some (.slice a len cap) ∧ Hid (Below w.heap.size w w2) := Own5.below h hb
theorem bel5 {w w1 : World} {kd nm : Int} {op pa : ByteArray} {a : Option Addr} {len cap : Nat} (h : w1.cell? ⟨w.heap.size, 0, none⟩ = some (.int .i64 kd) ∧ w1.cell? ⟨w.heap.size, 1, none⟩ = some (.int .i64 nm) ∧ w1.cell? ⟨w.heap.size, 2, none⟩ = some (.string op) ∧ w1.cell? ⟨w.heap.size, 3, none⟩ = some (.string pa) ∧ w1.cell? ⟨w.heap.size, 4, none⟩ = some (.slice a len cap) ∧ Hid (Below w.heap.size w w1)) : Below w.heap.size w w1 := h.2.2.2.2.2

set_option maxRecDepth 4000 in
set_option maxHeartbeats 4000000 in
theorem made_fault (n : Nat) (l : Lab) (a : Option Addr) (len cap : Nat) (x y : Tr n) (w0 w : World) (HW : Hid (Below w0.heap.size w0 w)) (HM : Hid (MoldAt w0 (n + 1) (moldV l a len cap) (some (l, x, y)))) (hk : l.kind = 2) (HZ : Hid (l.op.size ≤ 1000 ∧ l.path.size ≤ 1000))
    (IH : Hid (∀ (v : Value) (w : World), Below w0.heap.size w0 w → MoldAt w0 n v x → Calls Tryd.prog 11 #[v] w fun e w' => ∃ r, e = .returned r ∧ Hid (Makes w' n r (nodesT n x)) ∧ Below w.heap.size w w')) :
    Calls Tryd.prog 11 #[moldV l a len cap] w fun e w' => ∃ r, e = .returned r ∧ Hid (Makes w' (n + 1) r (faultS l.op l.path (nodesT n x))) ∧ Below w.heap.size w w' := by
  have HK0 : Hid (∀ w2, Below w.heap.size w w2 → Calls Tryd.prog 27 #[moldV l a len cap, .int .i64 0] w2 fun e w' => ∃ v', e = .returned v' ∧ MoldAt w0 n v' x ∧ Below w2.heap.size w2 w') := fun w2 hb => (kid_any0 n _ _ w0 w2 (bel2m HW.out hb) HM.out).1
  obtain ⟨kd, nm, op, pa⟩ := l
  simp only at hk
  subst hk
  have h5 := own5_new w 2 nm op pa a len cap 24
  have H5 : Hid (Own5 w (w.alloc (.cells #[.int .i64 2, .int .i64 nm, .string op, .string pa, .slice a len cap] 24)) 2 nm op pa a len cap) := h5
  obtain ⟨c0, c1, c2, c3, c4, _⟩ := h5
  clear HM
  unfold moldV at *
  go_enter Tryd.func11, Tryd.ntmps11
  go_wp2
  go_region_held3 (fun w' => w'.cell? ⟨w.heap.size, 0, none⟩ = some (.int .i64 2) ∧ w'.cell? ⟨w.heap.size, 1, none⟩ = some (.int .i64 nm) ∧ w'.cell? ⟨w.heap.size, 2, none⟩ = some (.string op) ∧ w'.cell? ⟨w.heap.size, 3, none⟩ = some (.string pa) ∧ w'.cell? ⟨w.heap.size, 4, none⟩ = some (.slice a len cap) ∧ Hid (Below w.heap.size w w')) (first | exact H5.out | exact H5.out.drew | exact keep5 (by assumption) (by assumption))
    (first
      | (go_at_call 27; refine (HK0.out _ (bel5 (by assumption))).mono ?_; rintro e w1 ⟨v1, rfl, hm1, hb1⟩)
      | (go_at_call 11; refine (IH.out _ _ (bel2m HW.out (bel5 (by assumption))) (by assumption)).mono ?_; rintro e w2 ⟨r2, rfl, hr2, hb2⟩)
      | (go_at_call 22; refine (new_makes op pa n _ _ _ (Hid.out (by assumption)) HZ.out.1 HZ.out.2).mono ?_; rintro e w3 ⟨r3, rfl, hr3, hb3⟩))
  rename_i hS
  have HB : Hid (Below w.heap.size w w3) := bel5 hS
  go_wp2
  go_ret
  exact ⟨_, rfl, hr3.out, HB.out⟩

set_option maxRecDepth 4000 in
set_option maxHeartbeats 8000000 in
theorem made_both (n : Nat) (l : Lab) (a : Option Addr) (len cap : Nat) (x y : Tr n) (w0 w : World) (HW : Hid (Below w0.heap.size w0 w)) (HM : Hid (MoldAt w0 (n + 1) (moldV l a len cap) (some (l, x, y)))) (hk : l.kind = 3)
    (IH : Hid (∀ (v : Value) (t : Tr n) (w : World), t = x ∨ t = y → Below w0.heap.size w0 w → MoldAt w0 n v t → Calls Tryd.prog 11 #[v] w fun e w' => ∃ r, e = .returned r ∧ Hid (Makes w' n r (nodesT n t)) ∧ Below w.heap.size w w')) :
    Calls Tryd.prog 11 #[moldV l a len cap] w fun e w' => ∃ r, e = .returned r ∧ Hid (Makes w' (n + 1) r (bothS (nodesT n x) (nodesT n y))) ∧ Below w.heap.size w w' := by
  have HK0 : Hid (∀ w2, Below w.heap.size w w2 → Calls Tryd.prog 27 #[moldV l a len cap, .int .i64 0] w2 fun e w' => ∃ v', e = .returned v' ∧ Hid (MoldAt w0 n v' x) ∧ Below w2.heap.size w2 w') := fun w2 hb => (kid_any0 n _ _ w0 w2 (bel2m HW.out hb) HM.out).1
  have HK1 : Hid (∀ w2, Below w.heap.size w w2 → Calls Tryd.prog 27 #[moldV l a len cap, .int .i64 1] w2 fun e w' => ∃ v', e = .returned v' ∧ Hid (MoldAt w0 n v' y) ∧ Below w2.heap.size w2 w') := fun w2 hb => (kid_any0 n _ _ w0 w2 (bel2m HW.out hb) HM.out).2
  obtain ⟨kd, nm, op, pa⟩ := l
  simp only at hk
  subst hk
  have h5 := own5_new w 3 nm op pa a len cap 24
  have H5 : Hid (Own5 w (w.alloc (.cells #[.int .i64 3, .int .i64 nm, .string op, .string pa, .slice a len cap] 24)) 3 nm op pa a len cap) := h5
  obtain ⟨c0, c1, c2, c3, c4, _⟩ := h5
  clear HM
  unfold moldV at *
  have tok1 : Hid True := trivial
  have tok2 : Hid True := trivial
  go_enter Tryd.func11, Tryd.ntmps11
  go_wp2
  go_region_held3 (fun w' => w'.cell? ⟨w.heap.size, 0, none⟩ = some (.int .i64 3) ∧ w'.cell? ⟨w.heap.size, 1, none⟩ = some (.int .i64 nm) ∧ w'.cell? ⟨w.heap.size, 2, none⟩ = some (.string op) ∧ w'.cell? ⟨w.heap.size, 3, none⟩ = some (.string pa) ∧ w'.cell? ⟨w.heap.size, 4, none⟩ = some (.slice a len cap) ∧ Hid (Below w.heap.size w w')) (first | exact H5.out | exact H5.out.drew | exact keep5 (by assumption) (by assumption))
    (first
      | (go_at_call 27; clear tok1; refine (HK0.out _ (bel5 (by assumption))).mono ?_; rintro e w1 ⟨v1, rfl, hm1, hb1⟩)
      | (go_at_call 27; refine (HK1.out _ (bel5 (by assumption))).mono ?_; rintro e w3 ⟨v3, rfl, hm3, hb3⟩)
      | (go_at_call 11; clear tok2; refine (IH.out v1 x _ (.inl rfl) (bel2m HW.out (bel5 (by assumption))) hm1.out).mono ?_; rintro e w2 ⟨r2, rfl, hr2, hb2⟩)
      | (go_at_call 11; refine (IH.out v3 y _ (.inr rfl) (bel2m HW.out (bel5 (by assumption))) hm3.out).mono ?_; rintro e w4 ⟨r4, rfl, hr4, hb4⟩)
      | (go_at_call 23; refine (both_makes n _ _ _ _ _ ((hr2.out.below hb3).below hb4) hr4.out).mono ?_; rintro e w5 ⟨r5, rfl, hr5, hb5⟩))
  rename_i hS
  have HB : Hid (Below w.heap.size w w5) := bel5 hS
  go_wp2
  go_ret
  exact ⟨_, rfl, hr5.out, HB.out⟩

/-- made of any Mold that is not too great. -/
theorem made_any (w0 : World) : ∀ (n : Nat) (v : Value) (t : Tr n) (w : World), Below w0.heap.size w0 w → MoldAt w0 n v t → bulk n t ≤ 300 →
    Calls Tryd.prog 11 #[v] w fun e w' => ∃ r, e = .returned r ∧ Hid (Makes w' n r (nodesT n t)) ∧ Below w.heap.size w w'
  | 0, v, t, w, hb, h, hk => by
    have hz : v = moldV ⟨0, 0, ⟨#[]⟩, ⟨#[]⟩⟩ none 0 0 := h
    subst hz
    refine (made_leaf 0 ⟨0, 0, ⟨#[]⟩, ⟨#[]⟩⟩ none 0 0 () () w (by decide) (by decide)).mono ?_
    rintro e w' ⟨r, rfl, ⟨ns, h1, h2⟩, hb'⟩
    have hn : ns = [] := by cases ns with
      | nil => rfl
      | cons a b => cases h2
    subst hn
    have := Pre.empty h1
    subst this
    exact ⟨_, rfl, ⟨[], ⟨rfl, rfl⟩, rfl⟩, hb'⟩
  | n + 1, v, none, w, hb, h, hk => by
    have hz : v = moldV ⟨0, 0, ⟨#[]⟩, ⟨#[]⟩⟩ none 0 0 := h
    subst hz
    exact made_leaf n ⟨0, 0, ⟨#[]⟩, ⟨#[]⟩⟩ none 0 0 (Tr.zero n) (Tr.zero n) w (by decide) (by decide)
  | n + 1, v, some (l, x, y), w, hb, h, hk => by
    have hM := h
    obtain ⟨a, len, cap, h1, _⟩ := h
    subst h1
    have hs : 1 + l.op.size + l.path.size + bulk n x + bulk n y ≤ 300 := hk
    by_cases k2 : l.kind = 2
    · have e : nodesT (n + 1) (some (l, x, y)) = faultS l.op l.path (nodesT n x) := by
        rw [nodesT_some, k2]; rfl
      rw [e]
      exact made_fault n l a len cap x y w0 w hb hM k2 ⟨by omega, by omega⟩ (fun v w hb hm => made_any w0 n v x w hb hm (by omega))
    by_cases k3 : l.kind = 3
    · have e : nodesT (n + 1) (some (l, x, y)) = bothS (nodesT n x) (nodesT n y) := by
        rw [nodesT_some, k3]; rfl
      rw [e]
      refine made_both n l a len cap x y w0 w hb hM k3 (fun v t w ht hb hm => made_any w0 n v t w hb hm ?_)
      rcases ht with rfl | rfl
      · omega
      · omega
    · exact made_leaf n l a len cap x y w k2 k3
end Go.Proofs.YtlandjnhhcnbeaaDoor
