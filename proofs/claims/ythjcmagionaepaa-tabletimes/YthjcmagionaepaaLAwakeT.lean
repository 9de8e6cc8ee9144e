/- dolmenlaw11.awake, over any table that is held to the contracts. -/
import Derived.Test.YthjcmagionaepaaKTab
namespace Go.Proofs.Ythjcmagionaepaa
open Go.RowKit Kit
set_option linter.unusedVariables false
variable {T : World → Nat → Nat → (Nat → Prop) → Tb → Prop}

theorem errV_0 : errV 0 = .nilIface := if_pos rfl
def aB : ByteArray := ⟨#[97]⟩
def aw1 : Tb := addT tb0 aB 5 1
def aw2 : Tb := remT aw1 aB 3
def aw3 : Tb := addT aw2 aB 6 3
theorem aw_codes : addC tb0 aB 5 1 = 0 ∧ remC aw1 aB 3 = 0 ∧ addC aw2 aB 6 3 = 0 ∧ addC aw3 ⟨#[98]⟩ 1 2 = 1 := by decide +kernel
theorem aw_find : foundI aw3.rs aB 2 = 5 ∧ foundB aw3.rs aB 2 = true ∧ foundI aw3.rs aB 3 = 6 ∧ foundB aw3.rs aB 3 = true ∧ aw3.last = 3 := by decide +kernel
theorem aw_len : aw1.rs.length ≤ 900 ∧ aw2.rs.length ≤ 900 ∧ aw3.rs.length ≤ 900 := by decide +kernel
theorem aw_inv : Inv aw1 ∧ Inv aw2 ∧ Inv aw3 := by
  have h1 : Inv aw1 := inv_add inv0 _ _ _
  have h2 : Inv aw2 := inv_rem h1 _ _
  exact ⟨h1, h2, inv_add h2 _ _ _⟩
theorem TabK.turn (K : TabK T) {w0 w w' : World} {p B : Nat} {F F' : Nat → Prop} {t : Tb} (hp : T w p B F t) (h0 : Below w0.heap.size w0 w) (hB : w0.heap.size ≤ B) (ht : TurnF F F' w w') : Below w0.heap.size w0 w' :=
  ht.below h0 h0.size fun k hk => Nat.le_trans hB (K.lo hp k hk).1
set_option maxRecDepth 4000 in
set_option maxHeartbeats 4000000 in
theorem awake_any (K : TabK T) (w : World) : Calls Try.prog 4 #[] w fun e w' => e = .returned (.bool true) ∧ Below w.heap.size w w' := by
  have HN : Hid (∀ X, Calls Try.prog 5 #[] X fun x w' => ∃ p F, x = .returned (.pointer (some ⟨p, 0, none⟩)) ∧ Hid (T w' p X.heap.size F tb0 ∧ Below X.heap.size X w')) := fun X => K.new X
  have H1 : Hid (∀ X p F, T X p w.heap.size F tb0 ∧ Below w.heap.size w X → Calls Try.prog 6 #[.pointer (some ⟨p, 0, none⟩), .string ⟨#[97]⟩, .int .i64 5, .int .i64 1] X fun x w' => x = .returned .nilIface ∧ ∃ F', Hid (T w' p w.heap.size F' aw1 ∧ Below w.heap.size w w')) := fun X p F ⟨a, b⟩ =>
    (K.add aB 5 1 a inv0 (by simp [tb0]) (by decide)).mono fun x w' ⟨c, F', d, e⟩ => ⟨by rw [c, aw_codes.1, errV_0], F', d, K.turn a b (Nat.le_refl _) e⟩
  have H2 : Hid (∀ X p F, T X p w.heap.size F aw1 ∧ Below w.heap.size w X → Calls Try.prog 8 #[.pointer (some ⟨p, 0, none⟩), .string ⟨#[97]⟩, .int .i64 3] X fun x w' => x = .returned .nilIface ∧ ∃ F', Hid (T w' p w.heap.size F' aw2 ∧ Below w.heap.size w w')) := fun X p F ⟨a, b⟩ =>
    (K.rem aB 3 a aw_inv.1 aw_len.1 (by decide)).mono fun x w' ⟨c, F', d, e⟩ => ⟨by rw [c, aw_codes.2.1, errV_0], F', d, K.turn a b (Nat.le_refl _) e⟩
  have H3 : Hid (∀ X p F, T X p w.heap.size F aw2 ∧ Below w.heap.size w X → Calls Try.prog 6 #[.pointer (some ⟨p, 0, none⟩), .string ⟨#[97]⟩, .int .i64 6, .int .i64 3] X fun x w' => x = .returned .nilIface ∧ ∃ F', Hid (T w' p w.heap.size F' aw3 ∧ Below w.heap.size w w')) := fun X p F ⟨a, b⟩ =>
    (K.add aB 6 3 a aw_inv.2.1 aw_len.2.1 (by decide)).mono fun x w' ⟨c, F', d, e⟩ => ⟨by rw [c, aw_codes.2.2.1, errV_0], F', d, K.turn a b (Nat.le_refl _) e⟩
  have H4 : Hid (∀ X p F, T X p w.heap.size F aw3 ∧ Below w.heap.size w X → Calls Try.prog 10 #[.pointer (some ⟨p, 0, none⟩), .string ⟨#[97]⟩, .int .i64 2] X fun x w' => x = .returned (.tuple #[.int .i64 5, .bool true]) ∧ Hid (T w' p w.heap.size F aw3 ∧ Below w.heap.size w w')) := fun X p F ⟨a, b⟩ =>
    (K.find aB 2 a aw_inv.2.2 aw_len.2.2 (by decide)).mono fun x w' ⟨c, d⟩ => ⟨by rw [c, aw_find.1, aw_find.2.1], K.below a d, bel_tr b d⟩
  have H5 : Hid (∀ X p F, T X p w.heap.size F aw3 ∧ Below w.heap.size w X → Calls Try.prog 10 #[.pointer (some ⟨p, 0, none⟩), .string ⟨#[97]⟩, .int .i64 3] X fun x w' => x = .returned (.tuple #[.int .i64 6, .bool true]) ∧ Hid (T w' p w.heap.size F aw3 ∧ Below w.heap.size w w')) := fun X p F ⟨a, b⟩ =>
    (K.find aB 3 a aw_inv.2.2 aw_len.2.2 (by decide)).mono fun x w' ⟨c, d⟩ => ⟨by rw [c, aw_find.2.2.1, aw_find.2.2.2.1], K.below a d, bel_tr b d⟩
  have H6 : Hid (∀ X p F, T X p w.heap.size F aw3 ∧ Below w.heap.size w X → Calls Try.prog 12 #[.pointer (some ⟨p, 0, none⟩)] X fun x w' => x = .returned (.int .i64 3) ∧ Hid (T w' p w.heap.size F aw3 ∧ Below w.heap.size w w')) := fun X p F ⟨a, b⟩ =>
    (K.last a).mono fun x w' ⟨c, d⟩ => ⟨by rw [c, aw_find.2.2.2.2], K.below a d, bel_tr b d⟩
  have H7 : Hid (∀ X p F, T X p w.heap.size F aw3 ∧ Below w.heap.size w X → Calls Try.prog 6 #[.pointer (some ⟨p, 0, none⟩), .string ⟨#[98]⟩, .int .i64 1, .int .i64 2] X fun x w' => x = .returned (errV 1) ∧ Hid (Below w.heap.size w w')) := fun X p F ⟨a, b⟩ =>
    (K.add ⟨#[98]⟩ 1 2 a aw_inv.2.2 aw_len.2.2 (by decide)).mono fun x w' ⟨c, F', d, e⟩ => ⟨by rw [c, aw_codes.2.2.2], K.turn a b (Nat.le_refl _) e⟩
  have H8 : Hid (∀ X, Calls Try.prog 9 #[errV 1] X fun e w' => e = .returned (.int .i64 1) ∧ w' = X) := fun X => codeV_any 1 (by simp) X
  go_enter Try.func4, Try.ntmps4
  go_wp2_with (first
    | (go_at_call 9; refine (H8.out _).mono ?_; rintro e w9 ⟨rfl, hw9⟩; subst w9)
    | (go_at_call 6; refine (H7.out _ _ _ G6.out).mono ?_; rintro e w7 ⟨rfl, G7⟩)
    | (go_at_call 12; refine (H6.out _ _ _ G5.out).mono ?_; rintro e w6 ⟨rfl, G6⟩)
    | (go_at_call 10; refine (H5.out _ _ _ G4.out).mono ?_; rintro e w5 ⟨rfl, G5⟩)
    | (go_at_call 10; refine (H4.out _ _ _ G3.out).mono ?_; rintro e w4 ⟨rfl, G4⟩)
    | (go_at_call 6; refine (H3.out _ _ _ G2.out).mono ?_; rintro e w3 ⟨rfl, F3, G3⟩)
    | (go_at_call 8; refine (H2.out _ _ _ G1.out).mono ?_; rintro e w2 ⟨rfl, F2, G2⟩)
    | (go_at_call 6; refine (H1.out _ _ _ G0.out).mono ?_; rintro e w1 ⟨rfl, F1, G1⟩)
    | (go_at_call 5; refine (HN.out _).mono ?_; rintro e w0 ⟨p, F0, rfl, G0⟩))
  go_ret
  exact ⟨rfl, G7.out⟩
end Go.Proofs.Ythjcmagionaepaa
