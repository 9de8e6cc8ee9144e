/- dolmenref5.Texts: are two lists of texts alike? -/
import Derived.Test.YthjcmagionaepaaGreatRSorted
namespace Go.Proofs.YthjcmagionaepaaGreat
open Go.RowKit Kit
set_option linter.unusedVariables false

theorem ret_bool {a b : Bool} (h : Hid (a = b)) : Ending.returned (.bool b) = .returned (.bool a) := by rw [h.out]
theorem alike_all {l m : List ByteArray} (hl : l.length = m.length) (h : ∀ j, j < l.length → l.getD j ⟨#[]⟩ = m.getD j ⟨#[]⟩) : l = m := by
  apply List.ext_getElem hl
  intro i h1 h2
  have := h i h1
  simpa [List.getD, h1, h2] using this

set_option maxRecDepth 4000 in
set_option maxHeartbeats 2000000 in
theorem texts_any (x y : Value) (l m : List ByteArray) (w : World) (hx : Sees w x (strs l)) (hy : Sees w y (strs m)) :
    Calls Tryz.prog 14 #[x, y] w fun e w' => e = .returned (.bool (decide (l = m))) ∧ Below w.heap.size w w' := by
  obtain ⟨ao, cap, rfl, h1, h2, h3, h4⟩ := hx
  obtain ⟨bo, cap', rfl, g1, g2, g3, g4⟩ := hy
  simp only [strs_len] at *
  by_cases hl : l.length = m.length
  · have hm : (l.length : Int) ≤ 9223372036854775807 := by unfold maxLen at h2; omega
    rw [← hl]
    have HL : Hid (l.length = m.length) := hl
    have H4 : Hid (_ → _) := h4
    have G4 : Hid (_ → _) := g4
    clear h1 h2 h3 g1 g2 g3 hl h4 g4
    go_enter Tryz.func14, Tryz.ntmps14
    go_wp2
    go_loopw [5] (fun i wr => ∃ k : Nat, k ≤ l.length ∧ i = .int .i64 (k : Int) ∧ Hid (∀ j, j < k → l.getD j ⟨#[]⟩ = m.getD j ⟨#[]⟩) ∧ Hid (Below w.heap.size w wr)) (fun i _ => l.length - (intOf i).toNat)
    case atStart => exact ⟨0, Nat.zero_le _, rfl, fun j hj => absurd hj (Nat.not_lt_zero _), Below.refl _ _⟩
    case round =>
      obtain ⟨k, hk, rfl, HE, HB⟩ := hrel
      by_cases hlt : k < l.length
      · obtain ⟨b, off, rfl, hbl, hc⟩ := H4.out (by omega)
        obtain ⟨b', off', rfl, hbl', hc'⟩ := G4.out (by have := HL.out; omega)
        have c0 := (HB.out.cell (by exact hbl)).trans (hc k _ (strs_at l k hlt))
        have c1 := (HB.out.cell (by exact hbl')).trans (hc' k _ (strs_at m k (by have := HL.out; omega)))
        have i0 : (k : Int) < (l.length : Int) := by omega
        have i2 : (0 : Int) ≤ (k : Int) := by omega
        clear hc hc' hbl hbl'
        obtain ⟨x, hx⟩ : ∃ x, l.getD k ⟨#[]⟩ = x := ⟨_, rfl⟩
        obtain ⟨y, hy⟩ : ∃ y, m.getD k ⟨#[]⟩ = y := ⟨_, rfl⟩
        rw [hx] at c0
        rw [hy] at c1
        have HXY : Hid (l.getD k ⟨#[]⟩ = x ∧ m.getD k ⟨#[]⟩ = y) := ⟨hx, hy⟩
        clear hx hy
        by_cases he : x = y
        · subst he
          have HE2 : Hid (∀ j, j < k + 1 → l.getD j ⟨#[]⟩ = m.getD j ⟨#[]⟩) := fun j hj => by
            by_cases hj2 : j = k
            · subst hj2; exact HXY.out.1.trans HXY.out.2.symm
            · exact HE.out j (by omega)
          clear HE HXY
          go_wp2
          go_region
          go_wp2
          go_roundw
          case rel => exact ⟨k + 1, by omega, by simp, HE2.out, HB.out.drew⟩
          case measure => simp [intOf]; omega
        · have hq := bytes_eq x y
          rw [decide_eq_false he] at hq
          have HR : Hid (decide (l = m) = false) := by
            refine decide_eq_false ?_
            intro e
            have h1 := HXY.out.1
            rw [e] at h1
            exact he (h1.symm.trans HXY.out.2)
          clear he HE HXY
          go_wp2
          go_region
          go_wp2
          go_ret
          exact ⟨ret_bool HR, HB.out.drew⟩
      · have hkl : k = l.length := by omega
        subst hkl
        have HR : Hid (decide (l = m) = true) := decide_eq_true (alike_all HL.out HE.out)
        clear HE
        go_wp2
        go_ret
        exact ⟨ret_bool HR, HB.out⟩
  · have hb : ((l.length : Int) == (m.length : Int)) = false := beq_eq_false_iff_ne.2 (by omega)
    have HR : Hid (decide (l = m) = false) := decide_eq_false (by intro e; exact hl (by rw [e]))
    clear h1 h2 h3 g1 g2 g3 h4 g4
    go_enter Tryz.func14, Tryz.ntmps14
    go_wp2
    go_ret
    exact ⟨ret_bool HR, Below.refl _ _⟩
end Go.Proofs.YthjcmagionaepaaGreat
