/- Plain arithmetic: what is laid as a varint is read again; unlike values, greater values. -/
import Derived.Test.YtgkfbnjccfoaiaaMathU
namespace Go.Proofs.Ytgkfbnjccfoaiaa
set_option linter.unusedVariables false

theorem jn_vint (v : Int) (h0 : 0 ≤ v) : jn (vint v) = v := by
  refine vint_all (P := fun v => 0 ≤ v → jn (vint v) = v) (fun v h h0 => ?_) (fun v h ih h0 => ?_) v h0
  · rw [vint_one h]; simp only [jn]; omega
  · rw [vint_more h]
    simp only [jn]
    rw [ih (by omega)]; omega

theorem vint_inj {v w : Int} (hv : 0 ≤ v) (hw : 0 ≤ w) (h : vint v = vint w) : v = w := by
  rw [← jn_vint v hv, h, jn_vint w hw]

theorem vint_mono (v w : Int) (h : v ≤ w) : (vint v).length ≤ (vint w).length := by
  refine vint_all (P := fun v => ∀ w, v ≤ w → (vint v).length ≤ (vint w).length) (fun v h1 w h => ?_) (fun v h1 ih w h => ?_) v w h
  · rw [vint_one h1]; exact vint_pos w
  · rw [vint_more (v := v) h1, vint_more (v := w) (by omega)]
    have := ih (w / 128) (by omega)
    simp only [List.length_cons]; omega

theorem lead_all (zs : List Int) : ∀ n : Nat, n ≤ zs.length → (∀ i, i < n → 128 ≤ zs.getD i 0) → n ≤ lead zs
  | 0, _, _ => by omega
  | n + 1, h, ha => by
    have ih := lead_all zs n (by omega) (fun i hi => ha i (by omega))
    exact (lead_step zs n ih (by omega)).1 (ha n (by omega))

/-- Of a varint each byte but the last has the bit 128; the last one has it not, and is not 0, but of 0. -/
theorem vint_heads (v : Int) (h0 : 0 ≤ v) : (∀ i, i + 1 < (vint v).length → 128 ≤ (vint v).getD i 0) ∧ (vint v).getD ((vint v).length - 1) 0 < 128 ∧ (1 < (vint v).length → 0 < (vint v).getD ((vint v).length - 1) 0) := by
  refine vint_all (P := fun v => 0 ≤ v → (∀ i, i + 1 < (vint v).length → 128 ≤ (vint v).getD i 0) ∧ (vint v).getD ((vint v).length - 1) 0 < 128 ∧ (1 < (vint v).length → 0 < (vint v).getD ((vint v).length - 1) 0)) (fun v h h0 => ?_) (fun v h ih h0 => ?_) v h0
  · rw [vint_one h]; refine ⟨fun i hi => by simp at hi, by simpa using h, fun hh => by simp at hh⟩
  · have ih := ih (by omega)
    have hp := vint_pos (v / 128)
    rw [vint_more h]
    refine ⟨fun i hi => ?_, ?_, fun _ => ?_⟩
    · cases i with
      | zero => simp only [List.getD_cons_zero]; omega
      | succ i => simp only [List.getD_cons_succ]; exact ih.1 i (by simp at hi; omega)
    · rw [List.length_cons, show (vint (v / 128)).length + 1 - 1 = ((vint (v / 128)).length - 1) + 1 by omega, List.getD_cons_succ]; exact ih.2.1
    · rw [List.length_cons, show (vint (v / 128)).length + 1 - 1 = ((vint (v / 128)).length - 1) + 1 by omega, List.getD_cons_succ]
      by_cases h1 : 1 < (vint (v / 128)).length
      · exact ih.2.2 h1
      · have e1 : (vint (v / 128)).length = 1 := by omega
        have := vint_is1 e1
        rw [vint_one this]; simp; omega

/-- A varint whose last byte is given the bit 128, and a nought behind it, is none. -/
theorem vlen_padded (v z : Int) (h0 : 0 ≤ v) (hz : 128 ≤ z) : vlen ((vint v).set ((vint v).length - 1) z ++ [0]) = 0 := by
  have hp := vint_pos v
  have hh := vint_heads v h0
  generalize hL : (vint v).set ((vint v).length - 1) z ++ [0] = L
  have hlen : L.length = (vint v).length + 1 := by rw [← hL]; simp
  have hall : ∀ i, i < (vint v).length → 128 ≤ L.getD i 0 := by
    intro i hi
    rw [← hL]
    by_cases hi' : i = (vint v).length - 1
    · subst hi'
      simp [List.getD, List.getElem?_append_left, hi]; exact hz
    · have := hh.1 i (by omega)
      simp [List.getD, List.getElem?_append_left, hi, show ¬ (vint v).length - 1 = i by omega] at this ⊢
      exact this
  have hl := lead_all L (vint v).length (by omega) hall
  have h0' : L.getD (vint v).length 0 = 0 := by rw [← hL]; simp [List.getD]
  have hle := lead_is (zs := L) hl (by omega) (by rw [h0']; omega)
  exact vlen_nought hle (by omega) h0'

theorem bytesIn_vint (v : Int) (h0 : 0 ≤ v) : bytesIn (vint v) := vint_byte v h0
theorem bytesIn_append {xs ys : List Int} (hx : bytesIn xs) (hy : bytesIn ys) : bytesIn (xs ++ ys) := fun z hz => by
  rcases List.mem_append.1 hz with h | h
  · exact hx z h
  · exact hy z h
theorem bytesIn_set {xs : List Int} (hx : bytesIn xs) (i : Nat) {z : Int} (h0 : 0 ≤ z) (h1 : z < 256) : bytesIn (xs.set i z) := fun y hy => by
  rcases List.mem_or_eq_of_mem_set hy with h | rfl
  · exact hx y h
  · exact ⟨h0, h1⟩
end Go.Proofs.Ytgkfbnjccfoaiaa
