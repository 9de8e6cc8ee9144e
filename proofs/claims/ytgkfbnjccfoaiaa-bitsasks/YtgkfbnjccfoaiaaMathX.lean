/- Plain arithmetic: words filled byte by byte; bytes behind the last one. -/
import Derived.Test.YtgkfbnjccfoaiaaMathB
import Derived.Test.YtgkfbnjccfoaiaaMathR
namespace Go.Proofs.Ytgkfbnjccfoaiaa
set_option linter.unusedVariables false

theorem leW_append : ∀ xs ys : List Int, leW (xs ++ ys) = leW xs + 256 ^ xs.length * leW ys
  | [], ys => by simp [leW]
  | b :: r, ys => by
    have := leW_append r ys
    simp only [List.cons_append, leW, List.length_cons, Int.pow_succ]
    rw [this, Int.mul_add, ← Int.mul_assoc, Int.mul_comm 256 (256 ^ r.length)]
    omega

/-- Word j of the first k bytes. -/
def wAt (zs : List Int) (k j : Nat) : Int := leW (((zs.take k).drop (8 * j)).take 8)
/-- The words of the first k bytes, as many as of all. -/
def wPart (zs : List Int) (k : Nat) : List Int := (List.range ((zs.length + 7) / 8)).map (wAt zs k)

theorem wPart_len (zs : List Int) (k : Nat) : (wPart zs k).length = (zs.length + 7) / 8 := by simp [wPart]
theorem wPart_zero (zs : List Int) : wPart zs 0 = List.replicate ((zs.length + 7) / 8) 0 := by
  apply List.ext_getElem?
  intro i
  by_cases h : i < (zs.length + 7) / 8
  · simp [wPart, h, wAt, leW]
  · simp [wPart, h]
theorem wPart_all (zs : List Int) : wPart zs zs.length = wordsOf zs := by
  unfold wPart wordsOf wordsUpto wAt
  rw [List.take_length]

theorem wAt_other (zs : List Int) (k j : Nat) (hk : k < zs.length) (h : j ≠ k / 8) : wAt zs (k + 1) j = wAt zs k j := by
  unfold wAt
  congr 1
  rw [take_snoc zs k hk]
  by_cases hj : j < k / 8
  · rw [List.drop_append_of_le_length (by rw [List.length_take]; omega), List.take_append_of_le_length (by rw [List.length_drop, List.length_take]; omega)]
  · have h8 : k + 1 ≤ 8 * j := by omega
    rw [List.drop_eq_nil_of_le (by rw [List.length_append, List.length_take]; simp; omega), List.drop_eq_nil_of_le (by rw [List.length_take]; omega)]

theorem wAt_this (zs : List Int) (k : Nat) (hk : k < zs.length) : wAt zs (k + 1) (k / 8) = wAt zs k (k / 8) + 256 ^ (k % 8) * zs.getD k 0 ∧ wAt zs k (k / 8) = leW ((zs.take k).drop (8 * (k / 8))) ∧ ((zs.take k).drop (8 * (k / 8))).length = k % 8 := by
  have hl : ((zs.take k).drop (8 * (k / 8))).length = k % 8 := by rw [List.length_drop, List.length_take]; omega
  have e1 : wAt zs k (k / 8) = leW ((zs.take k).drop (8 * (k / 8))) := by unfold wAt; rw [List.take_of_length_le (by omega)]
  refine ⟨?_, e1, hl⟩
  rw [e1]
  unfold wAt
  rw [take_snoc zs k hk, List.drop_append_of_le_length (by rw [List.length_take]; omega), List.take_of_length_le (by rw [List.length_append, hl]; simp; omega), leW_append, hl]
  simp [leW]

theorem wPart_set (zs : List Int) (k : Nat) (hk : k < zs.length) : (wPart zs k).set (k / 8) (wAt zs (k + 1) (k / 8)) = wPart zs (k + 1) := by
  apply List.ext_getElem?
  intro i
  by_cases hi : i < (zs.length + 7) / 8
  · by_cases h : k / 8 = i
    · subst h; simp [wPart, hi]
    · rw [List.getElem?_set_ne h]
      simp [wPart, hi, wAt_other zs k i hk (Ne.symm h)]
  · rw [List.getElem?_eq_none (by rw [List.length_set, wPart_len]; omega), List.getElem?_eq_none (by rw [wPart_len]; omega)]
theorem wPart_at (zs : List Int) (k j : Nat) (hj : j < (zs.length + 7) / 8) : (wPart zs k).getD j 0 = wAt zs k j := by simp [wPart, List.getD, hj]

/-- One round of the document's own Words. -/
theorem word_round (zs : List Int) (k : Nat) (hk : k < zs.length) (hb : bytesIn zs) (z : Int) (hz : zs.getD k 0 = z) :
    bits .or .u64 (wAt zs k (k / 8)) (IntKind.u64.wrap (z * 2 ^ (8 * (k % 8)))) = wAt zs (k + 1) (k / 8) := by
  obtain ⟨h1, h2, h3⟩ := wAt_this zs k hk
  have hzb := bytesIn_get hb hk
  rw [hz] at hzb h1
  have hbd := leW_bd _ (bytesIn_drop (bytesIn_take hb k) (8 * (k / 8)))
  rw [h3, ← h2] at hbd
  rw [h1, pow2_8]
  have e := pow_cast 256 (k % 8)
  rw [show ((256 : Nat) : Int) = 256 from rfl] at e
  have e2 : (256 : Nat) ^ (k % 8) = 2 ^ (8 * (k % 8)) := by rw [Nat.pow_mul]
  have hp : (256 : Nat) ^ (k % 8) ≤ 256 ^ 7 := Nat.pow_le_pow_right (by omega) (by omega)
  rw [show (256 : Nat) ^ 7 = 72057594037927936 from rfl] at hp
  rw [e] at hbd ⊢
  have hm : 0 ≤ z * (((256 : Nat) ^ (k % 8) : Nat) : Int) ∧ z * (((256 : Nat) ^ (k % 8) : Nat) : Int) ≤ 255 * (((256 : Nat) ^ (k % 8) : Nat) : Int) :=
    ⟨Int.mul_nonneg (by omega) (by omega), Int.mul_le_mul_of_nonneg_right (by omega) (by omega)⟩
  have hle : (((256 : Nat) ^ (k % 8) : Nat) : Int) ≤ 72057594037927936 := by omega
  have hw : IntKind.u64.wrap (z * (((256 : Nat) ^ (k % 8) : Nat) : Int)) = z * (((256 : Nat) ^ (k % 8) : Nat) : Int) := IntWalk.u64_in _ ⟨by omega, by omega⟩
  rw [hw, or_high (wAt zs k (k / 8)) _ (((256 : Nat) ^ (k % 8) : Nat) : Int) (8 * (k % 8)) (by rw [e2]) hbd.1 hbd.2 hm.1 (Int.mul_emod_left _ _) (by omega), Int.mul_comm]

theorem digits_zero : ∀ (m : Nat) (y : Int), 0 ≤ y → y < 256 ^ m → (∀ i, i < m → y / 256 ^ i % 256 = 0) → y = 0
  | 0, y, h0, h1, _ => by simp at h1; omega
  | m + 1, y, h0, h1, h => by
    have a := h 0 (by omega)
    simp at a
    have b := digits_zero m (y / 256) (by omega) (by rw [Int.pow_succ] at h1; omega) (fun i hi => by
      have := h (i + 1) (by omega)
      rw [Int.pow_succ, Int.mul_comm (256 ^ i) 256, ← Int.ediv_ediv_of_nonneg (by omega)] at this
      exact this)
    omega

/-- So many bytes are theirs just where noughts stand behind them. -/
theorem behind_iff (ws : List Int) (n : Nat) (hw : wordsIn ws) (hn : (n + 7) / 8 = ws.length) : bytesOk ws (n : Int) ↔ ∀ j, n ≤ j → j < 8 * ws.length → byteAt ws j = 0 := by
  constructor
  · rintro ⟨_, _, _, h3⟩ j h1 h2
    have hr : n % 8 ≠ 0 := by omega
    have h4 := h3 (by omega)
    rw [show ((n : Int) % 8).toNat = n % 8 by omega, pow2_8] at h4
    unfold byteAt
    rw [show j / 8 = ws.length - 1 by omega, pow2_8, show j % 8 = n % 8 + (j % 8 - n % 8) by omega, Int.pow_add, ← Int.ediv_ediv_of_nonneg (Int.pow_nonneg (by omega)), h4]
    simp
  · intro h
    refine ⟨by omega, by omega, by omega, fun hr => ?_⟩
    rw [show ((n : Int) % 8).toNat = n % 8 by omega, pow2_8]
    have hwl := wordsIn_get hw (i := ws.length - 1) (by omega)
    have hp : (0 : Int) < 256 ^ (n % 8) := Int.pow_pos (by omega)
    refine digits_zero (8 - n % 8) _ (Int.ediv_nonneg hwl.1 (by omega)) ?_ ?_
    · rw [Int.ediv_lt_iff_lt_mul hp, ← Int.pow_add, show 8 - n % 8 + n % 8 = 8 by omega]
      exact hwl.2
    · intro i hi
      have hj := h (8 * (ws.length - 1) + (n % 8 + i)) (by omega) (by omega)
      unfold byteAt at hj
      rw [show (8 * (ws.length - 1) + (n % 8 + i)) / 8 = ws.length - 1 by omega, show (8 * (ws.length - 1) + (n % 8 + i)) % 8 = n % 8 + i by omega, pow2_8, Int.pow_add, ← Int.ediv_ediv_of_nonneg (by omega)] at hj
      exact hj

theorem least_behind (ws : List Int) (n : Nat) : ∀ top, (∃ j, n ≤ j ∧ j < top ∧ byteAt ws j ≠ 0) → ∃ J, n ≤ J ∧ J < top ∧ byteAt ws J ≠ 0 ∧ ∀ i, n ≤ i → i < J → byteAt ws i = 0
  | 0, ⟨j, _, h, _⟩ => by omega
  | top + 1, ⟨j, h1, h2, h3⟩ => by
    by_cases h : ∃ j, n ≤ j ∧ j < top ∧ byteAt ws j ≠ 0
    · obtain ⟨J, a, b, c, d⟩ := least_behind ws n top h
      exact ⟨J, a, by omega, c, d⟩
    · refine ⟨j, h1, h2, h3, fun i hi1 hi2 => ?_⟩
      by_cases hz : byteAt ws i = 0
      · exact hz
      · exact absurd ⟨i, hi1, by omega, hz⟩ h
end Go.Proofs.Ytgkfbnjccfoaiaa
