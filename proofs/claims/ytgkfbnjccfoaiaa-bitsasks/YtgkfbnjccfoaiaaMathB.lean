/- Plain arithmetic: words as bytes. -/
import Derived.Test.YtgkfbnjccfoaiaaMathW
namespace Go.Proofs.Ytgkfbnjccfoaiaa
set_option linter.unusedVariables false

/-- Byte i of words. -/
def byteAt (ws : List Int) (i : Nat) : Int := ws.getD (i / 8) 0 / 2 ^ (8 * (i % 8)) % 256
/-- The first k bytes of words. -/
def bytesUpto (ws : List Int) (k : Nat) : List Int := (List.range k).map (byteAt ws)

theorem bytesUpto_succ (ws : List Int) (k : Nat) : bytesUpto ws (k + 1) = bytesUpto ws k ++ [byteAt ws k] := by simp [bytesUpto, List.range_succ]
theorem bytesUpto_len (ws : List Int) (k : Nat) : (bytesUpto ws k).length = k := by simp [bytesUpto]
theorem bytesUpto_in (ws : List Int) (k : Nat) : bytesIn (bytesUpto ws k) := by
  intro z hz
  simp only [bytesUpto, List.mem_map] at hz
  obtain ⟨i, _, rfl⟩ := hz
  unfold byteAt; omega
theorem bytesUpto_set (ws : List Int) (k n : Nat) (h : k < n) : (bytesUpto ws k ++ List.replicate (n - k) 0).set k (byteAt ws k) = bytesUpto ws (k + 1) ++ List.replicate (n - (k + 1)) 0 := by
  rw [bytesUpto_succ, List.set_append_right _ _ (by rw [bytesUpto_len]; omega), bytesUpto_len, Nat.sub_self, show n - k = (n - (k + 1)) + 1 by omega, List.replicate_succ, List.set_cons_zero]
  simp

/-- Are n bytes the bytes of these words? -/
def bytesOk (ws : List Int) (n : Int) : Prop := 0 ≤ n ∧ n ≤ 8 * ws.length ∧ (n + 7) / 8 = ws.length ∧ (n % 8 ≠ 0 → ws.getD (ws.length - 1) 0 / 2 ^ (8 * (n % 8).toNat) = 0)
def wordsIn (ws : List Int) : Prop := ∀ z ∈ ws, 0 ≤ z ∧ z < 18446744073709551616
theorem wordsIn_get {zs : List Int} (h : wordsIn zs) {i : Nat} (hi : i < zs.length) : 0 ≤ zs.getD i 0 ∧ zs.getD i 0 < 18446744073709551616 := by
  have := h zs[i] (List.getElem_mem hi); simpa [List.getD, hi] using this

theorem leW_digit : ∀ (l : List Int) (m : Nat), bytesIn l → leW l / 256 ^ m % 256 = l.getD m 0
  | [], m, _ => by simp [leW]
  | b :: r, 0, h => by
    have hb := h b (by simp)
    simp only [leW, Int.pow_zero, Int.ediv_one, List.getD_cons_zero]; omega
  | b :: r, m + 1, h => by
    have hb := h b (by simp)
    have ih := leW_digit r m (fun z hz => h z (by simp [hz]))
    rw [List.getD_cons_succ, ← ih]
    have hp : (0 : Int) ≤ 256 := by omega
    rw [Int.pow_succ, Int.mul_comm (256 ^ m) 256, ← Int.ediv_ediv_of_nonneg hp]
    congr 2
    simp only [leW]; omega

theorem pow256_le {k n : Nat} (h : k ≤ n) : (256 : Int) ^ k ≤ 256 ^ n := by
  have e := pow_cast 256 k
  have e' := pow_cast 256 n
  rw [show ((256 : Nat) : Int) = 256 from rfl] at e e'
  rw [e, e']
  have := Nat.pow_le_pow_right (n := 256) (by omega) h
  exact Int.ofNat_le.2 this

theorem leW_high (l : List Int) (m : Nat) (h : bytesIn l) (hm : l.length ≤ m) : leW l / 256 ^ m = 0 := by
  have hb := leW_bd l h
  have hp := pow256_le hm
  exact Int.ediv_eq_zero_of_lt hb.1 (by omega)

theorem pow2_8 (m : Nat) : (2 : Int) ^ (8 * m) = 256 ^ m := by
  have e := pow_cast 2 (8 * m)
  have e' := pow_cast 256 m
  rw [show ((256 : Nat) : Int) = 256 from rfl] at e'
  rw [show ((2 : Nat) : Int) = 2 from rfl] at e
  rw [e, e', Nat.pow_mul]

theorem wordsOf_at (zs : List Int) (j : Nat) (h : j < (zs.length + 7) / 8) : (wordsOf zs).getD j 0 = leW ((zs.drop (8 * j)).take 8) := by
  simp [wordsOf, wordsUpto, List.getD, h]

theorem byteAt_words (zs : List Int) (i : Nat) (hb : bytesIn zs) (h : i / 8 < (zs.length + 7) / 8) : byteAt (wordsOf zs) i = zs.getD i 0 := by
  unfold byteAt
  rw [wordsOf_at zs (i / 8) h, pow2_8, leW_digit _ _ (bytesIn_take (bytesIn_drop hb _) _)]
  simp only [List.getD, List.getElem?_take, List.getElem?_drop, show i % 8 < 8 by omega, if_true]
  rw [show 8 * (i / 8) + i % 8 = i by omega]

theorem bytes_words (zs : List Int) (hb : bytesIn zs) : bytesUpto (wordsOf zs) zs.length = zs := by
  apply List.ext_getElem?
  intro i
  by_cases hi : i < zs.length
  · have := byteAt_words zs i hb (by omega)
    simp [bytesUpto, hi, this]
  · simp [bytesUpto, hi]

theorem words_in (zs : List Int) (hb : bytesIn zs) : wordsIn (wordsOf zs) := by
  intro z hz
  simp only [wordsOf, wordsUpto, List.mem_map] at hz
  obtain ⟨j, _, rfl⟩ := hz
  exact leW_bd8 _ (bytesIn_take (bytesIn_drop hb _) _) (by rw [List.length_take]; omega)

theorem last_word (zs : List Int) (h : 0 < zs.length) : (wordsOf zs).getD ((wordsOf zs).length - 1) 0 = leW (zs.drop (8 * ((zs.length + 7) / 8 - 1))) := by
  rw [wordsOf_len, wordsOf_at zs _ (by omega), List.take_of_length_le (by rw [List.length_drop]; omega)]

/-- Bytes laid as words are read as they were. -/
theorem ok_words (zs : List Int) (hb : bytesIn zs) : bytesOk (wordsOf zs) (zs.length : Int) := by
  refine ⟨by omega, by rw [wordsOf_len]; omega, by rw [wordsOf_len]; omega, fun hr => ?_⟩
  rw [last_word zs (by omega), show ((zs.length : Int) % 8).toNat = zs.length % 8 by omega, pow2_8]
  exact leW_high _ _ (bytesIn_drop hb _) (by rw [List.length_drop]; omega)

/-- Of another length noughts stand there. -/
theorem ok_noughts (zs : List Int) (hb : bytesIn zs) (n : Nat) (h : bytesOk (wordsOf zs) (n : Int)) (i : Nat) (hn : n ≤ i) (hi : i < zs.length) : zs.getD i 0 = 0 := by
  obtain ⟨h0, h1, h2, h3⟩ := h
  rw [wordsOf_len] at h1 h2
  by_cases hr : n % 8 = 0
  · omega
  · have h4 := h3 (by omega)
    rw [last_word zs (by omega), show ((n : Int) % 8).toNat = n % 8 by omega, pow2_8] at h4
    have hd := leW_digit (zs.drop (8 * ((zs.length + 7) / 8 - 1))) (i % 8) (bytesIn_drop hb _)
    have e : i = 8 * ((zs.length + 7) / 8 - 1) + i % 8 := by omega
    have hz : leW (zs.drop (8 * ((zs.length + 7) / 8 - 1))) / 256 ^ (i % 8) = 0 := by
      have hle : n % 8 ≤ i % 8 := by omega
      rw [show i % 8 = n % 8 + (i % 8 - n % 8) by omega, Int.pow_add, ← Int.ediv_ediv_of_nonneg (Int.pow_nonneg (by omega)), h4]
      simp
    rw [hz] at hd
    have : (zs.drop (8 * ((zs.length + 7) / 8 - 1))).getD (i % 8) 0 = zs.getD i 0 := by
      simp only [List.getD, List.getElem?_drop]
      rw [← e]
    rw [← this, ← hd]; rfl
end Go.Proofs.Ytgkfbnjccfoaiaa
