/- Plain arithmetic: bytes as a word, the least first; bytes as words. -/
import Derived.Test.YtgkfbnjccfoaiaaMathV
namespace Go.Proofs.Ytgkfbnjccfoaiaa
set_option linter.unusedVariables false

/-- Bytes as a number, the least first. -/
def leW : List Int → Int
  | [] => 0
  | b :: r => b + 256 * leW r

/-- The first k words of bytes. -/
def wordsUpto (zs : List Int) (k : Nat) : List Int := (List.range k).map fun j => leW ((zs.drop (8 * j)).take 8)
/-- Bytes as words: eight bytes a word, the least first; noughts behind the last byte. -/
def wordsOf (zs : List Int) : List Int := wordsUpto zs ((zs.length + 7) / 8)

theorem wordsUpto_succ (zs : List Int) (k : Nat) : wordsUpto zs (k + 1) = wordsUpto zs k ++ [leW ((zs.drop (8 * k)).take 8)] := by
  simp [wordsUpto, List.range_succ]
theorem wordsUpto_len (zs : List Int) (k : Nat) : (wordsUpto zs k).length = k := by simp [wordsUpto]
theorem wordsOf_len (zs : List Int) : (wordsOf zs).length = (zs.length + 7) / 8 := wordsUpto_len _ _

def bytesIn (zs : List Int) : Prop := ∀ z ∈ zs, 0 ≤ z ∧ z < 256
theorem bytesIn_get {zs : List Int} (h : bytesIn zs) {i : Nat} (hi : i < zs.length) : 0 ≤ zs.getD i 0 ∧ zs.getD i 0 < 256 := by
  have := h zs[i] (List.getElem_mem hi); simpa [List.getD, hi] using this
theorem bytesIn_drop {zs : List Int} (h : bytesIn zs) (k : Nat) : bytesIn (zs.drop k) := fun z hz => h z (List.mem_of_mem_drop hz)
theorem bytesIn_take {zs : List Int} (h : bytesIn zs) (k : Nat) : bytesIn (zs.take k) := fun z hz => h z (List.mem_of_mem_take hz)

theorem leW_bd : ∀ (l : List Int), bytesIn l → 0 ≤ leW l ∧ leW l < 256 ^ l.length
  | [], _ => by simp [leW]
  | b :: r, h => by
    have ih := leW_bd r (fun z hz => h z (by simp [hz]))
    have hb := h b (by simp)
    simp only [leW, List.length_cons, Int.pow_succ]; omega
theorem leW_bd8 (l : List Int) (h : bytesIn l) (h8 : l.length ≤ 8) : 0 ≤ leW l ∧ leW l < 18446744073709551616 := by
  have := leW_bd l h
  have e := pow_cast 256 l.length
  rw [show ((256 : Nat) : Int) = 256 from rfl] at e
  have k : (256 : Nat) ^ l.length ≤ 256 ^ 8 := Nat.pow_le_pow_right (by omega) h8
  rw [show (256 : Nat) ^ 8 = 18446744073709551616 from rfl] at k
  rw [e] at this
  generalize (256 : Nat) ^ l.length = q at *
  omega

theorem or_zero (y : Int) (h0 : 0 ≤ y) (h1 : y < 18446744073709551616) : bits .or .u64 0 y = y := by
  obtain ⟨n, rfl⟩ := Int.eq_ofNat_of_zero_le h0
  have := u64_or_nat 0 n (by omega) (by omega)
  rw [show ((0 : Nat) : Int) = 0 from rfl] at this
  rw [this, Nat.zero_or]
theorem or_sum (x b p : Int) (s : Nat) (hp : p = ((2 ^ s : Nat) : Int)) (hx0 : 0 ≤ x) (hx : x % p = 0) (hb0 : 0 ≤ b) (hb : b < p) (h : x + b < 18446744073709551616) : bits .or .u64 x b = x + b := by
  have e : x = x / p * p := by have := Int.emod_add_mul_ediv x p; rw [hx, Int.zero_add, Int.mul_comm] at this; exact this.symm
  have h1 := or_add (x / p) b s (Int.ediv_nonneg hx0 (by omega)) hb0 (by rw [← hp]; exact hb) (by rw [← hp, ← e]; exact h)
  rw [← hp, ← e] at h1; exact h1
theorem word_of1 {c0 : Int} (a0 : 0 ≤ c0) (b0 : c0 < 256) : bits .or .u64 0 c0 = leW [c0] := by
  rw [or_zero _ (by omega) (by omega)]
  simp only [leW]; omega
theorem word_of2 {c0 c1 : Int} (a0 : 0 ≤ c0) (b0 : c0 < 256) (a1 : 0 ≤ c1) (b1 : c1 < 256) : bits .or .u64 (bits .or .u64 0 (c1 * 256)) c0 = leW [c0, c1] := by
  rw [or_zero _ (by omega) (by omega),
    or_sum (c1 * 256) (c0) 256 8 rfl (by omega) (by omega) (by omega) (by omega) (by omega)]
  simp only [leW]; omega
theorem word_of3 {c0 c1 c2 : Int} (a0 : 0 ≤ c0) (b0 : c0 < 256) (a1 : 0 ≤ c1) (b1 : c1 < 256) (a2 : 0 ≤ c2) (b2 : c2 < 256) : bits .or .u64 (bits .or .u64 (bits .or .u64 0 (c2 * 65536)) (c1 * 256)) c0 = leW [c0, c1, c2] := by
  rw [or_zero _ (by omega) (by omega),
    or_sum (c2 * 65536) (c1 * 256) 65536 16 rfl (by omega) (by omega) (by omega) (by omega) (by omega),
    or_sum (c2 * 65536 + c1 * 256) (c0) 256 8 rfl (by omega) (by omega) (by omega) (by omega) (by omega)]
  simp only [leW]; omega
theorem word_of4 {c0 c1 c2 c3 : Int} (a0 : 0 ≤ c0) (b0 : c0 < 256) (a1 : 0 ≤ c1) (b1 : c1 < 256) (a2 : 0 ≤ c2) (b2 : c2 < 256) (a3 : 0 ≤ c3) (b3 : c3 < 256) : bits .or .u64 (bits .or .u64 (bits .or .u64 (bits .or .u64 0 (c3 * 16777216)) (c2 * 65536)) (c1 * 256)) c0 = leW [c0, c1, c2, c3] := by
  rw [or_zero _ (by omega) (by omega),
    or_sum (c3 * 16777216) (c2 * 65536) 16777216 24 rfl (by omega) (by omega) (by omega) (by omega) (by omega),
    or_sum (c3 * 16777216 + c2 * 65536) (c1 * 256) 65536 16 rfl (by omega) (by omega) (by omega) (by omega) (by omega),
    or_sum (c3 * 16777216 + c2 * 65536 + c1 * 256) (c0) 256 8 rfl (by omega) (by omega) (by omega) (by omega) (by omega)]
  simp only [leW]; omega
theorem word_of5 {c0 c1 c2 c3 c4 : Int} (a0 : 0 ≤ c0) (b0 : c0 < 256) (a1 : 0 ≤ c1) (b1 : c1 < 256) (a2 : 0 ≤ c2) (b2 : c2 < 256) (a3 : 0 ≤ c3) (b3 : c3 < 256) (a4 : 0 ≤ c4) (b4 : c4 < 256) : bits .or .u64 (bits .or .u64 (bits .or .u64 (bits .or .u64 (bits .or .u64 0 (c4 * 4294967296)) (c3 * 16777216)) (c2 * 65536)) (c1 * 256)) c0 = leW [c0, c1, c2, c3, c4] := by
  rw [or_zero _ (by omega) (by omega),
    or_sum (c4 * 4294967296) (c3 * 16777216) 4294967296 32 rfl (by omega) (by omega) (by omega) (by omega) (by omega),
    or_sum (c4 * 4294967296 + c3 * 16777216) (c2 * 65536) 16777216 24 rfl (by omega) (by omega) (by omega) (by omega) (by omega),
    or_sum (c4 * 4294967296 + c3 * 16777216 + c2 * 65536) (c1 * 256) 65536 16 rfl (by omega) (by omega) (by omega) (by omega) (by omega),
    or_sum (c4 * 4294967296 + c3 * 16777216 + c2 * 65536 + c1 * 256) (c0) 256 8 rfl (by omega) (by omega) (by omega) (by omega) (by omega)]
  simp only [leW]; omega
theorem word_of6 {c0 c1 c2 c3 c4 c5 : Int} (a0 : 0 ≤ c0) (b0 : c0 < 256) (a1 : 0 ≤ c1) (b1 : c1 < 256) (a2 : 0 ≤ c2) (b2 : c2 < 256) (a3 : 0 ≤ c3) (b3 : c3 < 256) (a4 : 0 ≤ c4) (b4 : c4 < 256) (a5 : 0 ≤ c5) (b5 : c5 < 256) : bits .or .u64 (bits .or .u64 (bits .or .u64 (bits .or .u64 (bits .or .u64 (bits .or .u64 0 (c5 * 1099511627776)) (c4 * 4294967296)) (c3 * 16777216)) (c2 * 65536)) (c1 * 256)) c0 = leW [c0, c1, c2, c3, c4, c5] := by
  rw [or_zero _ (by omega) (by omega),
    or_sum (c5 * 1099511627776) (c4 * 4294967296) 1099511627776 40 rfl (by omega) (by omega) (by omega) (by omega) (by omega),
    or_sum (c5 * 1099511627776 + c4 * 4294967296) (c3 * 16777216) 4294967296 32 rfl (by omega) (by omega) (by omega) (by omega) (by omega),
    or_sum (c5 * 1099511627776 + c4 * 4294967296 + c3 * 16777216) (c2 * 65536) 16777216 24 rfl (by omega) (by omega) (by omega) (by omega) (by omega),
    or_sum (c5 * 1099511627776 + c4 * 4294967296 + c3 * 16777216 + c2 * 65536) (c1 * 256) 65536 16 rfl (by omega) (by omega) (by omega) (by omega) (by omega),
    or_sum (c5 * 1099511627776 + c4 * 4294967296 + c3 * 16777216 + c2 * 65536 + c1 * 256) (c0) 256 8 rfl (by omega) (by omega) (by omega) (by omega) (by omega)]
  simp only [leW]; omega
theorem word_of7 {c0 c1 c2 c3 c4 c5 c6 : Int} (a0 : 0 ≤ c0) (b0 : c0 < 256) (a1 : 0 ≤ c1) (b1 : c1 < 256) (a2 : 0 ≤ c2) (b2 : c2 < 256) (a3 : 0 ≤ c3) (b3 : c3 < 256) (a4 : 0 ≤ c4) (b4 : c4 < 256) (a5 : 0 ≤ c5) (b5 : c5 < 256) (a6 : 0 ≤ c6) (b6 : c6 < 256) : bits .or .u64 (bits .or .u64 (bits .or .u64 (bits .or .u64 (bits .or .u64 (bits .or .u64 (bits .or .u64 0 (c6 * 281474976710656)) (c5 * 1099511627776)) (c4 * 4294967296)) (c3 * 16777216)) (c2 * 65536)) (c1 * 256)) c0 = leW [c0, c1, c2, c3, c4, c5, c6] := by
  rw [or_zero _ (by omega) (by omega),
    or_sum (c6 * 281474976710656) (c5 * 1099511627776) 281474976710656 48 rfl (by omega) (by omega) (by omega) (by omega) (by omega),
    or_sum (c6 * 281474976710656 + c5 * 1099511627776) (c4 * 4294967296) 1099511627776 40 rfl (by omega) (by omega) (by omega) (by omega) (by omega),
    or_sum (c6 * 281474976710656 + c5 * 1099511627776 + c4 * 4294967296) (c3 * 16777216) 4294967296 32 rfl (by omega) (by omega) (by omega) (by omega) (by omega),
    or_sum (c6 * 281474976710656 + c5 * 1099511627776 + c4 * 4294967296 + c3 * 16777216) (c2 * 65536) 16777216 24 rfl (by omega) (by omega) (by omega) (by omega) (by omega),
    or_sum (c6 * 281474976710656 + c5 * 1099511627776 + c4 * 4294967296 + c3 * 16777216 + c2 * 65536) (c1 * 256) 65536 16 rfl (by omega) (by omega) (by omega) (by omega) (by omega),
    or_sum (c6 * 281474976710656 + c5 * 1099511627776 + c4 * 4294967296 + c3 * 16777216 + c2 * 65536 + c1 * 256) (c0) 256 8 rfl (by omega) (by omega) (by omega) (by omega) (by omega)]
  simp only [leW]; omega
theorem word_of8 {c0 c1 c2 c3 c4 c5 c6 c7 : Int} (a0 : 0 ≤ c0) (b0 : c0 < 256) (a1 : 0 ≤ c1) (b1 : c1 < 256) (a2 : 0 ≤ c2) (b2 : c2 < 256) (a3 : 0 ≤ c3) (b3 : c3 < 256) (a4 : 0 ≤ c4) (b4 : c4 < 256) (a5 : 0 ≤ c5) (b5 : c5 < 256) (a6 : 0 ≤ c6) (b6 : c6 < 256) (a7 : 0 ≤ c7) (b7 : c7 < 256) : bits .or .u64 (bits .or .u64 (bits .or .u64 (bits .or .u64 (bits .or .u64 (bits .or .u64 (bits .or .u64 (bits .or .u64 0 (c7 * 72057594037927936)) (c6 * 281474976710656)) (c5 * 1099511627776)) (c4 * 4294967296)) (c3 * 16777216)) (c2 * 65536)) (c1 * 256)) c0 = leW [c0, c1, c2, c3, c4, c5, c6, c7] := by
  rw [or_zero _ (by omega) (by omega),
    or_sum (c7 * 72057594037927936) (c6 * 281474976710656) 72057594037927936 56 rfl (by omega) (by omega) (by omega) (by omega) (by omega),
    or_sum (c7 * 72057594037927936 + c6 * 281474976710656) (c5 * 1099511627776) 281474976710656 48 rfl (by omega) (by omega) (by omega) (by omega) (by omega),
    or_sum (c7 * 72057594037927936 + c6 * 281474976710656 + c5 * 1099511627776) (c4 * 4294967296) 1099511627776 40 rfl (by omega) (by omega) (by omega) (by omega) (by omega),
    or_sum (c7 * 72057594037927936 + c6 * 281474976710656 + c5 * 1099511627776 + c4 * 4294967296) (c3 * 16777216) 4294967296 32 rfl (by omega) (by omega) (by omega) (by omega) (by omega),
    or_sum (c7 * 72057594037927936 + c6 * 281474976710656 + c5 * 1099511627776 + c4 * 4294967296 + c3 * 16777216) (c2 * 65536) 16777216 24 rfl (by omega) (by omega) (by omega) (by omega) (by omega),
    or_sum (c7 * 72057594037927936 + c6 * 281474976710656 + c5 * 1099511627776 + c4 * 4294967296 + c3 * 16777216 + c2 * 65536) (c1 * 256) 65536 16 rfl (by omega) (by omega) (by omega) (by omega) (by omega),
    or_sum (c7 * 72057594037927936 + c6 * 281474976710656 + c5 * 1099511627776 + c4 * 4294967296 + c3 * 16777216 + c2 * 65536 + c1 * 256) (c0) 256 8 rfl (by omega) (by omega) (by omega) (by omega) (by omega)]
  simp only [leW]; omega
end Go.Proofs.Ytgkfbnjccfoaiaa
