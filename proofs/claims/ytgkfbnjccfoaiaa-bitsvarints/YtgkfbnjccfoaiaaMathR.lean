/- Plain arithmetic for the document's own answers: a group put above those that are there. -/
import Derived.Test.YtgkfbnjccfoaiaaMathT
namespace Go.Proofs.Ytgkfbnjccfoaiaa
set_option linter.unusedVariables false

theorem or_high (x b p : Int) (s : Nat) (hp : p = ((2 ^ s : Nat) : Int)) (hx0 : 0 ≤ x) (hx : x < p) (hb0 : 0 ≤ b) (hb : b % p = 0) (h : x + b < 18446744073709551616) : bits .or .u64 x b = x + b := by
  have h1 := or_sum b x p s hp hb0 hb hx0 hx (by omega)
  obtain ⟨n, rfl⟩ := Int.eq_ofNat_of_zero_le hx0
  obtain ⟨m, rfl⟩ := Int.eq_ofNat_of_zero_le hb0
  rw [u64_or_nat _ _ (by omega) (by omega)] at h1 ⊢
  rw [Nat.or_comm, h1]; omega

theorem and127 (a : Int) (h0 : 0 ≤ a) (h1 : a < 18446744073709551616) : bits .and .u64 a 127 = a % 128 := by
  obtain ⟨n, rfl⟩ := Int.eq_ofNat_of_zero_le h0
  have := u64_and_nat n 127 (by omega) (by omega)
  rw [show ((127 : Nat) : Int) = 127 from rfl] at this
  rw [this, show (127 : Nat) = 2 ^ 7 - 1 from rfl, Nat.and_two_pow_sub_one_eq_mod]; rfl

theorem group_of (y : Int) (h0 : 0 ≤ y) (h1 : y < 18446744073709551616) : bits .or .u64 (bits .and .u64 y 127) 128 % 256 = y % 128 + 128 := by
  rw [and127 y h0 h1, or_high (y % 128) 128 128 7 rfl (by omega) (by omega) (by omega) (by omega) (by omega)]
  omega

theorem and127_u8 (c : Int) (c0 : 0 ≤ c) (c1 : c < 256) : IntKind.u64.wrap (bits .and .u8 c 127) = c % 128 := by
  obtain ⟨n, rfl⟩ := Int.eq_ofNat_of_zero_le c0
  have h2 := u8_and_nat n 127 (by omega) (by omega)
  rw [show ((127 : Nat) : Int) = 127 from rfl] at h2
  rw [h2, show (127 : Nat) = 2 ^ 7 - 1 from rfl, Nat.and_two_pow_sub_one_eq_mod]
  exact IntWalk.u64_in _ ⟨by omega, by omega⟩

theorem take_snoc (zs : List Int) (k : Nat) (h : k < zs.length) : zs.take (k + 1) = zs.take k ++ [zs.getD k 0] := by
  rw [List.take_succ_eq_append_getElem h]; simp [List.getD, h]

theorem jn_take_succ (zs : List Int) (k : Nat) (h : k < zs.length) : jn (zs.take (k + 1)) = jn (zs.take k) + 128 ^ k * (zs.getD k 0 % 128) := by
  rw [take_snoc zs k h, jn_append, List.length_take, show min k zs.length = k by omega]
  simp only [jn]; simp

/-- One round of the document's own Unvarint. -/
theorem jn_round (zs : List Int) (k : Nat) (c : Int) (h : k < zs.length) (hc : zs.getD k 0 = c) (c0 : 0 ≤ c) (c1 : c < 256) (h9 : k < 9 ∨ (k = 9 ∧ c ≤ 1)) :
    bits .or .u64 (jn (zs.take k)) (IntKind.u64.wrap (IntKind.u64.wrap (bits .and .u8 c 127) * 2 ^ (7 * k))) = jn (zs.take (k + 1)) := by
  have hj := jn_bd (zs.take k)
  rw [List.length_take, show min k zs.length = k by omega] at hj
  rw [jn_take_succ zs k h, hc, and127_u8 c c0 c1]
  have e2 : (2 : Int) ^ (7 * k) = ((2 ^ (7 * k) : Nat) : Int) := by have := pow_cast 2 (7 * k); exact this
  have e3 : (128 : Int) ^ k = ((2 ^ (7 * k) : Nat) : Int) := by
    have := pow_cast 128 k
    rw [show ((128 : Nat) : Int) = 128 from rfl] at this
    rw [this, Nat.pow_mul]
  have hc128 : 0 ≤ c % 128 ∧ c % 128 < 128 := by omega
  have hprod : 0 ≤ c % 128 * ((2 ^ (7 * k) : Nat) : Int) ∧ ((2 ^ (7 * k) : Nat) : Int) + c % 128 * ((2 ^ (7 * k) : Nat) : Int) ≤ 18446744073709551616 := by
    rcases h9 with h9 | ⟨rfl, h9⟩
    · have hp : (2 ^ (7 * k) : Nat) ≤ 2 ^ 56 := Nat.pow_le_pow_right (by omega) (by omega)
      rw [show (2 ^ 56 : Nat) = 72057594037927936 from rfl] at hp
      generalize (2 ^ (7 * k) : Nat) = q at *
      have h1 : c % 128 * (q : Int) ≤ 127 * (q : Int) := Int.mul_le_mul_of_nonneg_right (by omega) (by omega)
      have h2 : 0 ≤ c % 128 * (q : Int) := Int.mul_nonneg (by omega) (by omega)
      omega
    · rw [show (2 ^ (7 * 9) : Nat) = 9223372036854775808 from rfl]
      omega
  rw [e3] at hj
  rw [e2, e3]
  have hw : IntKind.u64.wrap (c % 128 * ((2 ^ (7 * k) : Nat) : Int)) = c % 128 * ((2 ^ (7 * k) : Nat) : Int) := IntWalk.u64_in _ ⟨by omega, by omega⟩
  rw [hw, or_high (jn (zs.take k)) (c % 128 * ((2 ^ (7 * k) : Nat) : Int)) _ (7 * k) rfl hj.1 hj.2 hprod.1 (Int.mul_emod_left _ _) (by omega), Int.mul_comm]
end Go.Proofs.Ytgkfbnjccfoaiaa
