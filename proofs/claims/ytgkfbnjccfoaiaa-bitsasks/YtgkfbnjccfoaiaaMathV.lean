/- Plain arithmetic: a value as a varint. -/
import Derived.Test.YtgkfbnjccfoaiaaMath
namespace Go.Proofs.Ytgkfbnjccfoaiaa
set_option linter.unusedVariables false

theorem or128_nat : ∀ a < 256, a ||| 128 = a % 128 + 128 := by decide +kernel
theorem not128_nat : ∀ a < 256, (a ||| 128) &&& (255 - 128) = a % 128 := by decide +kernel
theorem or128 (y : Int) : bits .or .u8 (y % 256) 128 = y % 128 + 128 := by
  obtain ⟨n, hn⟩ := Int.eq_ofNat_of_zero_le (show 0 ≤ y % 256 by omega)
  rw [hn]
  have := u8_or_nat n 128 (by omega) (by omega)
  rw [show ((128 : Nat) : Int) = 128 from rfl] at this
  rw [this, or128_nat n (by omega)]; omega
theorem not128 (y : Int) : bits .andNot .u8 (bits .or .u8 (y % 256) 128) 128 = y % 128 := by
  rw [or128]
  obtain ⟨n, hn⟩ := Int.eq_ofNat_of_zero_le (show 0 ≤ y % 256 by omega)
  obtain ⟨m, hm⟩ := Int.eq_ofNat_of_zero_le (show 0 ≤ y % 128 + 128 by omega)
  have := u8_andNot_nat m 128 (by omega) (by omega)
  rw [show ((128 : Nat) : Int) = 128 from rfl] at this
  have e : m = n ||| 128 := by rw [or128_nat n (by omega)]; omega
  rw [hm, this, e, not128_nat n (by omega)]; omega

theorem or128b (y : Int) (h0 : 0 ≤ y) (h1 : y < 256) : bits .or .u8 y 128 = y % 128 + 128 := by
  have := or128 y; rwa [show y % 256 = y by omega] at this
theorem not128' (y : Int) : bits .andNot .u8 (y % 128 + 128) 128 = y % 128 := by rw [← or128]; exact not128 y

/-- The varint of v, so many groups at most. -/
def vintF : Nat → Int → List Int
  | 0, v => [v]
  | n + 1, v => if v < 128 then [v] else (v % 128 + 128) :: vintF n (v / 128)
/-- The varint of v: groups of seven binary digits, the least first, each but the last with the bit 128. -/
def vint (v : Int) : List Int := vintF v.toNat v

theorem vintF_small {v : Int} (h : v < 128) : ∀ n, vintF n v = [v]
  | 0 => rfl
  | n + 1 => by simp [vintF, h]
theorem vintF_fuel : ∀ (n m : Nat) (v : Int), v.toNat ≤ n → v.toNat ≤ m → vintF n v = vintF m v
  | 0, m, v, hn, hm => by rw [vintF_small (by omega), vintF_small (by omega)]
  | n + 1, 0, v, hn, hm => by rw [vintF_small (by omega), vintF_small (by omega)]
  | n + 1, m + 1, v, hn, hm => by
    by_cases h : v < 128
    · rw [vintF_small h, vintF_small h]
    · simp only [vintF, h, if_false]
      rw [vintF_fuel n m (v / 128) (by omega) (by omega)]

theorem vint_one {v : Int} (h : v < 128) : vint v = [v] := vintF_small h _
theorem vint_more {v : Int} (h : 128 ≤ v) : vint v = (v % 128 + 128) :: vint (v / 128) := by
  unfold vint
  obtain ⟨n, hn⟩ : ∃ n, v.toNat = n + 1 := ⟨v.toNat - 1, by omega⟩
  rw [hn]
  simp only [vintF, show ¬ v < 128 by omega, if_false]
  rw [vintF_fuel n _ (v / 128) (by omega) (Nat.le_refl _)]

/-- What holds of values of one group, and of more where it holds of one group less, holds of all. -/
theorem vint_all {P : Int → Prop} (h1 : ∀ v, v < 128 → P v) (h2 : ∀ v, 128 ≤ v → P (v / 128) → P v) (v : Int) : P v := by
  have h : ∀ (n : Nat) (v : Int), v.toNat ≤ n → P v := by
    intro n
    induction n with
    | zero => intro v hv; exact h1 v (by omega)
    | succ n ih =>
      intro v hv
      by_cases h : v < 128
      · exact h1 v h
      · exact h2 v (by omega) (ih (v / 128) (by omega))
  exact h v.toNat v (Nat.le_refl _)

theorem vint_pos (v : Int) : 1 ≤ (vint v).length := by
  by_cases h : v < 128
  · rw [vint_one h]; simp
  · rw [vint_more (by omega)]; simp

theorem vint_len : ∀ (n : Nat) (v : Int), v < 128 ^ (n + 1) → (vint v).length ≤ n + 1
  | 0, v, h => by rw [vint_one (by simpa using h)]; simp
  | n + 1, v, h => by
    by_cases h1 : v < 128
    · rw [vint_one h1]; simp
    · rw [vint_more (by omega), List.length_cons]
      have := vint_len n (v / 128) (by rw [Int.ediv_lt_iff_lt_mul (by omega), ← Int.pow_succ]; exact h)
      omega
theorem vint_ten {v : Int} (h : v < 18446744073709551616) : (vint v).length ≤ 10 := vint_len 9 v (by rw [show (128 : Int) ^ (9 + 1) = 1180591620717411303424 from rfl]; omega)

theorem vint_byte (v : Int) (h0 : 0 ≤ v) : ∀ b ∈ vint v, 0 ≤ b ∧ b < 256 := by
  refine vint_all (P := fun v => 0 ≤ v → ∀ b ∈ vint v, 0 ≤ b ∧ b < 256) (fun v h h0 => ?_) (fun v h ih h0 => ?_) v h0
  · rw [vint_one h]; simp; omega
  · rw [vint_more h]
    intro b hb
    rcases List.mem_cons.1 hb with rfl | hb
    · omega
    · exact ih (by omega) b hb

theorem vint_is1 {x : Int} (h : (vint x).length = 1) : x < 128 := by
  by_cases h1 : x < 128
  · exact h1
  · rw [vint_more (by omega), List.length_cons] at h; have := vint_pos (x / 128); omega
theorem vint_eq1 {x : Int} (h0 : 0 ≤ x) (h : (vint x).length = 1) : vint x = [x % 128] := by
  have := vint_is1 h; rw [vint_one this, show x % 128 = x by omega]
theorem vint_eq2 {x : Int} (h0 : 0 ≤ x) (h : (vint x).length = 2) : vint x = [x % 128 + 128, x / 128 % 128] := by
  by_cases h1 : x < 128
  · rw [vint_one h1] at h; simp at h
  · rw [vint_more (by omega), List.length_cons] at h
    rw [vint_more (by omega), vint_eq1 (by omega) (by omega)]
theorem vint_eq3 {x : Int} (h0 : 0 ≤ x) (h : (vint x).length = 3) : vint x = [x % 128 + 128, x / 128 % 128 + 128, x / 16384 % 128] := by
  by_cases h1 : x < 128
  · rw [vint_one h1] at h; simp at h
  · rw [vint_more (by omega), List.length_cons] at h
    rw [vint_more (by omega), vint_eq2 (by omega) (by omega)]
    rw [show x / 128 / 128 = x / 16384 by omega]
theorem vint_eq4 {x : Int} (h0 : 0 ≤ x) (h : (vint x).length = 4) : vint x = [x % 128 + 128, x / 128 % 128 + 128, x / 16384 % 128 + 128, x / 2097152 % 128] := by
  by_cases h1 : x < 128
  · rw [vint_one h1] at h; simp at h
  · rw [vint_more (by omega), List.length_cons] at h
    rw [vint_more (by omega), vint_eq3 (by omega) (by omega)]
    rw [show x / 128 / 128 = x / 16384 by omega, show x / 128 / 16384 = x / 2097152 by omega]
theorem vint_eq5 {x : Int} (h0 : 0 ≤ x) (h : (vint x).length = 5) : vint x = [x % 128 + 128, x / 128 % 128 + 128, x / 16384 % 128 + 128, x / 2097152 % 128 + 128, x / 268435456 % 128] := by
  by_cases h1 : x < 128
  · rw [vint_one h1] at h; simp at h
  · rw [vint_more (by omega), List.length_cons] at h
    rw [vint_more (by omega), vint_eq4 (by omega) (by omega)]
    rw [show x / 128 / 128 = x / 16384 by omega, show x / 128 / 16384 = x / 2097152 by omega, show x / 128 / 2097152 = x / 268435456 by omega]
theorem vint_eq6 {x : Int} (h0 : 0 ≤ x) (h : (vint x).length = 6) : vint x = [x % 128 + 128, x / 128 % 128 + 128, x / 16384 % 128 + 128, x / 2097152 % 128 + 128, x / 268435456 % 128 + 128, x / 34359738368 % 128] := by
  by_cases h1 : x < 128
  · rw [vint_one h1] at h; simp at h
  · rw [vint_more (by omega), List.length_cons] at h
    rw [vint_more (by omega), vint_eq5 (by omega) (by omega)]
    rw [show x / 128 / 128 = x / 16384 by omega, show x / 128 / 16384 = x / 2097152 by omega, show x / 128 / 2097152 = x / 268435456 by omega, show x / 128 / 268435456 = x / 34359738368 by omega]
theorem vint_eq7 {x : Int} (h0 : 0 ≤ x) (h : (vint x).length = 7) : vint x = [x % 128 + 128, x / 128 % 128 + 128, x / 16384 % 128 + 128, x / 2097152 % 128 + 128, x / 268435456 % 128 + 128, x / 34359738368 % 128 + 128, x / 4398046511104 % 128] := by
  by_cases h1 : x < 128
  · rw [vint_one h1] at h; simp at h
  · rw [vint_more (by omega), List.length_cons] at h
    rw [vint_more (by omega), vint_eq6 (by omega) (by omega)]
    rw [show x / 128 / 128 = x / 16384 by omega, show x / 128 / 16384 = x / 2097152 by omega, show x / 128 / 2097152 = x / 268435456 by omega, show x / 128 / 268435456 = x / 34359738368 by omega, show x / 128 / 34359738368 = x / 4398046511104 by omega]
theorem vint_eq8 {x : Int} (h0 : 0 ≤ x) (h : (vint x).length = 8) : vint x = [x % 128 + 128, x / 128 % 128 + 128, x / 16384 % 128 + 128, x / 2097152 % 128 + 128, x / 268435456 % 128 + 128, x / 34359738368 % 128 + 128, x / 4398046511104 % 128 + 128, x / 562949953421312 % 128] := by
  by_cases h1 : x < 128
  · rw [vint_one h1] at h; simp at h
  · rw [vint_more (by omega), List.length_cons] at h
    rw [vint_more (by omega), vint_eq7 (by omega) (by omega)]
    rw [show x / 128 / 128 = x / 16384 by omega, show x / 128 / 16384 = x / 2097152 by omega, show x / 128 / 2097152 = x / 268435456 by omega, show x / 128 / 268435456 = x / 34359738368 by omega, show x / 128 / 34359738368 = x / 4398046511104 by omega, show x / 128 / 4398046511104 = x / 562949953421312 by omega]
theorem vint_eq9 {x : Int} (h0 : 0 ≤ x) (h : (vint x).length = 9) : vint x = [x % 128 + 128, x / 128 % 128 + 128, x / 16384 % 128 + 128, x / 2097152 % 128 + 128, x / 268435456 % 128 + 128, x / 34359738368 % 128 + 128, x / 4398046511104 % 128 + 128, x / 562949953421312 % 128 + 128, x / 72057594037927936 % 128] := by
  by_cases h1 : x < 128
  · rw [vint_one h1] at h; simp at h
  · rw [vint_more (by omega), List.length_cons] at h
    rw [vint_more (by omega), vint_eq8 (by omega) (by omega)]
    rw [show x / 128 / 128 = x / 16384 by omega, show x / 128 / 16384 = x / 2097152 by omega, show x / 128 / 2097152 = x / 268435456 by omega, show x / 128 / 268435456 = x / 34359738368 by omega, show x / 128 / 34359738368 = x / 4398046511104 by omega, show x / 128 / 4398046511104 = x / 562949953421312 by omega, show x / 128 / 562949953421312 = x / 72057594037927936 by omega]
theorem vint_eq10 {x : Int} (h0 : 0 ≤ x) (h : (vint x).length = 10) : vint x = [x % 128 + 128, x / 128 % 128 + 128, x / 16384 % 128 + 128, x / 2097152 % 128 + 128, x / 268435456 % 128 + 128, x / 34359738368 % 128 + 128, x / 4398046511104 % 128 + 128, x / 562949953421312 % 128 + 128, x / 72057594037927936 % 128 + 128, x / 9223372036854775808 % 128] := by
  by_cases h1 : x < 128
  · rw [vint_one h1] at h; simp at h
  · rw [vint_more (by omega), List.length_cons] at h
    rw [vint_more (by omega), vint_eq9 (by omega) (by omega)]
    rw [show x / 128 / 128 = x / 16384 by omega, show x / 128 / 16384 = x / 2097152 by omega, show x / 128 / 2097152 = x / 268435456 by omega, show x / 128 / 268435456 = x / 34359738368 by omega, show x / 128 / 34359738368 = x / 4398046511104 by omega, show x / 128 / 4398046511104 = x / 562949953421312 by omega, show x / 128 / 562949953421312 = x / 72057594037927936 by omega, show x / 128 / 72057594037927936 = x / 9223372036854775808 by omega]
end Go.Proofs.Ytgkfbnjccfoaiaa
