/- Plain arithmetic: the varint that bytes begin with. -/
import Derived.Test.YtgkfbnjccfoaiaaMathW
namespace Go.Proofs.Ytgkfbnjccfoaiaa
set_option linter.unusedVariables false

/-- How many bytes with the bit 128 stand in front. -/
def lead : List Int → Nat
  | [] => 0
  | b :: r => if 128 ≤ b then lead r + 1 else 0

theorem lead_le : ∀ zs : List Int, lead zs ≤ zs.length
  | [] => by simp [lead]
  | b :: r => by have := lead_le r; simp only [lead, List.length_cons]; split <;> omega

theorem lead_step : ∀ (zs : List Int) (k : Nat), k ≤ lead zs → k < zs.length → (128 ≤ zs.getD k 0 ↔ k + 1 ≤ lead zs)
  | [], k, h, hk => by simp at hk
  | b :: r, 0, h, hk => by
    simp only [lead, List.getD_cons_zero]
    by_cases hb : 128 ≤ b
    · simp [hb]
    · simp [hb]
  | b :: r, k + 1, h, hk => by
    simp only [lead] at h ⊢
    by_cases hb : 128 ≤ b
    · simp only [hb, if_true] at h ⊢
      have := lead_step r k (by omega) (by simpa using hk)
      simp only [List.getD_cons_succ]; omega
    · simp only [hb, if_false] at h; omega

theorem lead_is {zs : List Int} {k : Nat} (h : k ≤ lead zs) (hk : k < zs.length) (hz : zs.getD k 0 < 128) : lead zs = k := by
  have := lead_step zs k h hk; omega

/-- How many bytes the varint has that bytes begin with; 0: they begin with none. -/
def vlen (zs : List Int) : Nat :=
  if zs.length ≤ lead zs ∨ 10 ≤ lead zs then 0
  else if 0 < lead zs ∧ zs.getD (lead zs) 0 = 0 then 0
  else if lead zs = 9 ∧ 1 < zs.getD (lead zs) 0 then 0
  else lead zs + 1

/-- Groups put together, the least first. -/
def jn : List Int → Int
  | [] => 0
  | b :: r => b % 128 + 128 * jn r

/-- The value of the varint that bytes begin with; 0 of none. -/
def vval (zs : List Int) : Int := jn (zs.take (vlen zs))

theorem vlen_le (zs : List Int) : vlen zs ≤ zs.length ∧ vlen zs ≤ 10 := by
  have := lead_le zs; unfold vlen
  split
  · omega
  · split
    · omega
    · split <;> omega

theorem vlen_end {zs : List Int} (h : zs.length ≤ lead zs) : vlen zs = 0 := by simp [vlen, h]
theorem vlen_ten {zs : List Int} (h : 10 ≤ lead zs) : vlen zs = 0 := by simp [vlen, h]
theorem vlen_nought {zs : List Int} {k : Nat} (e : lead zs = k) (h0 : 0 < k) (h : zs.getD k 0 = 0) : vlen zs = 0 := by
  subst e; simp only [vlen, h0, h, and_self, if_true]; split <;> rfl
theorem vlen_great {zs : List Int} {k : Nat} (e : lead zs = k) (h9 : k = 9) (h : 1 < zs.getD k 0) : vlen zs = 0 := by
  subst e; unfold vlen
  split
  · rfl
  · split
    · rfl
    · rw [if_pos ⟨h9, h⟩]
theorem vlen_is {zs : List Int} {k : Nat} (e : lead zs = k) (hk : k < zs.length) (h10 : k < 10) (h0 : ¬ (0 < k ∧ zs.getD k 0 = 0)) (h9 : ¬ (k = 9 ∧ 1 < zs.getD k 0)) : vlen zs = k + 1 := by
  subst e; unfold vlen; rw [if_neg (by omega), if_neg h0, if_neg h9]

theorem jn_bd : ∀ l : List Int, 0 ≤ jn l ∧ jn l < 128 ^ l.length
  | [] => by simp [jn]
  | b :: r => by have := jn_bd r; simp only [jn, List.length_cons, Int.pow_succ]; omega

theorem andNot_low (c : Int) (c0 : 0 ≤ c) (c1 : c < 256) : IntKind.u64.wrap (bits .andNot .u8 c 128) = c % 128 := by
  obtain ⟨n, rfl⟩ := Int.eq_ofNat_of_zero_le c0
  have h2 := u8_andNot_nat n 128 (by omega) (by omega)
  rw [show ((128 : Nat) : Int) = 128 from rfl] at h2
  have h3 : ∀ a < 256, a &&& (255 - 128) = a % 128 := by decide +kernel
  rw [h2, h3 n (by omega)]
  exact IntWalk.u64_in _ ⟨by omega, by omega⟩
theorem or_low7 (x c : Int) (h0 : 0 ≤ x) (h1 : x * 128 + 127 < 18446744073709551616) (c0 : 0 ≤ c) (c1 : c < 256) :
    bits .or .u64 (IntKind.u64.wrap (x * 128)) (IntKind.u64.wrap (bits .andNot .u8 c 128)) = x * 128 + c % 128 := by
  have hw : IntKind.u64.wrap (x * 128) = x * 128 := IntWalk.u64_in _ ⟨by omega, by omega⟩
  rw [hw, andNot_low c c0 c1]
  exact or_sum (x * 128) _ 128 7 rfl (by omega) (by omega) (by omega) (by omega) (by omega)
theorem or_low0 (c : Int) (c0 : 0 ≤ c) (c1 : c < 256) :
    bits .or .u64 0 (IntKind.u64.wrap (bits .andNot .u8 c 128)) = c % 128 := by
  rw [andNot_low c c0 c1]; exact or_zero _ (by omega) (by omega)
theorem jn_of1 {c0 : Int} (a0 : 0 ≤ c0) (b0 : c0 < 256) : bits .or .u64 0 (IntKind.u64.wrap (bits .andNot .u8 c0 128)) = jn [c0] := by
  rw [or_low0 _ a0 (by omega)]
  simp only [jn]; omega
theorem jn_of2 {c0 c1 : Int} (a0 : 0 ≤ c0) (b0 : c0 < 256) (a1 : 0 ≤ c1) (b1 : c1 < 256) : bits .or .u64 (IntKind.u64.wrap (bits .or .u64 0 (IntKind.u64.wrap (bits .andNot .u8 c1 128)) * 128)) (IntKind.u64.wrap (bits .andNot .u8 c0 128)) = jn [c0, c1] := by
  rw [or_low0 _ a1 (by omega),
    or_low7 (c1 % 128) c0 (by omega) (by omega) a0 (by omega)]
  simp only [jn]; omega
theorem jn_of3 {c0 c1 c2 : Int} (a0 : 0 ≤ c0) (b0 : c0 < 256) (a1 : 0 ≤ c1) (b1 : c1 < 256) (a2 : 0 ≤ c2) (b2 : c2 < 256) : bits .or .u64 (IntKind.u64.wrap (bits .or .u64 (IntKind.u64.wrap (bits .or .u64 0 (IntKind.u64.wrap (bits .andNot .u8 c2 128)) * 128)) (IntKind.u64.wrap (bits .andNot .u8 c1 128)) * 128)) (IntKind.u64.wrap (bits .andNot .u8 c0 128)) = jn [c0, c1, c2] := by
  rw [or_low0 _ a2 (by omega),
    or_low7 (c2 % 128) c1 (by omega) (by omega) a1 (by omega),
    or_low7 ((c2 % 128) * 128 + c1 % 128) c0 (by omega) (by omega) a0 (by omega)]
  simp only [jn]; omega
theorem jn_of4 {c0 c1 c2 c3 : Int} (a0 : 0 ≤ c0) (b0 : c0 < 256) (a1 : 0 ≤ c1) (b1 : c1 < 256) (a2 : 0 ≤ c2) (b2 : c2 < 256) (a3 : 0 ≤ c3) (b3 : c3 < 256) : bits .or .u64 (IntKind.u64.wrap (bits .or .u64 (IntKind.u64.wrap (bits .or .u64 (IntKind.u64.wrap (bits .or .u64 0 (IntKind.u64.wrap (bits .andNot .u8 c3 128)) * 128)) (IntKind.u64.wrap (bits .andNot .u8 c2 128)) * 128)) (IntKind.u64.wrap (bits .andNot .u8 c1 128)) * 128)) (IntKind.u64.wrap (bits .andNot .u8 c0 128)) = jn [c0, c1, c2, c3] := by
  rw [or_low0 _ a3 (by omega),
    or_low7 (c3 % 128) c2 (by omega) (by omega) a2 (by omega),
    or_low7 ((c3 % 128) * 128 + c2 % 128) c1 (by omega) (by omega) a1 (by omega),
    or_low7 (((c3 % 128) * 128 + c2 % 128) * 128 + c1 % 128) c0 (by omega) (by omega) a0 (by omega)]
  simp only [jn]; omega
theorem jn_of5 {c0 c1 c2 c3 c4 : Int} (a0 : 0 ≤ c0) (b0 : c0 < 256) (a1 : 0 ≤ c1) (b1 : c1 < 256) (a2 : 0 ≤ c2) (b2 : c2 < 256) (a3 : 0 ≤ c3) (b3 : c3 < 256) (a4 : 0 ≤ c4) (b4 : c4 < 256) : bits .or .u64 (IntKind.u64.wrap (bits .or .u64 (IntKind.u64.wrap (bits .or .u64 (IntKind.u64.wrap (bits .or .u64 (IntKind.u64.wrap (bits .or .u64 0 (IntKind.u64.wrap (bits .andNot .u8 c4 128)) * 128)) (IntKind.u64.wrap (bits .andNot .u8 c3 128)) * 128)) (IntKind.u64.wrap (bits .andNot .u8 c2 128)) * 128)) (IntKind.u64.wrap (bits .andNot .u8 c1 128)) * 128)) (IntKind.u64.wrap (bits .andNot .u8 c0 128)) = jn [c0, c1, c2, c3, c4] := by
  rw [or_low0 _ a4 (by omega),
    or_low7 (c4 % 128) c3 (by omega) (by omega) a3 (by omega),
    or_low7 ((c4 % 128) * 128 + c3 % 128) c2 (by omega) (by omega) a2 (by omega),
    or_low7 (((c4 % 128) * 128 + c3 % 128) * 128 + c2 % 128) c1 (by omega) (by omega) a1 (by omega),
    or_low7 ((((c4 % 128) * 128 + c3 % 128) * 128 + c2 % 128) * 128 + c1 % 128) c0 (by omega) (by omega) a0 (by omega)]
  simp only [jn]; omega
theorem jn_of6 {c0 c1 c2 c3 c4 c5 : Int} (a0 : 0 ≤ c0) (b0 : c0 < 256) (a1 : 0 ≤ c1) (b1 : c1 < 256) (a2 : 0 ≤ c2) (b2 : c2 < 256) (a3 : 0 ≤ c3) (b3 : c3 < 256) (a4 : 0 ≤ c4) (b4 : c4 < 256) (a5 : 0 ≤ c5) (b5 : c5 < 256) : bits .or .u64 (IntKind.u64.wrap (bits .or .u64 (IntKind.u64.wrap (bits .or .u64 (IntKind.u64.wrap (bits .or .u64 (IntKind.u64.wrap (bits .or .u64 (IntKind.u64.wrap (bits .or .u64 0 (IntKind.u64.wrap (bits .andNot .u8 c5 128)) * 128)) (IntKind.u64.wrap (bits .andNot .u8 c4 128)) * 128)) (IntKind.u64.wrap (bits .andNot .u8 c3 128)) * 128)) (IntKind.u64.wrap (bits .andNot .u8 c2 128)) * 128)) (IntKind.u64.wrap (bits .andNot .u8 c1 128)) * 128)) (IntKind.u64.wrap (bits .andNot .u8 c0 128)) = jn [c0, c1, c2, c3, c4, c5] := by
  rw [or_low0 _ a5 (by omega),
    or_low7 (c5 % 128) c4 (by omega) (by omega) a4 (by omega),
    or_low7 ((c5 % 128) * 128 + c4 % 128) c3 (by omega) (by omega) a3 (by omega),
    or_low7 (((c5 % 128) * 128 + c4 % 128) * 128 + c3 % 128) c2 (by omega) (by omega) a2 (by omega),
    or_low7 ((((c5 % 128) * 128 + c4 % 128) * 128 + c3 % 128) * 128 + c2 % 128) c1 (by omega) (by omega) a1 (by omega),
    or_low7 (((((c5 % 128) * 128 + c4 % 128) * 128 + c3 % 128) * 128 + c2 % 128) * 128 + c1 % 128) c0 (by omega) (by omega) a0 (by omega)]
  simp only [jn]; omega
theorem jn_of7 {c0 c1 c2 c3 c4 c5 c6 : Int} (a0 : 0 ≤ c0) (b0 : c0 < 256) (a1 : 0 ≤ c1) (b1 : c1 < 256) (a2 : 0 ≤ c2) (b2 : c2 < 256) (a3 : 0 ≤ c3) (b3 : c3 < 256) (a4 : 0 ≤ c4) (b4 : c4 < 256) (a5 : 0 ≤ c5) (b5 : c5 < 256) (a6 : 0 ≤ c6) (b6 : c6 < 256) : bits .or .u64 (IntKind.u64.wrap (bits .or .u64 (IntKind.u64.wrap (bits .or .u64 (IntKind.u64.wrap (bits .or .u64 (IntKind.u64.wrap (bits .or .u64 (IntKind.u64.wrap (bits .or .u64 (IntKind.u64.wrap (bits .or .u64 0 (IntKind.u64.wrap (bits .andNot .u8 c6 128)) * 128)) (IntKind.u64.wrap (bits .andNot .u8 c5 128)) * 128)) (IntKind.u64.wrap (bits .andNot .u8 c4 128)) * 128)) (IntKind.u64.wrap (bits .andNot .u8 c3 128)) * 128)) (IntKind.u64.wrap (bits .andNot .u8 c2 128)) * 128)) (IntKind.u64.wrap (bits .andNot .u8 c1 128)) * 128)) (IntKind.u64.wrap (bits .andNot .u8 c0 128)) = jn [c0, c1, c2, c3, c4, c5, c6] := by
  rw [or_low0 _ a6 (by omega),
    or_low7 (c6 % 128) c5 (by omega) (by omega) a5 (by omega),
    or_low7 ((c6 % 128) * 128 + c5 % 128) c4 (by omega) (by omega) a4 (by omega),
    or_low7 (((c6 % 128) * 128 + c5 % 128) * 128 + c4 % 128) c3 (by omega) (by omega) a3 (by omega),
    or_low7 ((((c6 % 128) * 128 + c5 % 128) * 128 + c4 % 128) * 128 + c3 % 128) c2 (by omega) (by omega) a2 (by omega),
    or_low7 (((((c6 % 128) * 128 + c5 % 128) * 128 + c4 % 128) * 128 + c3 % 128) * 128 + c2 % 128) c1 (by omega) (by omega) a1 (by omega),
    or_low7 ((((((c6 % 128) * 128 + c5 % 128) * 128 + c4 % 128) * 128 + c3 % 128) * 128 + c2 % 128) * 128 + c1 % 128) c0 (by omega) (by omega) a0 (by omega)]
  simp only [jn]; omega
theorem jn_of8 {c0 c1 c2 c3 c4 c5 c6 c7 : Int} (a0 : 0 ≤ c0) (b0 : c0 < 256) (a1 : 0 ≤ c1) (b1 : c1 < 256) (a2 : 0 ≤ c2) (b2 : c2 < 256) (a3 : 0 ≤ c3) (b3 : c3 < 256) (a4 : 0 ≤ c4) (b4 : c4 < 256) (a5 : 0 ≤ c5) (b5 : c5 < 256) (a6 : 0 ≤ c6) (b6 : c6 < 256) (a7 : 0 ≤ c7) (b7 : c7 < 256) : bits .or .u64 (IntKind.u64.wrap (bits .or .u64 (IntKind.u64.wrap (bits .or .u64 (IntKind.u64.wrap (bits .or .u64 (IntKind.u64.wrap (bits .or .u64 (IntKind.u64.wrap (bits .or .u64 (IntKind.u64.wrap (bits .or .u64 (IntKind.u64.wrap (bits .or .u64 0 (IntKind.u64.wrap (bits .andNot .u8 c7 128)) * 128)) (IntKind.u64.wrap (bits .andNot .u8 c6 128)) * 128)) (IntKind.u64.wrap (bits .andNot .u8 c5 128)) * 128)) (IntKind.u64.wrap (bits .andNot .u8 c4 128)) * 128)) (IntKind.u64.wrap (bits .andNot .u8 c3 128)) * 128)) (IntKind.u64.wrap (bits .andNot .u8 c2 128)) * 128)) (IntKind.u64.wrap (bits .andNot .u8 c1 128)) * 128)) (IntKind.u64.wrap (bits .andNot .u8 c0 128)) = jn [c0, c1, c2, c3, c4, c5, c6, c7] := by
  rw [or_low0 _ a7 (by omega),
    or_low7 (c7 % 128) c6 (by omega) (by omega) a6 (by omega),
    or_low7 ((c7 % 128) * 128 + c6 % 128) c5 (by omega) (by omega) a5 (by omega),
    or_low7 (((c7 % 128) * 128 + c6 % 128) * 128 + c5 % 128) c4 (by omega) (by omega) a4 (by omega),
    or_low7 ((((c7 % 128) * 128 + c6 % 128) * 128 + c5 % 128) * 128 + c4 % 128) c3 (by omega) (by omega) a3 (by omega),
    or_low7 (((((c7 % 128) * 128 + c6 % 128) * 128 + c5 % 128) * 128 + c4 % 128) * 128 + c3 % 128) c2 (by omega) (by omega) a2 (by omega),
    or_low7 ((((((c7 % 128) * 128 + c6 % 128) * 128 + c5 % 128) * 128 + c4 % 128) * 128 + c3 % 128) * 128 + c2 % 128) c1 (by omega) (by omega) a1 (by omega),
    or_low7 (((((((c7 % 128) * 128 + c6 % 128) * 128 + c5 % 128) * 128 + c4 % 128) * 128 + c3 % 128) * 128 + c2 % 128) * 128 + c1 % 128) c0 (by omega) (by omega) a0 (by omega)]
  simp only [jn]; omega
theorem jn_of9 {c0 c1 c2 c3 c4 c5 c6 c7 c8 : Int} (a0 : 0 ≤ c0) (b0 : c0 < 256) (a1 : 0 ≤ c1) (b1 : c1 < 256) (a2 : 0 ≤ c2) (b2 : c2 < 256) (a3 : 0 ≤ c3) (b3 : c3 < 256) (a4 : 0 ≤ c4) (b4 : c4 < 256) (a5 : 0 ≤ c5) (b5 : c5 < 256) (a6 : 0 ≤ c6) (b6 : c6 < 256) (a7 : 0 ≤ c7) (b7 : c7 < 256) (a8 : 0 ≤ c8) (b8 : c8 < 256) : bits .or .u64 (IntKind.u64.wrap (bits .or .u64 (IntKind.u64.wrap (bits .or .u64 (IntKind.u64.wrap (bits .or .u64 (IntKind.u64.wrap (bits .or .u64 (IntKind.u64.wrap (bits .or .u64 (IntKind.u64.wrap (bits .or .u64 (IntKind.u64.wrap (bits .or .u64 (IntKind.u64.wrap (bits .or .u64 0 (IntKind.u64.wrap (bits .andNot .u8 c8 128)) * 128)) (IntKind.u64.wrap (bits .andNot .u8 c7 128)) * 128)) (IntKind.u64.wrap (bits .andNot .u8 c6 128)) * 128)) (IntKind.u64.wrap (bits .andNot .u8 c5 128)) * 128)) (IntKind.u64.wrap (bits .andNot .u8 c4 128)) * 128)) (IntKind.u64.wrap (bits .andNot .u8 c3 128)) * 128)) (IntKind.u64.wrap (bits .andNot .u8 c2 128)) * 128)) (IntKind.u64.wrap (bits .andNot .u8 c1 128)) * 128)) (IntKind.u64.wrap (bits .andNot .u8 c0 128)) = jn [c0, c1, c2, c3, c4, c5, c6, c7, c8] := by
  rw [or_low0 _ a8 (by omega),
    or_low7 (c8 % 128) c7 (by omega) (by omega) a7 (by omega),
    or_low7 ((c8 % 128) * 128 + c7 % 128) c6 (by omega) (by omega) a6 (by omega),
    or_low7 (((c8 % 128) * 128 + c7 % 128) * 128 + c6 % 128) c5 (by omega) (by omega) a5 (by omega),
    or_low7 ((((c8 % 128) * 128 + c7 % 128) * 128 + c6 % 128) * 128 + c5 % 128) c4 (by omega) (by omega) a4 (by omega),
    or_low7 (((((c8 % 128) * 128 + c7 % 128) * 128 + c6 % 128) * 128 + c5 % 128) * 128 + c4 % 128) c3 (by omega) (by omega) a3 (by omega),
    or_low7 ((((((c8 % 128) * 128 + c7 % 128) * 128 + c6 % 128) * 128 + c5 % 128) * 128 + c4 % 128) * 128 + c3 % 128) c2 (by omega) (by omega) a2 (by omega),
    or_low7 (((((((c8 % 128) * 128 + c7 % 128) * 128 + c6 % 128) * 128 + c5 % 128) * 128 + c4 % 128) * 128 + c3 % 128) * 128 + c2 % 128) c1 (by omega) (by omega) a1 (by omega),
    or_low7 ((((((((c8 % 128) * 128 + c7 % 128) * 128 + c6 % 128) * 128 + c5 % 128) * 128 + c4 % 128) * 128 + c3 % 128) * 128 + c2 % 128) * 128 + c1 % 128) c0 (by omega) (by omega) a0 (by omega)]
  simp only [jn]; omega
theorem jn_of10 {c0 c1 c2 c3 c4 c5 c6 c7 c8 c9 : Int} (a0 : 0 ≤ c0) (b0 : c0 < 256) (a1 : 0 ≤ c1) (b1 : c1 < 256) (a2 : 0 ≤ c2) (b2 : c2 < 256) (a3 : 0 ≤ c3) (b3 : c3 < 256) (a4 : 0 ≤ c4) (b4 : c4 < 256) (a5 : 0 ≤ c5) (b5 : c5 < 256) (a6 : 0 ≤ c6) (b6 : c6 < 256) (a7 : 0 ≤ c7) (b7 : c7 < 256) (a8 : 0 ≤ c8) (b8 : c8 < 256) (a9 : 0 ≤ c9) (b9 : c9 < 2) : bits .or .u64 (IntKind.u64.wrap (bits .or .u64 (IntKind.u64.wrap (bits .or .u64 (IntKind.u64.wrap (bits .or .u64 (IntKind.u64.wrap (bits .or .u64 (IntKind.u64.wrap (bits .or .u64 (IntKind.u64.wrap (bits .or .u64 (IntKind.u64.wrap (bits .or .u64 (IntKind.u64.wrap (bits .or .u64 (IntKind.u64.wrap (bits .or .u64 0 (IntKind.u64.wrap (bits .andNot .u8 c9 128)) * 128)) (IntKind.u64.wrap (bits .andNot .u8 c8 128)) * 128)) (IntKind.u64.wrap (bits .andNot .u8 c7 128)) * 128)) (IntKind.u64.wrap (bits .andNot .u8 c6 128)) * 128)) (IntKind.u64.wrap (bits .andNot .u8 c5 128)) * 128)) (IntKind.u64.wrap (bits .andNot .u8 c4 128)) * 128)) (IntKind.u64.wrap (bits .andNot .u8 c3 128)) * 128)) (IntKind.u64.wrap (bits .andNot .u8 c2 128)) * 128)) (IntKind.u64.wrap (bits .andNot .u8 c1 128)) * 128)) (IntKind.u64.wrap (bits .andNot .u8 c0 128)) = jn [c0, c1, c2, c3, c4, c5, c6, c7, c8, c9] := by
  rw [or_low0 _ a9 (by omega),
    or_low7 (c9 % 128) c8 (by omega) (by omega) a8 (by omega),
    or_low7 ((c9 % 128) * 128 + c8 % 128) c7 (by omega) (by omega) a7 (by omega),
    or_low7 (((c9 % 128) * 128 + c8 % 128) * 128 + c7 % 128) c6 (by omega) (by omega) a6 (by omega),
    or_low7 ((((c9 % 128) * 128 + c8 % 128) * 128 + c7 % 128) * 128 + c6 % 128) c5 (by omega) (by omega) a5 (by omega),
    or_low7 (((((c9 % 128) * 128 + c8 % 128) * 128 + c7 % 128) * 128 + c6 % 128) * 128 + c5 % 128) c4 (by omega) (by omega) a4 (by omega),
    or_low7 ((((((c9 % 128) * 128 + c8 % 128) * 128 + c7 % 128) * 128 + c6 % 128) * 128 + c5 % 128) * 128 + c4 % 128) c3 (by omega) (by omega) a3 (by omega),
    or_low7 (((((((c9 % 128) * 128 + c8 % 128) * 128 + c7 % 128) * 128 + c6 % 128) * 128 + c5 % 128) * 128 + c4 % 128) * 128 + c3 % 128) c2 (by omega) (by omega) a2 (by omega),
    or_low7 ((((((((c9 % 128) * 128 + c8 % 128) * 128 + c7 % 128) * 128 + c6 % 128) * 128 + c5 % 128) * 128 + c4 % 128) * 128 + c3 % 128) * 128 + c2 % 128) c1 (by omega) (by omega) a1 (by omega),
    or_low7 (((((((((c9 % 128) * 128 + c8 % 128) * 128 + c7 % 128) * 128 + c6 % 128) * 128 + c5 % 128) * 128 + c4 % 128) * 128 + c3 % 128) * 128 + c2 % 128) * 128 + c1 % 128) c0 (by omega) (by omega) a0 (by omega)]
  simp only [jn]; omega
end Go.Proofs.Ytgkfbnjccfoaiaa
