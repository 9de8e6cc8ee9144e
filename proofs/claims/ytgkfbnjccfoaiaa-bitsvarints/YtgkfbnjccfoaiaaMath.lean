/- Plain arithmetic: bit operations on words and bytes as sums; a word's bytes turned round. -/
import Derived.Laws.BitsAllLaws
import Derived.WalkKit
namespace Go.Proofs.Ytgkfbnjccfoaiaa
set_option linter.unusedVariables false

theorem pow_cast (b k : Nat) : ((b : Int) ^ k) = ((b ^ k : Nat) : Int) := by rw [Int.natCast_pow]

theorem or_add (a b : Int) (s : Nat) (ha : 0 ≤ a) (hb0 : 0 ≤ b) (hb : b < ((2 ^ s : Nat) : Int)) (h : a * ((2 ^ s : Nat) : Int) + b < 18446744073709551616) : bits .or .u64 (a * ((2 ^ s : Nat) : Int)) b = a * ((2 ^ s : Nat) : Int) + b := by
  obtain ⟨n, rfl⟩ := Int.eq_ofNat_of_zero_le ha
  obtain ⟨m, rfl⟩ := Int.eq_ofNat_of_zero_le hb0
  have hm : m < 2 ^ s := by exact_mod_cast hb
  rw [← Int.natCast_mul] at h ⊢
  have h' : n * 2 ^ s + m < 18446744073709551616 := by
    generalize n * 2 ^ s = q at h
    omega
  rw [u64_or_nat _ _ (by omega) (by omega)]
  have := Nat.shiftLeft_add_eq_or_of_lt hm n
  rw [Nat.shiftLeft_eq] at this
  rw [← this]; simp

theorem and255 (a : Int) (h0 : 0 ≤ a) (h1 : a < 18446744073709551616) : bits .and .u64 a 255 = a % 256 := by
  obtain ⟨n, rfl⟩ := Int.eq_ofNat_of_zero_le h0
  have := u64_and_nat n 255 (by omega) (by omega)
  rw [show ((255 : Nat) : Int) = 255 from rfl] at this
  rw [this, show (255 : Nat) = 2 ^ 8 - 1 from rfl, Nat.and_two_pow_sub_one_eq_mod]; rfl

/-- What Turn has gathered behind k rounds. -/
def tOut (x : Int) : Nat → Int
  | 0 => 0
  | k + 1 => tOut x k * 256 + x / 256 ^ k % 256

theorem tOut_bd (x : Int) : ∀ k, 0 ≤ tOut x k ∧ tOut x k < 256 ^ k
  | 0 => by simp [tOut]
  | k + 1 => by
    have := tOut_bd x k
    have h : 0 ≤ x / 256 ^ k % 256 ∧ x / 256 ^ k % 256 < 256 := by omega
    simp only [tOut, Int.pow_succ]; omega

/-- A word with its bytes the other way round. -/
def turn (x : Int) : Int := tOut x 8

/-- A word of its bytes, the least first. -/
def pack (b0 b1 b2 b3 b4 b5 b6 b7 : Int) : Int := b0 + b1 * 256 + b2 * 65536 + b3 * 16777216 + b4 * 4294967296 + b5 * 1099511627776 + b6 * 281474976710656 + b7 * 72057594037927936
def byt (x : Int) : Prop := 0 ≤ x ∧ x < 256

/-- Eight bytes. -/
def byts (b0 b1 b2 b3 b4 b5 b6 b7 : Int) : Prop := byt b0 ∧ byt b1 ∧ byt b2 ∧ byt b3 ∧ byt b4 ∧ byt b5 ∧ byt b6 ∧ byt b7

theorem unpack (x : Int) (h0 : 0 ≤ x) (h1 : x < 18446744073709551616) : ∃ b0 b1 b2 b3 b4 b5 b6 b7, byts b0 b1 b2 b3 b4 b5 b6 b7 ∧ x = pack b0 b1 b2 b3 b4 b5 b6 b7 := by
  refine ⟨x % 256, x / 256 % 256, x / 65536 % 256, x / 16777216 % 256, x / 4294967296 % 256, x / 1099511627776 % 256, x / 281474976710656 % 256, x / 72057594037927936, ?_⟩
  unfold byts byt pack; omega

theorem byts_rev {b0 b1 b2 b3 b4 b5 b6 b7 : Int} (h : byts b0 b1 b2 b3 b4 b5 b6 b7) : byts b7 b6 b5 b4 b3 b2 b1 b0 := by unfold byts at *; exact ⟨h.2.2.2.2.2.2.2, h.2.2.2.2.2.2.1, h.2.2.2.2.2.1, h.2.2.2.2.1, h.2.2.2.1, h.2.2.1, h.2.1, h.1⟩
theorem dig0 {b0 b1 b2 b3 b4 b5 b6 b7 : Int} (h : byts b0 b1 b2 b3 b4 b5 b6 b7) : pack b0 b1 b2 b3 b4 b5 b6 b7 % 256 = b0 := by unfold byts byt at h; unfold pack; omega
theorem dig1 {b0 b1 b2 b3 b4 b5 b6 b7 : Int} (h : byts b0 b1 b2 b3 b4 b5 b6 b7) : pack b0 b1 b2 b3 b4 b5 b6 b7 / 256 % 256 = b1 := by unfold byts byt at h; unfold pack; omega
theorem dig2 {b0 b1 b2 b3 b4 b5 b6 b7 : Int} (h : byts b0 b1 b2 b3 b4 b5 b6 b7) : pack b0 b1 b2 b3 b4 b5 b6 b7 / 65536 % 256 = b2 := by unfold byts byt at h; unfold pack; omega
theorem dig3 {b0 b1 b2 b3 b4 b5 b6 b7 : Int} (h : byts b0 b1 b2 b3 b4 b5 b6 b7) : pack b0 b1 b2 b3 b4 b5 b6 b7 / 16777216 % 256 = b3 := by unfold byts byt at h; unfold pack; omega
theorem dig4 {b0 b1 b2 b3 b4 b5 b6 b7 : Int} (h : byts b0 b1 b2 b3 b4 b5 b6 b7) : pack b0 b1 b2 b3 b4 b5 b6 b7 / 4294967296 % 256 = b4 := by unfold byts byt at h; unfold pack; omega
theorem dig5 {b0 b1 b2 b3 b4 b5 b6 b7 : Int} (h : byts b0 b1 b2 b3 b4 b5 b6 b7) : pack b0 b1 b2 b3 b4 b5 b6 b7 / 1099511627776 % 256 = b5 := by unfold byts byt at h; unfold pack; omega
theorem dig6 {b0 b1 b2 b3 b4 b5 b6 b7 : Int} (h : byts b0 b1 b2 b3 b4 b5 b6 b7) : pack b0 b1 b2 b3 b4 b5 b6 b7 / 281474976710656 % 256 = b6 := by unfold byts byt at h; unfold pack; omega
theorem dig7 {b0 b1 b2 b3 b4 b5 b6 b7 : Int} (h : byts b0 b1 b2 b3 b4 b5 b6 b7) : pack b0 b1 b2 b3 b4 b5 b6 b7 / 72057594037927936 = b7 := by unfold byts byt at h; unfold pack; omega
theorem pack_bd {b0 b1 b2 b3 b4 b5 b6 b7 : Int} (h : byts b0 b1 b2 b3 b4 b5 b6 b7) : 0 ≤ pack b0 b1 b2 b3 b4 b5 b6 b7 ∧ pack b0 b1 b2 b3 b4 b5 b6 b7 < 18446744073709551616 := by unfold byts byt at h; unfold pack; omega
theorem turn_pack {b0 b1 b2 b3 b4 b5 b6 b7 : Int} (h : byts b0 b1 b2 b3 b4 b5 b6 b7) : turn (pack b0 b1 b2 b3 b4 b5 b6 b7) = pack b7 b6 b5 b4 b3 b2 b1 b0 := by
  have e : ∀ x, turn x = pack (x / 72057594037927936 % 256) (x / 281474976710656 % 256) (x / 1099511627776 % 256) (x / 4294967296 % 256) (x / 16777216 % 256) (x / 65536 % 256) (x / 256 % 256) (x % 256) := by
    intro x; simp only [turn, tOut, pack, show (256 : Int) ^ 0 = 1 from rfl, show (256 : Int) ^ 1 = 256 from rfl, show (256 : Int) ^ 2 = 65536 from rfl, show (256 : Int) ^ 3 = 16777216 from rfl, show (256 : Int) ^ 4 = 4294967296 from rfl, show (256 : Int) ^ 5 = 1099511627776 from rfl, show (256 : Int) ^ 6 = 281474976710656 from rfl, show (256 : Int) ^ 7 = 72057594037927936 from rfl, Int.ediv_one]; omega
  rw [e, dig7 h, dig6 h, dig5 h, dig4 h, dig3 h, dig2 h, dig1 h, dig0 h]
  congr 1; unfold byts byt at h; omega

theorem turn_bd (x : Int) : 0 ≤ turn x ∧ turn x < 18446744073709551616 := tOut_bd x 8

theorem turn_turn (x : Int) (h0 : 0 ≤ x) (h1 : x < 18446744073709551616) : turn (turn x) = x := by
  obtain ⟨b0, b1, b2, b3, b4, b5, b6, b7, k, rfl⟩ := unpack x h0 h1
  rw [turn_pack k, turn_pack (byts_rev k)]

theorem turn_low (x : Int) (h0 : 0 ≤ x) (h1 : x < 18446744073709551616) : turn x % 256 = x / 72057594037927936 := by
  obtain ⟨b0, b1, b2, b3, b4, b5, b6, b7, k, rfl⟩ := unpack x h0 h1
  rw [turn_pack k, dig0 (byts_rev k), dig7 k]
theorem turn_high (x : Int) (h0 : 0 ≤ x) (h1 : x < 18446744073709551616) : turn x / 72057594037927936 = x % 256 := by
  obtain ⟨b0, b1, b2, b3, b4, b5, b6, b7, k, rfl⟩ := unpack x h0 h1
  rw [turn_pack k, dig7 (byts_rev k), dig0 k]
theorem turn_inj (x y : Int) (h0 : 0 ≤ x) (h1 : x < 18446744073709551616) (k0 : 0 ≤ y) (k1 : y < 18446744073709551616) (h : turn x = turn y) : x = y := by
  rw [← turn_turn x h0 h1, h, turn_turn y k0 k1]

/-- One round of Turn. -/
theorem turn_round (x : Int) (k : Nat) (hk : k < 8) (h0 : 0 ≤ x) (h1 : x < 18446744073709551616) :
    bits BinOp.or IntKind.u64 (IntKind.u64.wrap (tOut x k * 256)) (bits BinOp.and IntKind.u64 (x / 256 ^ k) 255) = tOut x (k + 1) := by
  have hb := tOut_bd x k
  have hp : (256 : Int) ^ k ≤ 72057594037927936 := by
    have : (256 : Nat) ^ k ≤ 256 ^ 7 := Nat.pow_le_pow_right (by omega) (by omega)
    have e := pow_cast 256 k
    rw [show ((256 : Nat) : Int) = 256 from rfl] at e
    rw [e]
    rw [show (256 : Nat) ^ 7 = 72057594037927936 from rfl] at this
    generalize (256 : Nat) ^ k = q at this
    omega
  have hp0 : (0 : Int) < 256 ^ k := Int.pow_pos (by omega)
  have hd0 : 0 ≤ x / 256 ^ k := Int.ediv_nonneg h0 (by omega)
  have hd1 : x / 256 ^ k < 18446744073709551616 := by
    have := Int.ediv_le_self (256 ^ k) h0; omega
  have hw : IntKind.u64.wrap (tOut x k * 256) = tOut x k * 256 := IntWalk.u64_in _ ⟨by omega, by omega⟩
  rw [hw, and255 _ hd0 hd1]
  exact or_add (tOut x k) (x / 256 ^ k % 256) 8 hb.1 (by omega) (by show _ < (256 : Int); omega) (by show _ * (256 : Int) + _ < _; omega)
end Go.Proofs.Ytgkfbnjccfoaiaa
