/- Plain arithmetic of CRC-32 (no program in it): the register goes over the bits; one bit turned is another sum; seals. -/
import Derived.WalkKit
namespace Go.Proofs.YtnnongchjbckpaaDoor
set_option linter.unusedVariables false

/-- One bit of the register's way. -/
def cStep (r : Nat) : Nat := (r >>> 1) ^^^ (if r % 2 = 1 then 3988292384 else 0)
/-- So many bits. -/
def cSteps : Nat → Nat → Nat
  | 0, r => r
  | n + 1, r => cSteps n (cStep r)
/-- One byte. -/
def cByte (r b : Nat) : Nat := cSteps 8 (r ^^^ b)
/-- Bytes. -/
def cReg (r : Nat) (l : List Nat) : Nat := l.foldl cByte r
/-- The sum. -/
def cOf (l : List Nat) : Nat := cReg 4294967295 l ^^^ 4294967295

theorem xor_lt {x y n : Nat} (hx : x < 2 ^ n) (hy : y < 2 ^ n) : x ^^^ y < 2 ^ n := Nat.xor_lt_two_pow hx hy
theorem xor_mod2 (x y : Nat) : (x ^^^ y) % 2 = (x % 2 + y % 2) % 2 := by
  have h := Nat.testBit_xor x y 0
  simp only [Nat.testBit_zero] at h
  rcases Nat.mod_two_eq_zero_or_one x with hx | hx <;> rcases Nat.mod_two_eq_zero_or_one y with hy | hy <;> rcases Nat.mod_two_eq_zero_or_one (x ^^^ y) with hz | hz <;> simp_all

theorem cStep_xor (x y : Nat) : cStep (x ^^^ y) = cStep x ^^^ cStep y := by
  unfold cStep
  rw [Nat.shiftRight_xor_distrib, xor_mod2]
  rcases Nat.mod_two_eq_zero_or_one x with hx | hx <;> rcases Nat.mod_two_eq_zero_or_one y with hy | hy
  · simp [hx, hy]
  · simp [hx, hy, Nat.xor_assoc]
  · have e : ∀ a b c : Nat, a ^^^ b ^^^ c = a ^^^ c ^^^ b := fun a b c => by rw [Nat.xor_assoc, Nat.xor_comm b c, ← Nat.xor_assoc]
    simp only [hx, hy]
    simpa using e (x >>> 1) (y >>> 1) 3988292384
  · have e : ∀ a b c : Nat, a ^^^ b = a ^^^ c ^^^ (b ^^^ c) := fun a b c => by rw [Nat.xor_comm b c, Nat.xor_assoc, ← Nat.xor_assoc c c b, Nat.xor_self, Nat.zero_xor]
    simp only [hx, hy]
    simpa using e (x >>> 1) (y >>> 1) 3988292384
theorem cStep_zero : cStep 0 = 0 := by decide
theorem cStep_lt {r : Nat} (h : r < 2 ^ 32) : cStep r < 2 ^ 32 := by
  unfold cStep
  refine xor_lt ?_ ?_
  · rw [Nat.shiftRight_eq_div_pow]; omega
  · split <;> omega

theorem cSteps_xor : ∀ (n x y : Nat), cSteps n (x ^^^ y) = cSteps n x ^^^ cSteps n y
  | 0, x, y => rfl
  | n + 1, x, y => by simp only [cSteps]; rw [cStep_xor, cSteps_xor n]
theorem cSteps_zero : ∀ n, cSteps n 0 = 0
  | 0 => rfl
  | n + 1 => by simp only [cSteps, cStep_zero]; exact cSteps_zero n
theorem cSteps_lt : ∀ (n : Nat) {r : Nat}, r < 2 ^ 32 → cSteps n r < 2 ^ 32
  | 0, r, h => h
  | n + 1, r, h => by simp only [cSteps]; exact cSteps_lt n (cStep_lt h)

/-- No step loses anything. -/
theorem cStep_nought {z : Nat} (h : z < 2 ^ 32) (e : cStep z = 0) : z = 0 := by
  unfold cStep at e
  have hs : z >>> 1 = z / 2 := by rw [Nat.shiftRight_eq_div_pow]
  rw [hs] at e
  rcases Nat.mod_two_eq_zero_or_one z with hz | hz
  · simp only [hz] at e
    simp at e
    omega
  · simp only [hz, if_true] at e
    have e2 : z / 2 = 3988292384 := by
      have := congrArg (fun t => t ^^^ 3988292384) e
      simp only [Nat.xor_assoc, Nat.xor_self, Nat.xor_zero, Nat.zero_xor] at this
      exact this
    omega
theorem cSteps_nought : ∀ (n : Nat) {z : Nat}, z < 2 ^ 32 → cSteps n z = 0 → z = 0
  | 0, z, h, e => e
  | n + 1, z, h, e => cStep_nought h (cSteps_nought n (cStep_lt h) e)

theorem xor_eq_nought {x y : Nat} (h : x ^^^ y = 0) : x = y := by
  have := congrArg (fun t => t ^^^ y) h
  simp only [Nat.xor_assoc, Nat.xor_self, Nat.xor_zero, Nat.zero_xor] at this
  exact this
theorem cSteps_inj (n : Nat) {x y : Nat} (hx : x < 2 ^ 32) (hy : y < 2 ^ 32) (h : cSteps n x = cSteps n y) : x = y := by
  refine xor_eq_nought (cSteps_nought n (xor_lt hx hy) ?_)
  rw [cSteps_xor, h, Nat.xor_self]

theorem cByte_lt {r b : Nat} (hr : r < 2 ^ 32) (hb : b < 256) : cByte r b < 2 ^ 32 := cSteps_lt 8 (xor_lt hr (by omega))
theorem cByte_inj {r s b : Nat} (hr : r < 2 ^ 32) (hs : s < 2 ^ 32) (hb : b < 256) (h : cByte r b = cByte s b) : r = s := by
  have := cSteps_inj 8 (xor_lt hr (by omega)) (xor_lt hs (by omega)) h
  have := congrArg (fun t => t ^^^ b) this
  simpa only [Nat.xor_assoc, Nat.xor_self, Nat.xor_zero] using this
theorem cByte_inj' {r b c : Nat} (hr : r < 2 ^ 32) (hb : b < 256) (hc : c < 256) (h : cByte r b = cByte r c) : b = c := by
  have := cSteps_inj 8 (xor_lt hr (by omega)) (xor_lt hr (by omega)) h
  have := congrArg (fun t => r ^^^ t) this
  simpa only [← Nat.xor_assoc, Nat.xor_self, Nat.zero_xor] using this

def bytesN (l : List Nat) : Prop := ∀ b ∈ l, b < 256
theorem cReg_lt : ∀ (l : List Nat) {r : Nat}, r < 2 ^ 32 → bytesN l → cReg r l < 2 ^ 32
  | [], r, h, _ => h
  | b :: l, r, h, hb => cReg_lt l (cByte_lt h (hb b (by simp))) (fun c hc => hb c (by simp [hc]))
theorem cReg_inj : ∀ (l : List Nat) {r s : Nat}, r < 2 ^ 32 → s < 2 ^ 32 → bytesN l → cReg r l = cReg s l → r = s
  | [], r, s, _, _, _, e => e
  | b :: l, r, s, hr, hs, hb, e => by
    have hb0 := hb b (by simp)
    exact cByte_inj hr hs hb0 (cReg_inj l (cByte_lt hr hb0) (cByte_lt hs hb0) (fun c hc => hb c (by simp [hc])) e)
theorem cReg_append (r : Nat) (l m : List Nat) : cReg r (l ++ m) = cReg (cReg r l) m := by simp [cReg, List.foldl_append]
theorem cReg_cons (r b : Nat) (l : List Nat) : cReg r (b :: l) = cReg (cByte r b) l := rfl

/-- One byte turned is another register. -/
theorem cReg_turned (l m : List Nat) {b c r : Nat} (hr : r < 2 ^ 32) (hl : bytesN l) (hm : bytesN m) (hb : b < 256) (hc : c < 256) (h : b ≠ c) : cReg r (l ++ b :: m) ≠ cReg r (l ++ c :: m) := by
  intro e
  rw [cReg_append, cReg_append, cReg_cons, cReg_cons] at e
  have hr' := cReg_lt l hr hl
  exact h (cByte_inj' hr' hb hc (cReg_inj m (cByte_lt hr' hb) (cByte_lt hr' hc) hm e))
theorem cOf_turned (l m : List Nat) {b c : Nat} (hl : bytesN l) (hm : bytesN m) (hb : b < 256) (hc : c < 256) (h : b ≠ c) : cOf (l ++ b :: m) ≠ cOf (l ++ c :: m) := by
  intro e
  unfold cOf at e
  have := congrArg (fun t => t ^^^ 4294967295) e
  simp only [Nat.xor_assoc, Nat.xor_self, Nat.xor_zero] at this
  exact cReg_turned l m (by omega) hl hm hb hc h this
theorem cOf_set (l : List Nat) (i b : Nat) (hi : i < l.length) (hl : bytesN l) (hb : b < 256) (h : b ≠ l[i]) : cOf (l.set i b) ≠ cOf l := by
  have e1 : l = l.take i ++ l[i] :: l.drop (i + 1) := by simp
  have e2 : l.set i b = l.take i ++ b :: l.drop (i + 1) := by rw [List.set_eq_take_append_cons_drop, if_pos hi]
  rw [e2]
  conv => rhs; rw [e1]
  exact cOf_turned _ _ (fun c hc => hl c (List.mem_of_mem_take hc)) (fun c hc => hl c (List.mem_of_mem_drop hc)) hb (hl _ (List.getElem_mem hi)) h

/-- Three rows put over each other. -/
def over3 : List Nat → List Nat → List Nat → List Nat
  | a :: l, b :: m, c :: n => (a ^^^ b ^^^ c) :: over3 l m n
  | _, _, _ => []
theorem xor_lc (a b c : Nat) : a ^^^ (b ^^^ c) = b ^^^ (a ^^^ c) := by rw [← Nat.xor_assoc, Nat.xor_comm a b, Nat.xor_assoc]
theorem xor6 (a b c d e f : Nat) : a ^^^ b ^^^ c ^^^ (d ^^^ e ^^^ f) = (a ^^^ d) ^^^ (b ^^^ e) ^^^ (c ^^^ f) := by
  simp only [Nat.xor_assoc]
  rw [xor_lc c d, xor_lc b d, xor_lc c e]
theorem cReg_over : ∀ (l m n : List Nat) (r s t : Nat), l.length = m.length → m.length = n.length → cReg (r ^^^ s ^^^ t) (over3 l m n) = cReg r l ^^^ cReg s m ^^^ cReg t n
  | [], [], [], r, s, t, _, _ => rfl
  | a :: l, b :: m, c :: n, r, s, t, h1, h2 => by
    simp only [over3, cReg_cons]
    have e : cByte (r ^^^ s ^^^ t) (a ^^^ b ^^^ c) = cByte r a ^^^ cByte s b ^^^ cByte t c := by
      unfold cByte; rw [xor6, cSteps_xor, cSteps_xor]
    rw [e, cReg_over l m n _ _ _ (by simpa using h1) (by simpa using h2)]
theorem cOf_over (l m n : List Nat) (h1 : l.length = m.length) (h2 : m.length = n.length) : cOf (over3 l m n) = cOf l ^^^ cOf m ^^^ cOf n := by
  unfold cOf
  have := cReg_over l m n 4294967295 4294967295 4294967295 h1 h2
  rw [Nat.xor_self, Nat.zero_xor] at this
  rw [this, ← xor6, Nat.xor_self, Nat.zero_xor]

/-! A table of 256: eight bits at once. -/
theorem cSteps_high : ∀ (k h : Nat), cSteps k (h * 2 ^ k) = h
  | 0, h => by simp [cSteps]
  | k + 1, h => by
    have e : cStep (h * 2 ^ (k + 1)) = h * 2 ^ k := by
      unfold cStep
      have h2 : h * 2 ^ (k + 1) = h * 2 ^ k * 2 := by rw [Nat.pow_succ, Nat.mul_assoc]
      rw [h2, Nat.mul_mod_left, Nat.shiftRight_eq_div_pow]
      simp
    simp only [cSteps]
    rw [e, cSteps_high k h]
theorem split256 (x : Nat) : x = (x / 256 * 2 ^ 8) ^^^ (x % 256) := by
  have h := Nat.shiftLeft_add_eq_or_of_lt (show x % 256 < 2 ^ 8 by omega) (x / 256)
  have h2 : x / 256 * 2 ^ 8 ^^^ x % 256 = x / 256 * 2 ^ 8 + x % 256 := by
    rw [← Nat.shiftLeft_eq]
    rw [h]
    apply Nat.eq_of_testBit_eq
    intro i
    rw [Nat.testBit_xor, Nat.testBit_or, Nat.testBit_shiftLeft]
    by_cases hi : 8 ≤ i
    · have hz : (x % 256).testBit i = false := Nat.testBit_lt_two_pow (Nat.lt_of_lt_of_le (show x % 256 < 2 ^ 8 by omega) (Nat.pow_le_pow_right (by omega) hi))
      simp [hz]
    · simp [hi]
  rw [h2]; omega
theorem xor_mod256 (r b : Nat) (hb : b < 256) : (r ^^^ b) % 256 = (r % 256) ^^^ b := by
  have := Nat.xor_mod_two_pow (a := r) (b := b) (n := 8)
  rw [show (2 : Nat) ^ 8 = 256 from rfl, Nat.mod_eq_of_lt hb] at this
  exact this
theorem xor_div256 (r b : Nat) (hb : b < 256) : (r ^^^ b) / 256 = r / 256 := by
  have := Nat.shiftRight_xor_distrib (a := r) (b := b) (i := 8)
  rw [Nat.shiftRight_eq_div_pow, Nat.shiftRight_eq_div_pow, Nat.shiftRight_eq_div_pow, show (2 : Nat) ^ 8 = 256 from rfl, Nat.div_eq_of_lt hb, Nat.xor_zero] at this
  exact this
/-- A byte by a table. -/
theorem cByte_table (r b : Nat) (hb : b < 256) : cByte r b = cSteps 8 ((r ^^^ b) % 256) ^^^ (r / 256) := by
  unfold cByte
  conv => lhs; rw [split256 (r ^^^ b)]
  rw [cSteps_xor, cSteps_high, xor_div256 r b hb, Nat.xor_comm]

/-! Words' bytes, and seals. -/
/-- The low so many bytes of a number, the least first. -/
def layN : Nat → Nat → List Nat
  | 0, _ => []
  | n + 1, v => v % 256 :: layN n (v / 256)
theorem layN_len : ∀ n v, (layN n v).length = n
  | 0, _ => rfl
  | n + 1, v => by simp [layN, layN_len n]
theorem layN_bytes : ∀ n v, bytesN (layN n v)
  | 0, v => by intro b hb; simp [layN] at hb
  | n + 1, v => by
    intro b hb
    rcases List.mem_cons.1 (show b ∈ v % 256 :: layN n (v / 256) from hb) with rfl | hb
    · omega
    · exact layN_bytes n _ b hb
theorem layN_get : ∀ (n v i : Nat), i < n → (layN n v).getD i 0 = v / 256 ^ i % 256
  | n + 1, v, 0, _ => by simp [layN]
  | n + 1, v, i + 1, h => by
    simp only [layN, List.getD_cons_succ]
    rw [layN_get n (v / 256) i (by omega), Nat.div_div_eq_div_mul, Nat.pow_succ, Nat.mul_comm (256 ^ i) 256]
theorem layN_inj : ∀ (n v w : Nat), v < 256 ^ n → w < 256 ^ n → layN n v = layN n w → v = w
  | 0, v, w, hv, hw, _ => by simp at hv hw; omega
  | n + 1, v, w, hv, hw, h => by
    simp only [layN, List.cons.injEq] at h
    rw [Nat.pow_succ] at hv hw
    have := layN_inj n (v / 256) (w / 256) (by omega) (by omega) h.2
    omega
theorem cOf_lt (l : List Nat) (h : bytesN l) : cOf l < 4294967296 := xor_lt (n := 32) (cReg_lt l (by omega) h) (by omega)

/-- Four bytes that make the register what it was: a sum of four bytes tells them. -/
def sum4 (v : Nat) : Nat := cOf (layN 4 (v % 4294967296))
theorem sum4_lt (v : Nat) : sum4 v < 4294967296 := cOf_lt _ (layN_bytes _ _)
/-- A sealed number. -/
def sealN (v : Nat) : Nat := v % 4294967296 + sum4 v * 4294967296
theorem sum4_mod (v : Nat) : sum4 (v % 4294967296) = sum4 v := by unfold sum4; rw [Nat.mod_mod]
theorem sealN_low (v : Nat) : sealN v % 4294967296 = v % 4294967296 := by unfold sealN; omega
theorem sealN_high (v : Nat) : sealN v / 4294967296 = sum4 v := by unfold sealN; omega
theorem sealN_lt (v : Nat) : sealN v < 18446744073709551616 := by unfold sealN; have := sum4_lt v; omega
theorem sum4_seal (v : Nat) : sum4 (sealN v) = sum4 v := by rw [← sum4_mod (sealN v), sealN_low, sum4_mod]
theorem sealN_seal (v : Nat) : sealN (sealN v) = sealN v := by
  have e : sealN (sealN v) = sealN v % 4294967296 + sum4 (sealN v) * 4294967296 := rfl
  rw [e, sealN_low, sum4_seal]; rfl
theorem sealN_eq_iff (a b : Nat) : sealN a = sealN b ↔ a % 4294967296 = b % 4294967296 := by
  constructor
  · intro h; have := sealN_low a; have := sealN_low b; omega
  · intro h
    have : sum4 a = sum4 b := by unfold sum4; rw [h]
    unfold sealN; rw [h, this]
theorem sealN_zero : sealN 0 ≠ 0 := by decide +kernel

theorem cSteps_add : ∀ (m n r : Nat), cSteps (m + n) r = cSteps n (cSteps m r)
  | 0, n, r => by simp [cSteps]
  | m + 1, n, r => by rw [show m + 1 + n = (m + n) + 1 by omega]; simp only [cSteps]; rw [cSteps_add m n]
/-- A number's bytes are its bits, one behind the other. -/
theorem cReg_lay : ∀ (n v r : Nat), v < 256 ^ n → cReg r (layN n v) = cSteps (8 * n) (r ^^^ v)
  | 0, v, r, h => by simp at h; subst h; simp [layN, cReg, cSteps]
  | n + 1, v, r, h => by
    rw [Nat.pow_succ] at h
    simp only [layN, cReg_cons]
    rw [cReg_lay n (v / 256) _ (by omega), show 8 * (n + 1) = 8 + 8 * n by omega, cSteps_add]
    congr 1
    unfold cByte
    conv => rhs; rw [split256 v]
    rw [Nat.xor_comm (v / 256 * 2 ^ 8), ← Nat.xor_assoc, cSteps_xor 8 (r ^^^ v % 256), cSteps_high]
theorem sum4_inj {v w : Nat} (h : sum4 v = sum4 w) : v % 4294967296 = w % 4294967296 := by
  unfold sum4 cOf at h
  have h := congrArg (fun t => t ^^^ 4294967295) h
  simp only [Nat.xor_assoc, Nat.xor_self, Nat.xor_zero] at h
  have hv : v % 4294967296 < 256 ^ 4 := by omega
  have hw : w % 4294967296 < 256 ^ 4 := by omega
  rw [cReg_lay 4 _ _ hv, cReg_lay 4 _ _ hw] at h
  have h := cSteps_inj _ (xor_lt (n := 32) (by omega) (by omega)) (xor_lt (n := 32) (by omega) (by omega)) h
  have h := congrArg (fun t => 4294967295 ^^^ t) h
  simpa only [← Nat.xor_assoc, Nat.xor_self, Nat.zero_xor] using h

/-- What a number must be to be a seal. -/
theorem seal_iff (x : Nat) (hx : x < 18446744073709551616) : sealN x = x ↔ x / 4294967296 = sum4 x := by unfold sealN; omega
theorem low_xor (x k : Nat) : (x ^^^ 2 ^ k) % 4294967296 = (x % 4294967296) ^^^ (2 ^ k % 4294967296) := by
  have := Nat.xor_mod_two_pow (a := x) (b := 2 ^ k) (n := 32)
  exact this
theorem high_xor (x k : Nat) : (x ^^^ 2 ^ k) / 4294967296 = (x / 4294967296) ^^^ (2 ^ k / 4294967296) := by
  have := Nat.shiftRight_xor_distrib (a := x) (b := 2 ^ k) (i := 32)
  rw [Nat.shiftRight_eq_div_pow, Nat.shiftRight_eq_div_pow, Nat.shiftRight_eq_div_pow] at this
  exact this
theorem xor_ne {a b : Nat} (h : b ≠ 0) : a ^^^ b ≠ a := by
  intro e
  have := congrArg (fun t => a ^^^ t) e
  simp only [← Nat.xor_assoc, Nat.xor_self, Nat.zero_xor] at this
  exact h this
/-- A sealed number with one bit turned is none. -/
theorem seal_turned (v k : Nat) (hk : k < 64) : sealN (sealN v ^^^ 2 ^ k) ≠ sealN v ^^^ 2 ^ k := by
  intro e
  have hlt : sealN v ^^^ 2 ^ k < 18446744073709551616 := xor_lt (n := 64) (sealN_lt v) (Nat.pow_lt_pow_right (by omega) hk)
  have h := (seal_iff _ hlt).1 e
  rw [high_xor, sealN_high] at h
  by_cases h32 : k < 32
  · have hp : (2 : Nat) ^ k < 2 ^ 32 := Nat.pow_lt_pow_right (by omega) h32
    rw [show (2 : Nat) ^ 32 = 4294967296 from rfl] at hp
    rw [Nat.div_eq_of_lt hp, Nat.xor_zero] at h
    have h2 := sum4_inj h
    rw [low_xor, sealN_low, Nat.mod_eq_of_lt hp] at h2
    exact xor_ne (Nat.pos_iff_ne_zero.1 (Nat.pow_pos (by omega))) h2.symm
  · have hk2 : k = 32 + (k - 32) := by omega
    have hm : (2 : Nat) ^ k % 4294967296 = 0 := by rw [hk2, Nat.pow_add]; exact Nat.mul_mod_right _ _
    have hd : (2 : Nat) ^ k / 4294967296 ≠ 0 := by
      rw [hk2, Nat.pow_add, show (2 : Nat) ^ 32 = 4294967296 from rfl, Nat.mul_div_cancel_left _ (by omega)]
      exact Nat.pos_iff_ne_zero.1 (Nat.pow_pos (by omega))
    have h2 : sum4 (sealN v ^^^ 2 ^ k) = sum4 v := by
      rw [← sum4_mod, low_xor, hm, Nat.xor_zero, sealN_low, sum4_mod]
    rw [h2] at h
    exact xor_ne hd h
/-- A byte with one bit turned is another one. -/
theorem byte_turned (b j : Nat) (hb : b < 256) (hj : j < 8) : b ^^^ 2 ^ j ≠ b ∧ b ^^^ 2 ^ j < 256 :=
  ⟨xor_ne (Nat.pos_iff_ne_zero.1 (Nat.pow_pos (by omega))), xor_lt (n := 8) hb (Nat.pow_lt_pow_right (by omega) hj)⟩
end Go.Proofs.YtnnongchjbckpaaDoor
