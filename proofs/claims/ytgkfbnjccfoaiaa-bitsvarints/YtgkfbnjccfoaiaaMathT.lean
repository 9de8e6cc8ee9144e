/- Plain arithmetic: texts: a string's bytes; the value of a varint is below 2^64; what is laid is read again. -/
import Derived.Test.YtgkfbnjccfoaiaaMathO
namespace Go.Proofs.Ytgkfbnjccfoaiaa
set_option linter.unusedVariables false

theorem jn_append : ∀ xs ys : List Int, jn (xs ++ ys) = jn xs + 128 ^ xs.length * jn ys
  | [], ys => by simp [jn]
  | b :: r, ys => by
    have := jn_append r ys
    simp only [List.cons_append, jn, List.length_cons, Int.pow_succ]
    rw [this, Int.mul_add, ← Int.mul_assoc, Int.mul_comm 128 (128 ^ r.length)]
    omega

theorem pow128_le {k n : Nat} (h : k ≤ n) : (128 : Int) ^ k ≤ 128 ^ n := by
  have e := pow_cast 128 k
  have e' := pow_cast 128 n
  rw [show ((128 : Nat) : Int) = 128 from rfl] at e e'
  rw [e, e']
  have := Nat.pow_le_pow_right (n := 128) (by omega) h
  exact Int.ofNat_le.2 this

theorem vlen_last {zs : List Int} (h : vlen zs = 10) : zs.getD 9 0 < 2 := by
  have hl := lead_le zs
  unfold vlen at h
  split at h
  · omega
  · split at h
    · omega
    · split at h
      · omega
      · rename_i h1 h2 h3
        have e : lead zs = 9 := by omega
        rw [e] at h3; omega

theorem vval_bd (zs : List Int) (hb : bytesIn zs) : 0 ≤ vval zs ∧ vval zs < 18446744073709551616 := by
  have hl := vlen_le zs
  have hj := jn_bd (zs.take (vlen zs))
  refine ⟨hj.1, ?_⟩
  unfold vval
  by_cases h : vlen zs = 10
  · have h9 := vlen_last h
    rw [h] at hl ⊢
    have hb9 := bytesIn_get hb (i := 9) (by omega)
    have e : zs.take 10 = zs.take 9 ++ [zs.getD 9 0] := by
      rw [List.take_succ_eq_append_getElem (by omega)]
      simp [List.getD, show 9 < zs.length by omega]
    rw [e, jn_append, List.length_take, show min 9 zs.length = 9 by omega]
    have h0 := jn_bd (zs.take 9)
    rw [List.length_take, show min 9 zs.length = 9 by omega] at h0
    simp only [jn, show (128 : Int) ^ 9 = 9223372036854775808 from rfl] at h0 ⊢
    generalize zs.getD 9 0 = c at *
    generalize jn (zs.take 9) = d at *
    omega
  · have hp := pow128_le (k := (zs.take (vlen zs)).length) (n := 9) (by rw [List.length_take]; omega)
    rw [show (128 : Int) ^ 9 = 9223372036854775808 from rfl] at hp
    omega

/-- What is laid as a varint is read again, whatever stands behind. -/
theorem lead_vint (v : Int) (h0 : 0 ≤ v) (ys : List Int) : lead (vint v ++ ys) = (vint v).length - 1 := by
  have hp := vint_pos v
  have hh := vint_heads v h0
  have hall : (vint v).length - 1 ≤ lead (vint v ++ ys) := lead_all _ _ (by simp; omega) (fun i hi => by
    have := hh.1 i (by omega)
    simpa [List.getD, List.getElem?_append_left, show i < (vint v).length by omega] using this)
  refine lead_is hall (by simp; omega) ?_
  have := hh.2.1
  simpa [List.getD, List.getElem?_append_left, show (vint v).length - 1 < (vint v).length by omega] using this

theorem vint_at {v : Int} (ys : List Int) {i : Nat} (hi : i < (vint v).length) : (vint v ++ ys).getD i 0 = (vint v).getD i 0 := by
  simp [List.getD, List.getElem?_append_left, hi]

theorem vint_tenth {v : Int} (h0 : 0 ≤ v) (h1 : v < 18446744073709551616) (h : (vint v).length = 10) : (vint v).getD 9 0 < 2 := by
  rw [vint_eq10 h0 h]; simp only [List.getD_cons_succ, List.getD_cons_zero]; omega

theorem vlen_vint (v : Int) (h0 : 0 ≤ v) (h1 : v < 18446744073709551616) (ys : List Int) : vlen (vint v ++ ys) = (vint v).length := by
  have hp := vint_pos v
  have ht := vint_ten h1
  have hh := vint_heads v h0
  have := vlen_is (zs := vint v ++ ys) (lead_vint v h0 ys) (by simp; omega) (by omega)
    (by rw [vint_at ys (by omega)]; intro h; have := hh.2.2 (by omega); omega)
    (by rw [vint_at ys (by omega)]; intro h; have := vint_tenth h0 h1 (by omega); rw [show (vint v).length - 1 = 9 by omega] at h; omega)
  omega

theorem vval_vint (v : Int) (h0 : 0 ≤ v) (h1 : v < 18446744073709551616) (ys : List Int) : vval (vint v ++ ys) = v := by
  unfold vval; rw [vlen_vint v h0 h1 ys, List.take_left]; exact jn_vint v h0

/-- No beginning of a varint is one. -/
theorem vlen_cut (v : Int) (h0 : 0 ≤ v) (k : Nat) (hk : k < (vint v).length) : vlen ((vint v).take k) = 0 := by
  have hh := vint_heads v h0
  refine vlen_end ?_
  rw [List.length_take]
  refine Nat.le_trans (Nat.min_le_left _ _) (lead_all _ _ (by rw [List.length_take]; omega) (fun i hi => ?_))
  have := hh.1 i (by omega)
  simpa [List.getD, hi] using this

/-- A string's bytes. -/
def bytesOf (s : ByteArray) : List Int := s.data.toList.map fun b => (b.toNat : Int)
theorem bytesOf_len (s : ByteArray) : (bytesOf s).length = s.size := by rw [bytesOf, List.length_map, Array.length_toList]; rfl
theorem bytesOf_in (s : ByteArray) : bytesIn (bytesOf s) := by
  intro z hz
  simp only [bytesOf, List.mem_map] at hz
  obtain ⟨b, _, rfl⟩ := hz
  have := b.toNat_lt
  omega
end Go.Proofs.Ytgkfbnjccfoaiaa
