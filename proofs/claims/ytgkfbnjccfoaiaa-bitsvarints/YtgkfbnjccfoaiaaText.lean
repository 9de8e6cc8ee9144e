/- bits.Text, bits.Untext, dolmenalike.Round: what one call answers. -/
import Derived.Test.YtgkfbnjccfoaiaaUnvarint
import Derived.Test.YtgkfbnjccfoaiaaMathT
import Derived.Test.YtgkfbnjccfoaiaaAppend
import Derived.Lib.AppendStr
namespace Go.Proofs.Ytgkfbnjccfoaiaa
open Go.ChangeShapes Go.WideShapes Go.ChangeAt Go.RowKit
set_option linter.unusedVariables false

theorem strCells_is (s : ByteArray) : Lib.strCells s = (bytesOf s).map (Value.int .u8) := by
  unfold Lib.strCells bytesOf; rw [List.map_map]; rfl

theorem strOf_bytesOf (s : ByteArray) : strOf (bytesOf s) = s := by
  apply WideShapes.bytes_inj
  unfold strOf bytesOf
  rw [List.map_map]
  show (List.toArray _).toList = _
  rw [show ((fun n : Int => UInt8.ofNat n.toNat) ∘ fun b : UInt8 => (b.toNat : Int)) = id from funext fun b => by simp]
  simp

/-- 'append(b, s...)', b a row of bytes of the call's own, s a string. -/
theorem wpList_appStr {ops : Array Oper} {rest : List Oper} {o : Oper} {a : Act} {Q : Exit → Act → World → Prop} {w : World} (hgd : o.guard = none) (s x : Operand)
    (ho : o.op = .call { callee := .builtin .append, args := #[s, x], argTypes := #[22, 9] }) (base : Nat) (v : Value) (xs : List Int) (hs : a.eval s = v) (hown : Row w base .u8 5 v xs)
    (t : ByteArray) (hx : a.eval x = .string t) (hlen : xs.length + t.size ≤ 140737488355328) (hbase : base ≤ w.heap.size)
    (h : ∀ v' w', Row w' base .u8 5 v' (xs ++ bytesOf t) → Below base w w' → wpList Try.prog ops Q rest (a.put o.dst v') w') : wpList Try.prog ops Q (o :: rest) a w := by
  obtain ⟨i0, hi, hz0, hz1, hz2⟩ := info_parts Try.info5
  refine Lib.wpList_append_own_string _ hgd s x 22 9 ho base 5 i0 Try.underlying22 Try.underlying9 hi hz0 hz1 hz2 v xs.length (xs.map (Value.int .u8)) hs hown t hx (by unfold maxLen; omega) hlen hbase ?_
  intro v' w' k1 k2 _
  refine h v' w' ?_ ((Below.refl _ _).grown k2 hbase (row_block hown))
  unfold Row
  rw [List.map_append, List.length_append, bytesOf_len, ← strCells_is]; exact k1

/-- What Text lays. -/
def textOf (s : ByteArray) : List Int := vint (s.size : Int) ++ bytesOf s

theorem text_any (s : ByteArray) (w : World) (hs : (s.size : Int) ≤ 140737488351232) :
    Calls Try.prog 24 #[.string s] w fun e w' => ∃ v, e = .returned v ∧ Row w' w.heap.size .u8 5 v (textOf s) ∧ Below w.heap.size w w' := by
  have ht := vint_ten (v := (s.size : Int)) (by omega)
  go_enter Try.func24, Try.ntmps24
  go_wp2_with (first
    | (go_at_call 22; refine (varint_any _ _ (by omega) (by omega)).mono ?_; rintro e w1 ⟨v1, rfl, hr1, hb1⟩; have hs1 := hb1.size)
    | (at_builtin; refine wpList_appStr rfl (.tmp 6) (.tmp 7) rfl w.heap.size _ (vint (s.size : Int)) rfl hr1 s rfl (by omega) hs1 ?_; intro v2 w2 hr2 hb2))
  go_ret
  exact ⟨_, rfl, hr2, hb1.trans hb2⟩

/-- A number from 0 to ahead of n. -/
def roundOf (k : Int) (n : Nat) : Nat := (k % (n : Int)).toNat

theorem round_lt (k : Int) (n : Nat) (hn : 0 < n) : roundOf k n < n := by
  unfold roundOf
  have hb := Int.emod_lt_of_pos k (show (0 : Int) < n by omega)
  have hb0 := Int.emod_nonneg k (show (n : Int) ≠ 0 by omega)
  omega

theorem tmod_neg (k : Int) (n : Nat) (hn : 0 < n) (hk : k < 0) : -(n : Int) < k.tmod n ∧ k.tmod n ≤ 0 ∧ (k.tmod n < 0 → k % n = k.tmod n + n) ∧ (¬ k.tmod n < 0 → k % n = 0 ∧ k.tmod n = 0) := by
  have h1 : (-k).tmod n = -(k.tmod n) := Int.neg_tmod k n
  have h2 : (-k).tmod n = (-k) % n := Int.tmod_eq_emod_of_nonneg (by omega)
  have hb := Int.emod_lt_of_pos (-k) (show (0 : Int) < n by omega)
  have hb0 := Int.emod_nonneg (-k) (show (n : Int) ≠ 0 by omega)
  have h3 : k % n = (k.tmod n) % n := by
    have := Int.tmod_add_mul_tdiv k n
    conv => lhs; rw [← this]
    rw [Int.add_mul_emod_self_left]
  generalize k.tmod n = t at *
  refine ⟨by omega, by omega, fun h => ?_, fun h => ?_⟩
  · rw [h3, ← Int.add_emod_right, Int.emod_eq_of_lt (by omega) (by omega)]
  · have : t = 0 := by omega
    subst this; simp at h3; omega

theorem round_any (k : Int) (n : Nat) (w : World) (hk0 : -9223372036854775808 ≤ k) (hk1 : k ≤ 9223372036854775807) (hn : 0 < n) (hn1 : (n : Int) ≤ 9223372036854775807) :
    Calls Try.prog 26 #[.int .i64 k, .int .i64 n] w fun e w' => e = .returned (.int .i64 (roundOf k n : Int)) ∧ w' = w := by
  have hn0 : ¬ (n : Int) = 0 := by omega
  have hb := Int.emod_lt_of_pos k (show (0 : Int) < n by omega)
  have hb0 := Int.emod_nonneg k hn0
  have HR : Hid ((roundOf k n : Int) = k % n) := by unfold roundOf; exact Int.toNat_of_nonneg hb0
  by_cases h : 0 ≤ k
  · have ht : k.tmod n = k % n := Int.tmod_eq_emod_of_nonneg h
    go_enter Try.func26, Try.ntmps26
    go_wp2
    go_ret
    exact ⟨by rw [HR.out]; rfl, rfl⟩
  · have ht := tmod_neg k n hn (by omega)
    obtain ⟨t1, t2, T3, T4⟩ := ht
    have T3 : Hid (k.tmod n < 0 → k % n = k.tmod n + n) := T3
    have T4 : Hid (¬ k.tmod n < 0 → k % n = 0 ∧ k.tmod n = 0) := T4
    clear hb hb0
    by_cases hneg : k.tmod n < 0
    · go_enter Try.func26, Try.ntmps26
      go_wp2
      go_ret
      exact ⟨by rw [HR.out, T3.out hneg]; rfl, rfl⟩
    · have e0 := (T4.out hneg).2
      go_enter Try.func26, Try.ntmps26
      go_wp2
      go_ret
      exact ⟨by rw [HR.out, (T4.out hneg).1]; rfl, rfl⟩

theorem conv_empty (ao : Option Addr) (cap : Nat) (w : World) : (convert 22 9 (.slice ao 0 cap)).run Try.prog w = .ok (.string ⟨#[]⟩) w := by
  rw [run_convert_bytes_string w 22 9 5 ao 0 cap Try.underlying22 Try.underlying5 Try.underlying9]
  cases ao with
  | none => rfl
  | some a =>
    have hl := run_loadCells_list (P := Try.prog) w a (([] : List Int).map (Value.int .u8)) (fun j v hj => by simp at hj)
    rw [run_bytesToString w a 0 cap [] hl]; rfl

/-- The bytes at a..b of what a slice shows. -/
theorem conv_part (b off cap c at' m : Nat) (zs : List Int) (w : World) (hm : at' + m ≤ zs.length)
    (hc : ∀ i, i < zs.length → w.cell? ⟨b, off + i, none⟩ = some (.int .u8 (zs.getD i 0))) (hcap : (c : Int) ≤ 9223372036854775807) (hmc : m ≤ c) :
    (convert 22 9 (.slice (some ⟨b, off + at', none⟩) m c)).run Try.prog w = .ok (.string (strOf ((zs.drop at').take m))) w := by
  have hl : ((zs.drop at').take m).length = m := by rw [List.length_take, List.length_drop]; omega
  by_cases h0 : 0 < m
  · refine conv_view (B := b + 1) (.inr ⟨by omega, b, off + at', c, by rw [hl], by omega, by unfold maxLen; omega, by omega, ?_⟩)
    intro i hi
    rw [Nat.add_assoc, hc (at' + i) (by omega)]
    simp [List.getD, show i < m by omega]
  · have e : m = 0 := by omega
    subst e
    rw [conv_empty]; rfl

theorem untext_bad (B : Nat) (v : Value) (zs : List Int) (w : World) (hv : Vw B w .u8 v zs) (hb : bytesIn zs) (h : vlen zs = 0 ∨ (zs.length : Int) - vlen zs < vval zs) :
    Calls Try.prog 20 #[v] w fun e w' => e = .returned (.tuple #[.string ⟨#[]⟩, .int .i64 0, .iface 52 (.int .i64 14)]) ∧ w' = w := by
  have hvb := vval_bd zs hb
  obtain ⟨v0, v1⟩ := hvb
  have hl := vlen_le zs
  obtain ⟨l0, l1⟩ := hl
  have HV : Hid (Vw B w .u8 v zs) := hv
  have hm : zs.length ≤ maxLen ∧ ∃ ao cap, v = .slice ao zs.length cap := by
    rcases hv with ⟨rfl, ao, cap, rfl, hn, hcm⟩ | ⟨hz, b, off, cap, rfl, h1, h2, h3, h4⟩
    · exact ⟨by simp, ao, cap, rfl⟩
    · exact ⟨by omega, _, cap, rfl⟩
  obtain ⟨hm, ao, cap, rfl⟩ := hm
  unfold maxLen at hm
  have hm' : (zs.length : Int) ≤ 9223372036854775807 := by omega
  clear hm hv
  by_cases hz : vlen zs = 0
  · go_enter Try.func20, Try.ntmps20
    go_wp2_with (first | (go_at_call 18; refine (unv_view B _ zs _ HV.out hb).mono ?_; rintro e w' ⟨rfl, rfl⟩))
    go_ret3
    exact ⟨rfl, rfl⟩
  · have hz' : ((vlen zs : Int) == 0) = false := beq_eq_false_iff_ne.2 (by omega)
    have h' : (zs.length : Int) - vlen zs < vval zs := by omega
    clear h
    go_enter Try.func20, Try.ntmps20
    go_wp2_with (first | (go_at_call 18; refine (unv_view B _ zs _ HV.out hb).mono ?_; rintro e w' ⟨rfl, rfl⟩))
    go_ret3
    exact ⟨rfl, rfl⟩

set_option maxHeartbeats 1000000 in
theorem untext_ok (B : Nat) (v : Value) (zs : List Int) (w : World) (hv : Vw B w .u8 v zs) (hb : bytesIn zs) (hz : 0 < vlen zs) (m : Nat) (hvm : vval zs = m) (h : m + vlen zs ≤ zs.length) :
    Calls Try.prog 20 #[v] w fun e w' => e = .returned (.tuple #[.string (strOf ((zs.drop (vlen zs)).take m)), .int .i64 ((vlen zs + m : Nat) : Int), .nilIface]) ∧ w' = w := by
  have HV : Hid (Vw B w .u8 v zs) := hv
  have hl := vlen_le zs
  obtain ⟨l0, l1⟩ := hl
  rcases hv with ⟨rfl, ao, cap, rfl, hn, hcm⟩ | ⟨hp, b, off, cap, rfl, h1, h2, h3, h4⟩
  · simp at l0; omega
  · unfold maxLen at h2
    have hcap : (cap : Int) ≤ 9223372036854775807 := by omega
    have hz' : ((vlen zs : Int) == 0) = false := beq_eq_false_iff_ne.2 (by omega)
    have hce := conv_empty
    have hcv := fun w hc => conv_part b off cap (cap - vlen zs) (vlen zs) m zs w (by omega) hc (by omega) (by omega)
    have hcv1 : (convert 22 9 (.slice (some ⟨b, off + vlen zs, none⟩) m (cap - vlen zs))).run Try.prog w = .ok (.string (strOf ((zs.drop (vlen zs)).take m))) w := hcv w h4
    clear hcv h2 h4
    by_cases hcz : cap = vlen zs
    · have hm0 : m = 0 := by omega
      subst hm0
      clear hcv1
      subst hcz
      have hvm0 : vval zs = 0 := hvm
      clear hvm
      go_enter Try.func20, Try.ntmps20
      go_wp2_with (first | (go_at_call 18; refine (unv_view B _ zs _ HV.out hb).mono ?_; rw [hvm0]; rintro e w' ⟨rfl, rfl⟩))
      go_ret3
      exact ⟨rfl, rfl⟩
    · clear hce
      go_enter Try.func20, Try.ntmps20
      go_wp2_with (first | (go_at_call 18; refine (unv_view B _ zs _ HV.out hb).mono ?_; rw [hvm]; rintro e w' ⟨rfl, rfl⟩))
      go_ret3
      exact ⟨rfl, rfl⟩
end Go.Proofs.Ytgkfbnjccfoaiaa
