/- dolmenref1.Seal: what one call answers. -/
import Derived.Test.YtnnongchjbckpaaDoorLay
import Derived.Test.YtnnongchjbckpaaDoorAwake
namespace Go.Proofs.YtnnongchjbckpaaDoor
open Go.ChangeShapes Go.WideShapes Go.ChangeAt Go.RowKit Kit
set_option linter.unusedVariables false

theorem and32 (n : Nat) (h : n < 18446744073709551616) : bits .and .u64 (n : Int) 4294967295 = ((lo32 n : Nat) : Int) := by
  have e := u64_and_nat n 4294967295 h (by omega)
  rw [show ((4294967295 : Nat) : Int) = 4294967295 from rfl] at e
  rw [e, Nat.and_two_pow_sub_one_eq_mod n 32]; rfl
theorem layI_take4 (n : Nat) : (layI 8 n).take 4 = layI 4 n := by
  simp [layI, layN]
theorem refseal_val (n : Nat) : bits .or .u64 ((lo32 n : Nat) : Int) (IntKind.u64.wrap (IntKind.u64.wrap ((cOf (natB (layI 4 (lo32 n))) : Nat) : Int) * 4294967296)) = ((sealN n : Nat) : Int) := by
  rw [natB_layI]
  show bits .or .u64 ((lo32 n : Nat) : Int) (IntKind.u64.wrap (IntKind.u64.wrap ((sum4 n : Nat) : Int) * 4294967296)) = _
  have w1 : ∀ n : Int, IntKind.u64.wrap n = n % 18446744073709551616 := fun n => by simp [IntKind.wrap, IntKind.bits, IntKind.signed]
  have hs := sum4_lt n
  have e : IntKind.u64.wrap (IntKind.u64.wrap ((sum4 n : Nat) : Int) * 4294967296) = ((sum4 n * 4294967296 : Nat) : Int) := by rw [w1, w1]; omega
  have hl : lo32 n < 4294967296 := by unfold lo32; omega
  rw [e, u64_or_nat _ _ (by omega) (by omega), Nat.or_comm, nat_join 32 (sum4 n * 4294967296) (lo32 n) (by omega) (by omega)]
  unfold sealN lo32; rw [Nat.add_comm]

set_option maxRecDepth 4000 in
set_option maxHeartbeats 2000000 in
theorem refSeal_any (x : Int) (n : Nat) (hx : Hid (x = (n : Int))) (hn : Hid (n < 18446744073709551616)) (w : World) :
    Calls Tryd.prog 10 #[.int .u64 x] w fun e w' => e = .returned (.int .u64 ((sealN n : Nat) : Int)) ∧ Below w.heap.size w w' := by
  have hx2 := hx.out
  clear hx
  subst hx2
  have ha := and32 n hn.out
  have HV : Hid (_ = _) := refseal_val n
  have HL : Hid (_ = _) := layI_len 8 (lo32 n)
  have HT4 : Hid (_ = _) := layI_take4 (lo32 n)
  have HIN : Hid (bytesIn (layI 4 (lo32 n))) := layI_in _ _
  generalize lo32 n = m at *
  go_enter Tryd.func10, Tryd.ntmps10
  go_wp2_with fail
  go_at_call 19
  refine (lay_any (m : Int) m (id rfl) w).mono ?_
  rintro e w' ⟨v, rfl, hrow, hb⟩
  obtain ⟨g, cap, rfl, hg, hgs, hlc, hcm, hcell⟩ := row_form hrow (by rw [HL.out]; omega)
  have h4 : Hid (Vw w'.heap.size w' .u8 (.slice (some ⟨g, 0, none⟩) 4 cap) (layI 4 m)) := by
    have := Vw.cut (row_view hrow) 4 (by rw [HL.out]; omega)
    rw [HT4.out] at this
    exact this
  have hB : Hid (Below w.heap.size w w') := hb
  have hc8 : 8 ≤ cap := by have := HL.out; omega
  rw [HL.out]
  clear hrow hb hcell
  have hcm2 : (cap : Int) ≤ 9223372036854775807 := by unfold maxLen at hcm; omega
  go_wp2_with fail
  go_at_call 12
  refine (refOf_any _ (layI 4 m) _ w' h4.out HIN.out).mono ?_
  rintro e w2 ⟨rfl, h⟩
  have h := h.symm
  subst h
  generalize ((cOf (natB (layI 4 m)) : Nat) : Int) = s at *
  go_wp2
  go_ret
  exact ⟨congrArg (fun t => Ending.returned (.int .u64 t)) HV.out, hB.out⟩
end Go.Proofs.YtnnongchjbckpaaDoor
