/- NamesBack: it answers true. -/
import Derived.Test.YtlnhkdiecfccaaaDoorAwake4
import Derived.Test.YtlnhkdiecfccaaaDoorMBack
import Derived.Test.YtlnhkdiecfccaaaDoorLUnder0
namespace Go.Proofs.YtlnhkdiecfccaaaDoor
open Go.RowKit Kit
set_option linter.unusedVariables false

theorem tot_le (b : Nat) : ∀ l : List ByteArray, (∀ q ∈ l, q.size ≤ b) → tot l ≤ (b + 1) * l.length
  | [], _ => by simp [tot]
  | x :: r, h => by
    have h1 := tot_le b r (fun q hq => h q (by simp [hq]))
    have h2 := h x (by simp)
    unfold tot at *
    simp only [List.map_cons, List.sum_cons, List.length_cons, Nat.mul_add, Nat.mul_one]
    omega
theorem all_small {l : List ByteArray} {b : Nat} (h : ∀ j, j < l.length → (l.getD j ⟨#[]⟩).size ≤ b) : ∀ q ∈ l, q.size ≤ b := by
  intro q hq
  obtain ⟨j, hj, rfl⟩ := List.mem_iff_getElem.1 hq
  simpa [List.getD, hj] using h j hj
theorem joinB_le (l : List ByteArray) : (joinB l).size ≤ tot l + 1 := by
  by_cases h0 : l.length = 0
  · unfold joinB
    rw [if_pos h0]
    have : (⟨#[47]⟩ : ByteArray).size = 1 := rfl
    omega
  · rw [joinB_size h0]; omega

set_option maxRecDepth 4000 in
set_option maxHeartbeats 8000000 in
theorem lback_any (v : Value) (l : List ByteArray) (w : World) (hv : Sees w v (strs l)) :
    Calls Tryd.prog 5 #[v] w fun e w' => e = .returned (.bool true) ∧ Below w.heap.size w w' := by
  have HV : Hid (Sees w v (strs l)) := hv
  obtain ⟨lo, lc, rfl, h1, h2, h3, h4⟩ := hv
  rw [strs_len] at h1 h4 HV
  rw [strs_len]
  have H4 : Hid (_ → _) := h4
  have lm : (l.length : Int) ≤ 9223372036854775807 := by unfold maxLen at h2; omega
  clear h1 h2 h3 h4
  go_enter Tryd.func5, Tryd.ntmps5
  by_cases h10 : (10 : Int) < (l.length : Int)
  · clear H4 HV
    go_wp2_with fail
    go_at_call 9
    refine (awake4_any _).mono ?_
    rintro e1 w1 ⟨rfl, hb1⟩
    have H1 : Hid (Below w.heap.size w w1) := hb1
    clear hb1
    go_wp2
    go_ret
    exact ⟨rfl, H1.out⟩
  have i1 : (l.length : Int) ≤ 10 := by omega
  clear h10 lm
  go_wp2
  go_loop [3] (fun i => ∃ k : Nat, k ≤ l.length ∧ i = .int .i64 (k : Int) ∧ Hid (∀ j, j < k → (l.getD j ⟨#[]⟩).size ≤ 30)) (fun i => l.length - (intOf i).toNat)
  case atStart => exact ⟨0, Nat.zero_le _, rfl, fun j hj => absurd hj (Nat.not_lt_zero _)⟩
  case round =>
    obtain ⟨k, hk, rfl, HK⟩ := hrel
    by_cases hlt : k < l.length
    · obtain ⟨lb, lf, hlo, hlb, hlc⟩ := H4.out (by omega)
      subst hlo
      have c0 := hlc k _ (strs_at l k hlt)
      obtain ⟨x, hx⟩ : ∃ x, l.getD k ⟨#[]⟩ = x := ⟨_, rfl⟩
      rw [hx] at c0
      have j0 : (k : Int) < (l.length : Int) := by omega
      have j1 : (0 : Int) ≤ (k : Int) := by omega
      by_cases h30 : (30 : Int) < (x.size : Int)
      · clear hlc HK HV H4 hx
        go_wp2_with fail
        go_at_call 9
        refine (awake4_any _).mono ?_
        rintro e1 w1 ⟨rfl, hb1⟩
        have H1 : Hid (Below w.heap.size w w1) := hb1
        clear hb1
        go_wp2
        go_ret
        exact ⟨rfl, H1.out⟩
      · have h30' : (x.size : Int) ≤ 30 := by omega
        have HK2 : Hid (∀ j, j < k + 1 → (l.getD j ⟨#[]⟩).size ≤ 30) := fun j hj => by
          by_cases hjk : j = k
          · subst hjk; rw [hx]; omega
          · exact HK.out j (by omega)
        clear hlc HK HV H4 hx h30
        go_wp2
        go_round
        case rel => exact ⟨k + 1, by omega, by simp, HK2.out⟩
        case measure => simp [intOf]; omega
    · obtain rfl : k = l.length := by omega
      have ht := tot_le 30 l (all_small HK.out)
      have hsz := joinB_le l
      have mlx : 400 ≤ maxLen := by unfold maxLen; omega
      obtain ⟨P, hP⟩ : ∃ x, joinB l = x := ⟨_, rfl⟩
      have HJ : Hid (Calls Tryd.prog 24 _ _ _) := njoin_any _ l w HV.out (by omega)
      rw [hP] at HJ hsz
      have HZ : Hid (P.size ≤ 400) := by show _ ≤ _; omega
      have cp := split_code P
      have sm := split_small P
      obtain ⟨⟨m, f⟩, hm⟩ : ∃ x, splitB P = x := ⟨_, rfl⟩
      have HSp : Hid (∀ w, Calls Tryd.prog 10 #[.string P] w fun e w' => ∃ r, e = .returned (.tuple #[r, errV f]) ∧ Sees w' r (strs m) ∧ Below w.heap.size w w') := fun w => by
        have := nsplit_any P w (by have := HZ.out; omega)
        rw [hm] at this
        exact this
      rw [hm] at cp sm
      simp only at cp sm
      have HM : Hid (splitB P = (m, f)) := hm
      have HSM : Hid (m.length ≤ 6 ∧ ∀ q ∈ m, q.size ≤ 12) := sm
      have ml6 : (m.length : Int) ≤ 6 := by omega
      clear HK ht hsz hP hm sm mlx HV H4
      go_wp2_with fail
      go_at_call 24
      refine HJ.out.mono ?_
      rintro e1 w1 ⟨rfl, hb1⟩
      have H1 : Hid (Below w.heap.size w w1) := hb1
      clear hb1 HJ
      go_wp2_with fail
      go_at_call 10
      refine (HSp.out _).mono ?_
      rintro e2 w2 ⟨r2, rfl, hr2, hb2⟩
      have H2 : Hid (Sees w2 r2 (strs m) ∧ Below w.heap.size w w2) := ⟨hr2, bel2v H1.out hb2⟩
      clear hr2 hb2 H1 HSp
      obtain ⟨ao, ac, ha, hcap, hcm, _, hac⟩ := H2.out.1
      rw [strs_len] at ha hac hcap
      subst ha
      rcases cp with hf | ⟨hf, hm0⟩
      · subst hf
        have e0 : errV 0 = .nilIface := rfl
        rw [e0]
        have HPm : Hid (joinB m = P) := by
          show _ = _
          have := join_split (s := P) (by rw [HM.out])
          rw [HM.out] at this
          exact this
        have HJ2 : Hid (∀ w, Sees w (.slice ao m.length ac) (strs m) → Calls Tryd.prog 24 #[.slice ao m.length ac] w fun e w' => e = .returned (.string P) ∧ Below w.heap.size w w') := fun w hs => by
          have := njoin_any _ m w hs (by have := tot_small m HSM.out.2; have := HSM.out.1; omega)
          rw [HPm.out] at this
          exact this
        have HAC : Hid (_ → _) := hac
        have hcap' : (m.length : Int) ≤ (ac : Int) := by omega
        clear e0 hac hcap
        go_wp2_with fail
        go_at_call 24
        refine (HJ2.out _ H2.out.1).mono ?_
        rintro e3 w3 ⟨rfl, hb3⟩
        have H3 : Hid (Sees w3 (.slice ao m.length ac) (strs m) ∧ Below w.heap.size w w3) := ⟨H2.out.1.below hb3, bel2v H2.out.2 hb3⟩
        have HB3 : Hid (Below w2.heap.size w2 w3) := hb3
        clear hb3 HJ2
        rcases Nat.eq_zero_or_pos m.length with hl0 | hl0
        · have HPr : Hid (∀ w, Calls Tryd.prog 12 #[.string P] w fun e w' => e = .returned (.tuple #[.string ⟨#[]⟩, .string ⟨#[]⟩, errV 2]) ∧ Below w.heap.size w w') := fun w => by
            have := nparent_any P w (by have := HZ.out; unfold maxLen; omega)
            have e : parentB P = (⟨#[]⟩, ⟨#[]⟩, 2) := by unfold parentB; rw [HM.out, if_neg (by simp), if_pos hl0]
            rw [e] at this
            exact this
          obtain ⟨ev, he⟩ : ∃ v, errV 2 = v := ⟨_, rfl⟩
          rw [he] at HPr
          have HC : Hid (∀ w, Calls Tryd.prog 15 #[ev] w fun e w' => e = .returned (.int .i64 2) ∧ w' = w) := fun w => by rw [← he]; exact code_any 2 w (by decide)
          rw [hl0]
          clear HAC he
          go_wp2_with fail
          go_at_call 12
          refine (HPr.out _).mono ?_
          rintro e4 w4 ⟨rfl, hb4⟩
          have H5 : Hid (Below w.heap.size w w4) := bel2v H3.out.2 hb4
          clear hb4 HPr H3
          go_wp2_with fail
          go_at_call 15
          refine (HC.out _).mono ?_
          rintro e6 w6 ⟨rfl, rfl⟩
          clear HC
          go_wp2_with fail
          go_at_call 9
          refine (awake4_any _).mono ?_
          rintro e7 w7 ⟨rfl, hb7⟩
          have H7 : Hid (Below w.heap.size w w7) := bel2v H5.out hb7
          clear hb7 H5
          go_wp2
          go_ret
          exact ⟨by simp, H7.out⟩
        · obtain ⟨t, hmt⟩ : ∃ t, m.length = t + 1 := ⟨m.length - 1, by omega⟩
          have PU := parent_under (s := P) (by rw [HM.out]) (by rw [HM.out]; show m.length ≠ 0; omega)
          rw [HM.out] at PU
          simp only at PU
          rw [hmt, Nat.add_sub_cancel] at PU
          have hdz := joinB_le (m.take t)
          have htt := tot_take m t
          have hts := tot_small m HSM.out.2
          obtain ⟨D, hD⟩ : ∃ x, joinB (m.take t) = x := ⟨_, rfl⟩
          have HJD : Hid (∀ w, Sees w (.slice ao t ac) (strs (m.take t)) → Calls Tryd.prog 24 #[.slice ao t ac] w fun e w' => e = .returned (.string D) ∧ Below w.heap.size w w') := fun w hs => by
            have := njoin_any _ (m.take t) w hs (by have := HSM.out.1; omega)
            rw [hD] at this
            exact this
          rw [hD] at PU hdz
          obtain ⟨PU1, PU2, PU3⟩ := PU
          obtain ⟨N, hN⟩ : ∃ x, m.getD t ⟨#[]⟩ = x := ⟨_, rfl⟩
          rw [hN] at PU1
          have HPr : Hid (∀ w, Calls Tryd.prog 12 #[.string P] w fun e w' => e = .returned (.tuple #[.string D, .string N, .nilIface]) ∧ Below w.heap.size w w') := fun w => by
            have := nparent_any P w (by have := HZ.out; unfold maxLen; omega)
            rw [PU1] at this
            exact this
          have HU1 := nunder_at PU2 (by have := HZ.out; unfold maxLen; omega) (by have := HSM.out.1; unfold maxLen; omega)
          have HU2 := nunder_at PU3 (by have := HSM.out.1; unfold maxLen; omega) (by have := HZ.out; unfold maxLen; omega)
          obtain ⟨b, off, hao, hbl, hc⟩ := HAC.out hl0
          subst hao
          have HSE : Hid (Sees w3 (.slice (some ⟨b, off, none⟩) t ac) (strs (m.take t))) := Sees.cut H3.out.1 t (by omega)
          have c1 := hc t _ (strs_at m t (by omega))
          rw [hN] at c1
          have HCN : Hid (b < w3.heap.size ∧ w3.cell? ⟨b, off + t, none⟩ = some (.string N)) := ⟨by have := HB3.out.size; show b < _; omega, (HB3.out.cell (by exact hbl)).trans c1⟩
          rw [hmt]
          have t6 : (t : Int) ≤ 6 := by omega
          have t0 : (0 : Int) ≤ (t : Int) := by omega
          have tc : (t : Int) ≤ (ac : Int) := by omega
          have f0 : (t : Int) + 1 - 1 = (t : Int) := by omega
          have f1 : (t : Int) < (t : Int) + 1 := by omega
          have H33 : Hid (Below w.heap.size w w3) := H3.out.2
          clear HAC hc hbl c1 hN hD hdz htt hts PU1 PU2 PU3 hl0 hmt H2 H3 HB3 HPm hcap' ml6
          go_wp2_with fail
          go_at_call 12
          refine (HPr.out _).mono ?_
          rintro e4 w4 ⟨rfl, hb4⟩
          have c2 := (hb4.cell (by exact HCN.out.1)).trans HCN.out.2
          have H4 : Hid (Sees w4 (.slice (some ⟨b, off, none⟩) t ac) (strs (m.take t)) ∧ Below w.heap.size w w4) := ⟨HSE.out.below hb4, bel2v H33.out hb4⟩
          clear hb4 HPr H33 HSE HCN
          go_wp2_with fail
          go_at_call 24
          refine (HJD.out _ H4.out.1).mono ?_
          rintro e5 w5 ⟨rfl, hb5⟩
          have H5 : Hid (Below w.heap.size w w5) := bel2v H4.out.2 hb5
          clear hb5 HJD H4 c2
          go_wp2_with fail
          go_at_call 16
          refine (HU1.out _).mono ?_
          rintro e6 w6 ⟨rfl, hb6⟩
          have H6 : Hid (Below w.heap.size w w6) := bel2v H5.out hb6
          clear hb6 HU1 H5
          go_wp2_with fail
          go_at_call 16
          refine (HU2.out _).mono ?_
          rintro e7 w7 ⟨rfl, hb7⟩
          have H7 : Hid (Below w.heap.size w w7) := bel2v H6.out hb7
          clear hb7 HU2 H6
          go_wp2_with fail
          go_at_call 9
          refine (awake4_any _).mono ?_
          rintro e8 w8 ⟨rfl, hb8⟩
          have H8 : Hid (Below w.heap.size w w8) := bel2v H7.out hb8
          clear hb8 H7
          go_wp2
          go_ret
          exact ⟨by simp, H8.out⟩
      · subst hm0
        have e1 : (f == 0) = false := beq_eq_false_iff_ne.2 hf
        have e2 : (f != 0) = true := by simp [hf]
        have HT : Hid (∀ w, Calls Tryd.prog 11 #[.string P] w fun e w' => ∃ r, e = .returned (.tuple #[r, .int .i64 f]) ∧ Below w.heap.size w w') := fun w => by
          refine (split_any P w (by have := HZ.out; unfold maxLen; omega)).mono ?_
          rintro e w' ⟨r, rfl, _, h⟩
          exact ⟨r, by rw [HM.out], h⟩
        have HE : Hid (errV f = .iface 49 (.int .i64 f)) := by show _ = _; unfold errV; rw [if_neg hf]
        have HC : Hid (∀ w, Calls Tryd.prog 15 #[.iface 49 (.int .i64 f)] w fun e w' => e = .returned (.int .i64 f) ∧ w' = w) := fun w => by
          rw [← HE.out]
          have := split_range P
          rw [HM.out] at this
          exact code_any f w this
        rw [HE.out]
        have H22 : Hid (Below w.heap.size w w2) := H2.out.2
        clear hf HE hac hcap H2
        go_wp2_with fail
        go_at_call 11
        refine (HT.out _).mono ?_
        rintro e3 w3 ⟨r3, rfl, hb3⟩
        have H3 : Hid (Below w.heap.size w w3) := bel2v H22.out hb3
        clear hb3 HT H22
        go_wp2_with fail
        go_at_call 15
        refine (HC.out _).mono ?_
        rintro e4 w4 ⟨rfl, rfl⟩
        clear HC
        go_wp2_with fail
        go_at_call 9
        refine (awake4_any _).mono ?_
        rintro e5 w5 ⟨rfl, hb5⟩
        have H5 : Hid (Below w.heap.size w w5) := bel2v H3.out hb5
        clear hb5 H3
        go_wp2
        go_ret
        exact ⟨by simp, H5.out⟩
end Go.Proofs.YtlnhkdiecfccaaaDoor
