/- package life: where a number stands among the things. -/
import Derived.Test.YtbkciencikdacaaFBook
import Derived.Deep.LoopGhost
namespace Go.Proofs.Ytbkciencikdacaa
open Go.RowKit Kit
set_option linter.unusedVariables false

theorem cmpI_lt {a b : Int} : cmpI a b < 0 ↔ a < b := by
  unfold cmpI
  by_cases h1 : a < b
  · rw [if_pos h1]; omega
  · rw [if_neg h1]
    by_cases h2 : b < a
    · rw [if_pos h2]; omega
    · rw [if_neg h2]; omega
theorem cmpI_eq {a b : Int} : cmpI a b = 0 ↔ a = b := by
  unfold cmpI
  by_cases h1 : a < b
  · rw [if_pos h1]; omega
  · rw [if_neg h1]
    by_cases h2 : b < a
    · rw [if_pos h2]; omega
    · rw [if_neg h2]; omega
set_option maxRecDepth 4000 in
set_option maxHeartbeats 8000000 in
theorem fbin_any (v : Value) (ps : List Th) (s : Int) (w : World) (h : SeesE thE w v ps) (hr : Asc ps) (hsm : ps.length ≤ 100000) :
    Calls Try.prog 45 #[v, .int .i64 s, .func (.func 46) #[] #[]] w fun e w' => e = .returned (.tuple #[.int .i64 (lowT ps s : Nat), .bool (hasT ps s)]) ∧ Below w.heap.size w w' := by
  obtain ⟨ao, cap, rfl⟩ := h.form
  obtain ⟨n, hn⟩ : ∃ n, n = ps.length := ⟨_, rfl⟩
  rw [← hn] at h ⊢
  have lm : (n : Int) ≤ 100000 := by omega
  have HC : Hid (∀ a b c w, Calls Try.prog 46 #[.agg #[.int .i64 a, .int .i64 b, .int .i64 c], .int .i64 s] w fun e w' => e = .returned (.int .i64 (cmpI a s)) ∧ Below w.heap.size w w') := fun a b c w => fcmp_any a b c s w
  have H4 : Hid (SeesE thE w (.slice ao n cap) ps) := h
  have HR : Hid (Asc ps ∧ n = ps.length) := ⟨hr, hn⟩
  clear h hr hsm hn
  go_enter Try.func45, Try.ntmps45
  go_wp2
  go_loopg [9, 10] n (fun kx s9 s10 wr => ∃ lo hi : Nat, s9 = .int .i64 lo ∧ s10 = .int .i64 hi ∧ lo ≤ hi ∧ hi ≤ n ∧ hi - lo ≤ kx ∧ Hid (Below w.heap.size w wr) ∧
    Hid ((∀ j (hj : j < ps.length), j < lo → ps[j].id < s) ∧ (∀ j (hj : j < ps.length), hi ≤ j → ¬ ps[j].id < s)))
  case atStart => exact ⟨0, n, rfl, rfl, Nat.zero_le _, Nat.le_refl _, by omega, Below.refl _ _, ⟨fun j hj h => by omega, fun j hj h => by have := HR.out.2; omega⟩⟩
  case round =>
    obtain ⟨lo, hi, rfl, rfl, hlh, hin, hg, HB, HI⟩ := hrel
    by_cases hlt : lo < hi
    · obtain ⟨b, off, hao, hnn, hb, hc⟩ := th_cells H4.out (by have := HR.out.2; omega)
      clear hnn
      subst hao
      obtain ⟨m, hm⟩ : ∃ m : Nat, m = (lo + hi) / 2 := ⟨_, rfl⟩
      have hm2 : ((lo : Int) + (hi : Int)) / 2 = (m : Int) := by omega
      have ml : m < ps.length := by have := HR.out.2; omega
      have mi : (m : Int) < (n : Int) := by have := HR.out.2; omega
      obtain ⟨c0, c1, c2⟩ := hc m ml
      obtain ⟨t, ht⟩ : ∃ t, ps[m] = t := ⟨_, rfl⟩
      rw [ht] at c0 c1 c2
      have HX : Hid (ps[m].id = t.id) := by rw [ht]; exact rfl
      obtain ⟨x, y, z⟩ := t
      simp only at c0 c1 c2 HX
      have c0 := (HB.out.cell hb).trans c0
      have c1 := (HB.out.cell hb).trans c1
      have c2 := (HB.out.cell hb).trans c2
      have HM : Hid (m = (lo + hi) / 2) := hm
      clear hc hm ht
      by_cases hyx : cmpI x s < 0
      · go_wp2_with (go_at_call 46; refine (HC.out _ _ _ _).mono ?_; rintro e w' ⟨rfl, hbe⟩; have HBE : Hid (Below wr.heap.size wr w') := hbe; clear hbe)
        go_roundg (hi - (m + 1))
        case measure => have := HM.out; omega
        case rel =>
          have := HM.out
          refine ⟨m + 1, hi, by simp, rfl, by omega, hin, Nat.le_refl _, bel_tr HB.out HBE.out, ⟨fun j hj hl => ?_, HI.out.2⟩⟩
          have hx := cmpI_lt.1 hyx
          by_cases e : j = m
          · subst e; rw [HX.out]; exact hx
          · have h1 := List.pairwise_iff_getElem.1 HR.out.1 j m (by simpa using hj) (by simpa using ml) (by omega)
            rw [HX.out] at h1
            omega
      · have HY : Hid (¬ cmpI x s < 0) := hyx
        go_wp2_with (go_at_call 46; refine (HC.out _ _ _ _).mono ?_; rintro e w' ⟨rfl, hbe⟩; have HBE : Hid (Below wr.heap.size wr w') := hbe; clear hbe)
        go_roundg (m - lo)
        case measure => have := HM.out; omega
        case rel =>
          have := HM.out
          refine ⟨lo, m, rfl, rfl, by omega, by omega, Nat.le_refl _, bel_tr HB.out HBE.out, ⟨HI.out.1, fun j hj hl => ?_⟩⟩
          have hx : s ≤ x := by
            have h0 : 0 ≤ cmpI x s := HY.out
            have h1 := (cmpI_lt (a := x) (b := s)).2
            omega
          by_cases e : j = m
          · subst e; rw [HX.out]; omega
          · have h1 := List.pairwise_iff_getElem.1 HR.out.1 m j (by simpa using ml) (by simpa using hj) (by omega)
            rw [HX.out] at h1
            omega
    · obtain rfl : lo = hi := by omega
      have HL : Hid (lowT ps s = lo) := low_ofT HR.out.1 (by have := HR.out.2; omega) HI.out.1 HI.out.2
      have HM := low_memT (id := s) HR.out.1
      rw [HL.out] at HM
      by_cases hn : lo < ps.length
      · obtain ⟨b, off, hao, hnn, hb, hc⟩ := th_cells H4.out (by omega)
        clear hnn
        subst hao
        have mi : (lo : Int) < (n : Int) := by have := HR.out.2; omega
        obtain ⟨c0, c1, c2⟩ := hc lo hn
        obtain ⟨t, ht⟩ : ∃ t, ps[lo] = t := ⟨_, rfl⟩
        rw [ht] at c0 c1 c2
        have HB2 : Hid (hasT ps s = decide (cmpI t.id s = 0)) := by
          show _ = _
          rw [Bool.eq_iff_iff, HM, decide_eq_true_iff, cmpI_eq, ← ht]
          exact ⟨fun ⟨_, h⟩ => h, fun h => ⟨hn, h⟩⟩
        obtain ⟨x, y, z⟩ := t
        simp only at c0 c1 c2 HB2
        have c0 := (HB.out.cell hb).trans c0
        have c1 := (HB.out.cell hb).trans c1
        have c2 := (HB.out.cell hb).trans c2
        clear hc HM ht
        by_cases hyx : cmpI x s = 0
        · have HB3 : Hid (hasT ps s = true) := by show _ = _; rw [HB2.out]; exact decide_eq_true hyx
          clear HB2
          go_wp2_with (go_at_call 46; refine (HC.out _ _ _ _).mono ?_; rintro e w' ⟨rfl, hbe⟩; have HBE : Hid (Below wr.heap.size wr w') := hbe; clear hbe)
          go_ret2
          exact ⟨by rw [HL.out, HB3.out]; rfl, bel_tr HB.out HBE.out⟩
        · have HB3 : Hid (hasT ps s = false) := by show _ = _; rw [HB2.out]; exact decide_eq_false hyx
          clear HB2
          have hye : (cmpI x s == 0) = false := beq_eq_false_iff_ne.2 hyx
          go_wp2_with (go_at_call 46; refine (HC.out _ _ _ _).mono ?_; rintro e w' ⟨rfl, hbe⟩; have HBE : Hid (Below wr.heap.size wr w') := hbe; clear hbe)
          go_ret2
          exact ⟨by rw [HL.out, HB3.out]; rfl, bel_tr HB.out HBE.out⟩
      · have HF : Hid (hasT ps s = false) := by
          show _ = _
          rw [Bool.eq_false_iff]
          intro h
          obtain ⟨h1, _⟩ := HM.1 h
          omega
        have mi : ¬ (lo : Int) < (n : Int) := by have := HR.out.2; omega
        clear HM
        go_wp2
        go_ret2
        exact ⟨by rw [HL.out, HF.out]; rfl, HB.out⟩
set_option maxRecDepth 4000 in
set_option maxHeartbeats 4000000 in
theorem fplace_any (pv : Value) (ps : List Th) (s : Int) (w : World) (h : SeesB w pv ps) (hr : Asc ps) (hsm : ps.length ≤ 100000) :
    Calls Try.prog 32 #[pv, .int .i64 s] w fun e w' => e = .returned (.tuple #[.int .i64 (lowT ps s : Nat), .bool (hasT ps s)]) ∧ Below w.heap.size w w' := by
  have HA : Hid (Calls Try.prog 33 #[pv] w fun e w' => ∃ v, e = .returned v ∧ SeesE thE w v ps ∧ w' = w) := fall_any pv ps w h
  have HB : Hid (∀ v, SeesE thE w v ps → Calls Try.prog 45 #[v, .int .i64 s, .func (.func 46) #[] #[]] w fun e w' => e = .returned (.tuple #[.int .i64 (lowT ps s : Nat), .bool (hasT ps s)]) ∧ Below w.heap.size w w') := fun v hv => fbin_any v ps s w hv hr hsm
  clear h hr hsm
  go_enter Try.func32, Try.ntmps32
  go_wp2_with fail
  go_at_call 33
  refine HA.out.mono ?_
  rintro e w1 ⟨v, rfl, hs, hw⟩
  subst w1
  have HS : Hid (SeesE thE w v ps) := hs
  clear hs HA
  go_wp2_with fail
  go_at_call 45
  refine (HB.out _ HS.out).mono ?_
  rintro e w2 ⟨rfl, hb⟩
  go_wp2
  go_ret2
  exact ⟨rfl, hb⟩
end Go.Proofs.Ytbkciencikdacaa
