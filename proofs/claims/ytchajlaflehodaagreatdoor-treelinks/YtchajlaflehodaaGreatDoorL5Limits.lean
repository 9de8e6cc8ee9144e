/- dolmenlaw5.TreeLimits. -/
import Derived.Test.YtchajlaflehodaaGreatDoorG7
namespace Go.Proofs.YtchajlaflehodaaGreatDoor
open Go.RowKit Kit
set_option linter.unusedVariables false

theorem lim_step (k : Int) (hk : k = 1 ∨ k = 2) (i : Nat) (hi : i < 80) : (doB (limT k i) (opB k (pth i))).2.2 = (if i < 59 then 0 else 16) ∧ (i < 59 → (doB (limT k i) (opB k (pth i))).2.1.ino = i + 2) := by
  have h : limA k i = true := by
    rcases hk with rfl | rfl
    · exact limA1 i hi
    · exact limA2 i hi
  simp only [limA, Bool.and_eq_true, decide_eq_true_eq] at h
  exact h
theorem lim_end (k : Int) (hk : k = 1 ∨ k = 2) (n : Nat) (hn : n < 81) (h0 : 0 < n) : (doB (limT k n) (opB (goneK k) p0)).2.2 = 0 ∧ (doB (doB (limT k n) (opB (goneK k) p0)).1 (opB k pNew)).2.2 = 0 ∧ (doB (doB (limT k n) (opB (goneK k) p0)).1 (opB k pNew)).2.1.ino = (min n 59 : Nat) + 2 := by
  have h : limE k n = true := by
    rcases hk with rfl | rfl
    · exact limE1 n hn h0
    · exact limE2 n hn h0
  simp only [limE, Bool.and_eq_true, decide_eq_true_eq] at h
  exact ⟨h.1.1, h.1.2, h.2⟩
theorem decS_small (i : Nat) : (decS i).size ≤ 2 := by
  unfold decS decL
  split <;> simp [strOf, ByteArray.size]
theorem pN_small (i : Nat) : ((⟨#[47, 110]⟩ : ByteArray) ++ decS i).size ≤ 10 := by
  have := decS_small i
  rw [ByteArray.size_append]
  have h2 : (⟨#[47, 110]⟩ : ByteArray).size = 2 := rfl
  omega
theorem empty_small : (⟨#[]⟩ : ByteArray).size ≤ maxLen := by decide
/-- Do, of one that makes or takes away. -/
theorem ldo1 (k : Int) (q : ByteArray) (hq : q.size ≤ 10) (w0 w : World) (p b : Nat) (t : TreeB) (h : Own w0 w p b t) (hc : (doB t (opB k q)).2.2 = 0) :
    Calls Tryz.prog 13 #[.pointer (some ⟨p, 0, none⟩), .agg #[.int .i64 k, .string q, .string ⟨#[]⟩, .int .i64 0, .int .i64 0, .slice none 0 0, .int .i64 0]] w fun e w' => Took w0 w p b (doB t (opB k q)).1 (doB t (opB k q)).2.1 e w' :=
  ldo_ok (opB k q) none 0 w0 w p b t _ _ h (by show q.size ≤ maxLen; unfold maxLen; omega) empty_small bytesIn_nil (sees_noData _) (Prod.ext rfl (Prod.ext rfl hc))
theorem ldo1e (k : Int) (q : ByteArray) (hq : q.size ≤ 10) (w0 w : World) (p b : Nat) (t : TreeB) (h : Own w0 w p b t) (c : Int) (hc : (doB t (opB k q)).2.2 = c) (h0 : c ≠ 0) :
    Calls Tryz.prog 13 #[.pointer (some ⟨p, 0, none⟩), .agg #[.int .i64 k, .string q, .string ⟨#[]⟩, .int .i64 0, .int .i64 0, .slice none 0 0, .int .i64 0]] w fun e w' => Fell w0 w p b (doB t (opB k q)).1 (doB t (opB k q)).2.1 c q e w' :=
  ldo_err (opB k q) none 0 w0 w p b t _ _ c h (by show q.size ≤ maxLen; unfold maxLen; omega) empty_small bytesIn_nil (sees_noData _) (Prod.ext rfl (Prod.ext rfl hc)) h0
set_option maxRecDepth 4000 in
set_option maxHeartbeats 8000000 in
theorem limits_in (n : Nat) (dirs : Bool) (w : World) (hg : Tied w) (hn : n < 81) : Calls Tryz.prog 8 #[.int .i64 n, .bool dirs] w fun e w' => e = .returned (.bool true) ∧ Below w.heap.size w w' := by
  have HG : Hid (Tied w) := hg
  have HN : Hid (Calls Tryz.prog 12 _ _ _) := lnew w
  have HAW : Hid (∀ w1, Tied w1 → Calls Tryz.prog 11 #[] w1 fun e w' => e = .returned (.bool true) ∧ Below w1.heap.size w1 w') := fun w1 h => awake5_any w1 h
  have HDec : Hid (∀ (i : Nat) w1, i < 100 → Calls Tryz.prog 22 #[.int .i64 i] w1 fun e w' => e = .returned (.string (decS i)) ∧ Below w1.heap.size w1 w') := fun i w1 h => decimal_any i w1 h
  have HCD : Hid (∀ w1 g (q : ByteArray), q.size ≤ 10 → w1.heap[g]? = some (.cells #[.string treeS, .string q, .iface 68 (.int .i64 16)] 90) → Calls Tryz.prog 21 #[.iface 86 (.pointer (some ⟨g, 0, none⟩))] w1 fun e w' => e = .returned (.int .i64 16) ∧ Below w1.heap.size w1 w') := fun w1 g q hq h => code_fault 16 w1 g treeS q (by omega) (by omega) h (by decide) (by omega)
  have HD : Hid (∀ (k : Int) (q : ByteArray) w1 p b t, q.size ≤ 10 → Own w w1 p b t → (doB t (opB k q)).2.2 = 0 → Calls Tryz.prog 13 #[.pointer (some ⟨p, 0, none⟩), .agg #[.int .i64 k, .string q, .string ⟨#[]⟩, .int .i64 0, .int .i64 0, .slice none 0 0, .int .i64 0]] w1 fun e w' => Took w w1 p b (doB t (opB k q)).1 (doB t (opB k q)).2.1 e w') := fun k q w1 p b t hq h hc => ldo1 k q hq w w1 p b t h hc
  have HF : Hid (∀ (k : Int) (q : ByteArray) w1 p b t, q.size ≤ 10 → Own w w1 p b t → (doB t (opB k q)).2.2 = 16 → Calls Tryz.prog 13 #[.pointer (some ⟨p, 0, none⟩), .agg #[.int .i64 k, .string q, .string ⟨#[]⟩, .int .i64 0, .int .i64 0, .slice none 0 0, .int .i64 0]] w1 fun e w' => Fell w w1 p b (doB t (opB k q)).1 (doB t (opB k q)).2.1 16 q e w') := fun k q w1 p b t hq h hc => ldo1e k q hq w w1 p b t h 16 hc (by decide)
  have hn1 : ¬ (80 : Int) < (n : Int) := by omega
  have hn0 : ¬ (n : Int) < 0 := by omega
  have HNN : Hid (n < 81) := hn
  clear hg hn
  cases dirs
  · have HS : Hid (∀ i, i < 80 → _) := lim_step 1 (by decide)
    have HE : Hid (∀ m, m < 81 → 0 < m → _) := lim_end 1 (by decide)
    go_enter Tryz.func8, Tryz.ntmps8
    go_wp2_with fail
    go_at_call 12
    refine HN.out.mono ?_
    rintro e w1 ⟨p, b, rfl, HO⟩
    clear HN
    go_wp2_with fail
    go_loopw [8] (fun s8 wr => ∃ i : Nat, i ≤ n ∧ s8 = .int .i64 (i : Int) ∧ Hid (Own w wr p b (limT 1 i))) (fun s8 _ => n - (intOf s8).toNat)
    case atStart => exact ⟨0, Nat.zero_le _, rfl, HO⟩
    case round =>
      obtain ⟨i, hi, rfl, HOi⟩ := hrel
      clear HO
      by_cases hin : i < n
      · have hii : (i : Int) < (n : Int) := by omega
        have hi8 : i < 80 := by have := HNN.out; omega
        go_wp2_with fail
        go_at_call 22
        refine (HDec.out i _ (by omega)).mono ?_
        rintro e w2 ⟨rfl, hb2⟩
        have HO2 : Hid (Own w w2 p b (limT 1 i)) := HOi.out.below hb2
        have hsz : ¬ 9223372036854775807 < 2 + (decS i).size := by have := decS_small i; omega
        clear hb2 HOi HDec
        go_wp2_with fail
        by_cases h59 : i < 59
        · have h59i : (i : Int) < 59 := by omega
          have hc : (doB (limT 1 i) (opB 1 ((⟨#[47, 110]⟩ : ByteArray) ++ decS i))).2.2 = 0 := by
            have := (HS.out i hi8).1
            rw [if_pos h59] at this
            exact this
          have hI : (doB (limT 1 i) (opB 1 ((⟨#[47, 110]⟩ : ByteArray) ++ decS i))).2.1.ino = (i : Int) + 2 := (HS.out i hi8).2 h59
          have HT1 : Hid ((doB (limT 1 i) (opB 1 ((⟨#[47, 110]⟩ : ByteArray) ++ decS i))).1 = limT 1 (i + 1)) := rfl
          have HX : Hid (Calls Tryz.prog 13 _ _ _) := HD.out 1 ((⟨#[47, 110]⟩ : ByteArray) ++ decS i) w2 p b (limT 1 i) (pN_small i) HO2.out hc
          rw [HT1.out] at HX
          generalize (doB (limT 1 i) (opB 1 ((⟨#[47, 110]⟩ : ByteArray) ++ decS i))).2.1 = r at HX hI
          clear hc HT1 HD HF HS HE
          go_at_call 13
          refine HX.out.mono ?_
          rintro e w3 ⟨ra, rc, na, nc, sa, sc, rfl, HT⟩
          have HO3 : Hid (Own w w3 p b (limT 1 (i + 1))) := HT.out.2.2.1
          clear HT HX HO2
          go_wp2
          go_round
          case rel => exact ⟨i + 1, by omega, by go_num, HO3.out.below (bel_new _ _)⟩
          case measure => simp [intOf]; omega
        · have h59i : ¬ (i : Int) < 59 := by omega
          have hc : (doB (limT 1 i) (opB 1 ((⟨#[47, 110]⟩ : ByteArray) ++ decS i))).2.2 = 16 := by
            have := (HS.out i hi8).1
            rw [if_neg h59] at this
            exact this
          have HT1 : Hid ((doB (limT 1 i) (opB 1 ((⟨#[47, 110]⟩ : ByteArray) ++ decS i))).1 = limT 1 (i + 1)) := rfl
          have HX : Hid (Calls Tryz.prog 13 _ _ _) := HF.out 1 ((⟨#[47, 110]⟩ : ByteArray) ++ decS i) w2 p b (limT 1 i) (pN_small i) HO2.out hc
          rw [HT1.out] at HX
          generalize (doB (limT 1 i) (opB 1 ((⟨#[47, 110]⟩ : ByteArray) ++ decS i))).2.1 = r at HX
          clear hc HT1 HD HF HS HE
          go_at_call 13
          refine HX.out.mono ?_
          rintro e w3 ⟨ra, rc, na, nc, sa, sc, g, rfl, HT⟩
          clear HX HO2
          go_wp2_with fail
          go_at_call 21
          refine (HCD.out _ _ _ (pN_small i) (below_block (bel_new _ _) HT.out.1)).mono ?_
          rintro e w4 ⟨rfl, hb4⟩
          have HO4 : Hid (Own w w4 p b (limT 1 (i + 1))) := (HT.out.2.1.below (bel_new _ _)).below hb4
          clear hb4 HT
          go_wp2
          go_round
          case rel => exact ⟨i + 1, by omega, by go_num, HO4⟩
          case measure => simp [intOf]; omega
      · have hii : ¬ (i : Int) < (n : Int) := by omega
        have hie : i = n := by omega
        subst hie
        clear hi hin
        by_cases h0 : i < 1
        · have h0i : (i : Int) < 1 := by omega
          go_wp2_with fail
          go_at_call 11
          refine (HAW.out _ (tied_below HG.out HOi.out.bel)).mono ?_
          rintro e w2 ⟨rfl, hb2⟩
          go_wp2
          go_ret
          exact ⟨rfl, bel2e HOi.out.bel hb2⟩
        · have h0i : ¬ (i : Int) < 1 := by omega
          obtain ⟨e1, e2, e3⟩ := HE.out i HNN.out (by omega)
          have HX1 : Hid (Calls Tryz.prog 13 _ _ _) := HD.out 3 ⟨#[47, 110, 48]⟩ wr p b (limT 1 i) (by decide) HOi.out e1
          have HX2 : Hid (∀ w2, Own w w2 p b (doB (limT 1 i) (opB 3 ⟨#[47, 110, 48]⟩)).1 → Calls Tryz.prog 13 _ w2 _) := fun w2 h => HD.out 1 ⟨#[47, 110, 101, 119]⟩ w2 p b (doB (limT 1 i) (opB 3 ⟨#[47, 110, 48]⟩)).1 (by decide) h e2
          have hI : (doB (doB (limT 1 i) (opB 3 ⟨#[47, 110, 48]⟩)).1 (opB 1 ⟨#[47, 110, 101, 119]⟩)).2.1.ino = (min i 59 : Nat) + 2 := e3
          have hmm : ((min i 59 : Nat) : Int) = min (i : Int) 59 := by omega
          rw [hmm] at hI
          clear hmm e1 e2 e3 HE HS HD HF
          generalize (doB (doB (limT 1 i) (opB 3 ⟨#[47, 110, 48]⟩)).1 (opB 1 ⟨#[47, 110, 101, 119]⟩)).2.1 = r2 at HX2 hI
          generalize (doB (doB (limT 1 i) (opB 3 ⟨#[47, 110, 48]⟩)).1 (opB 1 ⟨#[47, 110, 101, 119]⟩)).1 = t2 at HX2
          generalize (doB (limT 1 i) (opB 3 ⟨#[47, 110, 48]⟩)).1 = t1 at HX1 HX2
          generalize (doB (limT 1 i) (opB 3 ⟨#[47, 110, 48]⟩)).2.1 = r1 at HX1
          go_wp2_with fail
          go_at_call 13
          refine HX1.out.mono ?_
          rintro e w2 ⟨ra, rc, na, nc, sa, sc, rfl, HT⟩
          have HO2 : Hid (Own w w2 p b t1) := HT.out.2.2.1
          clear HT HX1 HOi
          go_wp2_with fail
          go_at_call 13
          refine (HX2.out _ (HO2.out.below (bel_new _ _))).mono ?_
          rintro e w3 ⟨ra2, rc2, na2, nc2, sa2, sc2, rfl, HT⟩
          have HO3 : Hid (Own w w3 p b t2) := HT.out.2.2.1
          clear HT HX2 HO2
          go_wp2_with fail
          go_at_call 11
          refine (HAW.out _ (tied_below HG.out (HO3.out.below (bel_new _ _)).bel)).mono ?_
          rintro e w4 ⟨rfl, hb4⟩
          have HB4 : Hid (Below w.heap.size w w4) := bel2e (HO3.out.below (bel_new _ _)).bel hb4
          clear hb4 HO3
          go_wp2
          go_ret
          exact ⟨rfl, HB4.out⟩
  · have HS : Hid (∀ i, i < 80 → _) := lim_step 2 (by decide)
    have HE : Hid (∀ m, m < 81 → 0 < m → _) := lim_end 2 (by decide)
    go_enter Tryz.func8, Tryz.ntmps8
    go_wp2_with fail
    go_at_call 12
    refine HN.out.mono ?_
    rintro e w1 ⟨p, b, rfl, HO⟩
    clear HN
    go_wp2_with fail
    go_loopw [8] (fun s8 wr => ∃ i : Nat, i ≤ n ∧ s8 = .int .i64 (i : Int) ∧ Hid (Own w wr p b (limT 2 i))) (fun s8 _ => n - (intOf s8).toNat)
    case atStart => exact ⟨0, Nat.zero_le _, rfl, HO⟩
    case round =>
      obtain ⟨i, hi, rfl, HOi⟩ := hrel
      clear HO
      by_cases hin : i < n
      · have hii : (i : Int) < (n : Int) := by omega
        have hi8 : i < 80 := by have := HNN.out; omega
        go_wp2_with fail
        go_at_call 22
        refine (HDec.out i _ (by omega)).mono ?_
        rintro e w2 ⟨rfl, hb2⟩
        have HO2 : Hid (Own w w2 p b (limT 2 i)) := HOi.out.below hb2
        have hsz : ¬ 9223372036854775807 < 2 + (decS i).size := by have := decS_small i; omega
        clear hb2 HOi HDec
        go_wp2_with fail
        by_cases h59 : i < 59
        · have h59i : (i : Int) < 59 := by omega
          have hc : (doB (limT 2 i) (opB 2 ((⟨#[47, 110]⟩ : ByteArray) ++ decS i))).2.2 = 0 := by
            have := (HS.out i hi8).1
            rw [if_pos h59] at this
            exact this
          have hI : (doB (limT 2 i) (opB 2 ((⟨#[47, 110]⟩ : ByteArray) ++ decS i))).2.1.ino = (i : Int) + 2 := (HS.out i hi8).2 h59
          have HT1 : Hid ((doB (limT 2 i) (opB 2 ((⟨#[47, 110]⟩ : ByteArray) ++ decS i))).1 = limT 2 (i + 1)) := rfl
          have HX : Hid (Calls Tryz.prog 13 _ _ _) := HD.out 2 ((⟨#[47, 110]⟩ : ByteArray) ++ decS i) w2 p b (limT 2 i) (pN_small i) HO2.out hc
          rw [HT1.out] at HX
          generalize (doB (limT 2 i) (opB 2 ((⟨#[47, 110]⟩ : ByteArray) ++ decS i))).2.1 = r at HX hI
          clear hc HT1 HD HF HS HE
          go_at_call 13
          refine HX.out.mono ?_
          rintro e w3 ⟨ra, rc, na, nc, sa, sc, rfl, HT⟩
          have HO3 : Hid (Own w w3 p b (limT 2 (i + 1))) := HT.out.2.2.1
          clear HT HX HO2
          go_wp2
          go_round
          case rel => exact ⟨i + 1, by omega, by go_num, HO3.out.below (bel_new _ _)⟩
          case measure => simp [intOf]; omega
        · have h59i : ¬ (i : Int) < 59 := by omega
          have hc : (doB (limT 2 i) (opB 2 ((⟨#[47, 110]⟩ : ByteArray) ++ decS i))).2.2 = 16 := by
            have := (HS.out i hi8).1
            rw [if_neg h59] at this
            exact this
          have HT1 : Hid ((doB (limT 2 i) (opB 2 ((⟨#[47, 110]⟩ : ByteArray) ++ decS i))).1 = limT 2 (i + 1)) := rfl
          have HX : Hid (Calls Tryz.prog 13 _ _ _) := HF.out 2 ((⟨#[47, 110]⟩ : ByteArray) ++ decS i) w2 p b (limT 2 i) (pN_small i) HO2.out hc
          rw [HT1.out] at HX
          generalize (doB (limT 2 i) (opB 2 ((⟨#[47, 110]⟩ : ByteArray) ++ decS i))).2.1 = r at HX
          clear hc HT1 HD HF HS HE
          go_at_call 13
          refine HX.out.mono ?_
          rintro e w3 ⟨ra, rc, na, nc, sa, sc, g, rfl, HT⟩
          clear HX HO2
          go_wp2_with fail
          go_at_call 21
          refine (HCD.out _ _ _ (pN_small i) (below_block (bel_new _ _) HT.out.1)).mono ?_
          rintro e w4 ⟨rfl, hb4⟩
          have HO4 : Hid (Own w w4 p b (limT 2 (i + 1))) := (HT.out.2.1.below (bel_new _ _)).below hb4
          clear hb4 HT
          go_wp2
          go_round
          case rel => exact ⟨i + 1, by omega, by go_num, HO4⟩
          case measure => simp [intOf]; omega
      · have hii : ¬ (i : Int) < (n : Int) := by omega
        have hie : i = n := by omega
        subst hie
        clear hi hin
        by_cases h0 : i < 1
        · have h0i : (i : Int) < 1 := by omega
          go_wp2_with fail
          go_at_call 11
          refine (HAW.out _ (tied_below HG.out HOi.out.bel)).mono ?_
          rintro e w2 ⟨rfl, hb2⟩
          go_wp2
          go_ret
          exact ⟨rfl, bel2e HOi.out.bel hb2⟩
        · have h0i : ¬ (i : Int) < 1 := by omega
          obtain ⟨e1, e2, e3⟩ := HE.out i HNN.out (by omega)
          have HX1 : Hid (Calls Tryz.prog 13 _ _ _) := HD.out 4 ⟨#[47, 110, 48]⟩ wr p b (limT 2 i) (by decide) HOi.out e1
          have HX2 : Hid (∀ w2, Own w w2 p b (doB (limT 2 i) (opB 4 ⟨#[47, 110, 48]⟩)).1 → Calls Tryz.prog 13 _ w2 _) := fun w2 h => HD.out 2 ⟨#[47, 110, 101, 119]⟩ w2 p b (doB (limT 2 i) (opB 4 ⟨#[47, 110, 48]⟩)).1 (by decide) h e2
          have hI : (doB (doB (limT 2 i) (opB 4 ⟨#[47, 110, 48]⟩)).1 (opB 2 ⟨#[47, 110, 101, 119]⟩)).2.1.ino = (min i 59 : Nat) + 2 := e3
          have hmm : ((min i 59 : Nat) : Int) = min (i : Int) 59 := by omega
          rw [hmm] at hI
          clear hmm e1 e2 e3 HE HS HD HF
          generalize (doB (doB (limT 2 i) (opB 4 ⟨#[47, 110, 48]⟩)).1 (opB 2 ⟨#[47, 110, 101, 119]⟩)).2.1 = r2 at HX2 hI
          generalize (doB (doB (limT 2 i) (opB 4 ⟨#[47, 110, 48]⟩)).1 (opB 2 ⟨#[47, 110, 101, 119]⟩)).1 = t2 at HX2
          generalize (doB (limT 2 i) (opB 4 ⟨#[47, 110, 48]⟩)).1 = t1 at HX1 HX2
          generalize (doB (limT 2 i) (opB 4 ⟨#[47, 110, 48]⟩)).2.1 = r1 at HX1
          go_wp2_with fail
          go_at_call 13
          refine HX1.out.mono ?_
          rintro e w2 ⟨ra, rc, na, nc, sa, sc, rfl, HT⟩
          have HO2 : Hid (Own w w2 p b t1) := HT.out.2.2.1
          clear HT HX1 HOi
          go_wp2_with fail
          go_at_call 13
          refine (HX2.out _ (HO2.out.below (bel_new _ _))).mono ?_
          rintro e w3 ⟨ra2, rc2, na2, nc2, sa2, sc2, rfl, HT⟩
          have HO3 : Hid (Own w w3 p b t2) := HT.out.2.2.1
          clear HT HX2 HO2
          go_wp2_with fail
          go_at_call 11
          refine (HAW.out _ (tied_below HG.out (HO3.out.below (bel_new _ _)).bel)).mono ?_
          rintro e w4 ⟨rfl, hb4⟩
          have HB4 : Hid (Below w.heap.size w w4) := bel2e (HO3.out.below (bel_new _ _)).bel hb4
          clear hb4 HO3
          go_wp2
          go_ret
          exact ⟨rfl, HB4.out⟩
theorem limits_any (n : Int) (dirs : Bool) (w : World) (hg : Tied w) : Calls Tryz.prog 8 #[.int .i64 n, .bool dirs] w fun e w' => e = .returned (.bool true) ∧ Below w.heap.size w w' := by
  by_cases hn : 0 ≤ n ∧ n ≤ 80
  · obtain ⟨m, rfl⟩ : ∃ m : Nat, n = m := ⟨n.toNat, by omega⟩
    exact limits_in m dirs w hg (by omega)
  · have HG : Hid (Tied w) := hg
    have HAW : Hid (∀ w1, Tied w1 → Calls Tryz.prog 11 #[] w1 fun e w' => e = .returned (.bool true) ∧ Below w1.heap.size w1 w') := fun w1 h => awake5_any w1 h
    clear hg
    by_cases h0 : n < 0
    · clear hn
      go_enter Tryz.func8, Tryz.ntmps8
      go_wp2_with fail
      go_at_call 11
      refine (HAW.out _ HG.out).mono ?_
      rintro e w2 ⟨rfl, hb2⟩
      go_wp2
      go_ret
      exact ⟨rfl, hb2⟩
    · have h8 : (80 : Int) < n := by omega
      clear hn
      go_enter Tryz.func8, Tryz.ntmps8
      go_wp2_with fail
      go_at_call 11
      refine (HAW.out _ HG.out).mono ?_
      rintro e w2 ⟨rfl, hb2⟩
      go_wp2
      go_ret
      exact ⟨rfl, hb2⟩
end Go.Proofs.YtchajlaflehodaaGreatDoor
