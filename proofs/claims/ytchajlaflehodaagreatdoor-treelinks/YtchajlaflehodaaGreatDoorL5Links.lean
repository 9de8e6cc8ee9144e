/- dolmenlaw5.TreeLinks. -/
import Derived.Test.YtchajlaflehodaaGreatDoorL5Limits
import Derived.Test.YtchajlaflehodaaGreatDoorMLinks5
import Derived.Test.YtchajlaflehodaaGreatDoorDAll
namespace Go.Proofs.YtchajlaflehodaaGreatDoor
open Go.RowKit Kit
set_option linter.unusedVariables false

theorem have_lt (i : Nat) (h : i < 19) : haveN i < 20 ∧ haveN (i + 1) = haveN i + 1 := by unfold haveN; omega
theorem have_ge (i : Nat) (h : ¬ i < 19) : haveN i = 20 ∧ haveN (i + 1) = haveN i := by unfold haveN; omega
theorem have_pos (i : Nat) : 1 ≤ haveN i ∧ haveN i ≤ 20 := by unfold haveN; omega
theorem lnk_step (i : Nat) (hi : i < 25) : (doB (lnkT i) (lnB pFF (pth i))).2.2 = if haveN i < 20 then 0 else 16 := by
  have := lnk1 i hi
  simpa only [lnkA, decide_eq_true_eq] using this
theorem lnk_links (n : Nat) (hn : n < 26) : linksD (lnkT n) 2 = haveN n := by
  have := lnk2 n hn
  simpa only [lnkB, decide_eq_true_eq] using this
theorem off_step (n j : Nat) (hn : n < 26) (hj : j + 1 < haveN n) : linksD (offT n j) 2 = haveN n - 1 - j ∧ (doB (offT n j) (opB 3 (pth j))).2.2 = 0 := by
  have h1 := have_pos n
  have := off1 n hn j (by omega) hj
  simpa only [offA, Bool.and_eq_true, decide_eq_true_eq] using this
theorem off_end (n : Nat) (hn : n < 26) : linksD (offT n (haveN n - 1)) 2 = 0 ∧ (offT n (haveN n - 1)).nodes.length = 1 := by
  have := off2 n hn
  simpa only [offE, Bool.and_eq_true, decide_eq_true_eq] using this
theorem lall (w0 w : World) (p b : Nat) (t : TreeB) (h : Own w0 w p b t) : Calls Tryz.prog 14 #[.pointer (some ⟨p, 0, none⟩)] w fun e w' => ∃ a c, e = .returned (.agg #[.slice a t.nodes.length c, .int .i64 t.next]) ∧ Below w.heap.size w w' := dallN_any w p b t h.tree h.good
theorem tfield0 (a b : Value) (w : World) : (Instr.field 41 (.agg #[a, b]) 0).run Tryz.prog w = .ok a w := by kernel_rfl
theorem pFF_small : pFF.size ≤ maxLen := by decide
theorem ldoL (q : ByteArray) (hq : q.size ≤ 10) (w0 w : World) (p b : Nat) (t : TreeB) (h : Own w0 w p b t) (hc : (doB t (lnB pFF q)).2.2 = 0) :
    Calls Tryz.prog 13 #[.pointer (some ⟨p, 0, none⟩), .agg #[.int .i64 6, .string ⟨#[47, 102]⟩, .string q, .int .i64 0, .int .i64 0, .slice none 0 0, .int .i64 0]] w fun e w' => Took w0 w p b (doB t (lnB pFF q)).1 (doB t (lnB pFF q)).2.1 e w' :=
  ldo_ok (lnB pFF q) none 0 w0 w p b t _ _ h pFF_small (by show q.size ≤ maxLen; unfold maxLen; omega) bytesIn_nil (sees_noData _) (Prod.ext rfl (Prod.ext rfl hc))
theorem ldoLe (q : ByteArray) (hq : q.size ≤ 10) (w0 w : World) (p b : Nat) (t : TreeB) (h : Own w0 w p b t) (hc : (doB t (lnB pFF q)).2.2 = 16) :
    Calls Tryz.prog 13 #[.pointer (some ⟨p, 0, none⟩), .agg #[.int .i64 6, .string ⟨#[47, 102]⟩, .string q, .int .i64 0, .int .i64 0, .slice none 0 0, .int .i64 0]] w fun e w' => Fell w0 w p b (doB t (lnB pFF q)).1 (doB t (lnB pFF q)).2.1 16 ⟨#[47, 102]⟩ e w' :=
  ldo_err (lnB pFF q) none 0 w0 w p b t _ _ 16 h pFF_small (by show q.size ≤ maxLen; unfold maxLen; omega) bytesIn_nil (sees_noData _) (Prod.ext rfl (Prod.ext rfl hc)) (by decide)
set_option maxRecDepth 4000 in
set_option maxHeartbeats 8000000 in
theorem links_in (n : Nat) (w : World) (hg : Tied w) (hn : n < 26) : Calls Tryz.prog 7 #[.int .i64 n] w fun e w' => e = .returned (.bool true) ∧ Below w.heap.size w w' := by
  have HG : Hid (Tied w) := hg
  have HN : Hid (Calls Tryz.prog 12 _ _ _) := lnew w
  have HAW : Hid (∀ w1, Tied w1 → Calls Tryz.prog 11 #[] w1 fun e w' => e = .returned (.bool true) ∧ Below w1.heap.size w1 w') := fun w1 h => awake5_any w1 h
  have HDec : Hid (∀ (i : Nat) w1, i < 100 → Calls Tryz.prog 22 #[.int .i64 i] w1 fun e w' => e = .returned (.string (decS i)) ∧ Below w1.heap.size w1 w') := fun i w1 h => decimal_any i w1 h
  have HCD : Hid (∀ w1 g, w1.heap[g]? = some (.cells #[.string treeS, .string ⟨#[47, 102]⟩, .iface 68 (.int .i64 16)] 90) → Calls Tryz.prog 21 #[.iface 86 (.pointer (some ⟨g, 0, none⟩))] w1 fun e w' => e = .returned (.int .i64 16) ∧ Below w1.heap.size w1 w') := fun w1 g h => code_fault 16 w1 g treeS ⟨#[47, 102]⟩ (by omega) (by omega) h (by decide) (by decide)
  have HD : Hid (∀ (k : Int) (q : ByteArray) w1 p b t, q.size ≤ 10 → Own w w1 p b t → (doB t (opB k q)).2.2 = 0 → Calls Tryz.prog 13 #[.pointer (some ⟨p, 0, none⟩), .agg #[.int .i64 k, .string q, .string ⟨#[]⟩, .int .i64 0, .int .i64 0, .slice none 0 0, .int .i64 0]] w1 fun e w' => Took w w1 p b (doB t (opB k q)).1 (doB t (opB k q)).2.1 e w') := fun k q w1 p b t hq h hc => ldo1 k q hq w w1 p b t h hc
  have HL : Hid (∀ (i : Int) w1 p b t, Own w w1 p b t → Calls Tryz.prog 18 #[.pointer (some ⟨p, 0, none⟩), .int .i64 i] w1 fun e w' => e = .returned (.int .i64 (linksD t i : Nat)) ∧ Hid (Below w1.heap.size w1 w')) := fun i w1 p b t h => llinks i w w1 p b t h
  have hn1 : ¬ (25 : Int) < (n : Int) := by omega
  have hn0 : ¬ (n : Int) < 0 := by omega
  have HNN : Hid (n < 26) := hn
  clear hg hn
  go_enter Tryz.func7, Tryz.ntmps7
  go_wp2_with fail
  go_at_call 12
  refine HN.out.mono ?_
  rintro e w1 ⟨p, b, rfl, HO⟩
  clear HN
  go_wp2_with fail
  go_at_call 13
  refine (HD.out 1 ⟨#[47, 102]⟩ _ _ _ _ (by decide) HO.out lnk0).mono ?_
  rintro e w2 ⟨ra, rc, na, nc, sa, sc, rfl, HT⟩
  have HO2 : Hid (Own w w2 p b (lnkT 0)) := HT.out.2.2.1
  clear HO HT
  go_wp2_with fail
  go_loopw [4, 5] (fun s4 s5 wr => ∃ i : Nat, i ≤ n ∧ s5 = .int .i64 (i : Int) ∧ s4 = .int .i64 ((haveN i : Nat) : Int) ∧ Hid (Own w wr p b (lnkT i))) (fun _ s5 _ => n - (intOf s5).toNat)
  case atStart => exact ⟨0, Nat.zero_le _, rfl, rfl, HO2⟩
  case round =>
    obtain ⟨i, hi, rfl, rfl, HOi⟩ := hrel
    clear HO2
    by_cases hin : i < n
    · have hii : (i : Int) < (n : Int) := by omega
      have hi8 : i < 25 := by have := HNN.out; omega
      go_wp2_with fail
      go_at_call 22
      refine (HDec.out i _ (by omega)).mono ?_
      rintro e w3 ⟨rfl, hb3⟩
      have HO3 : Hid (Own w w3 p b (lnkT i)) := HOi.out.below hb3
      have hsz : ¬ 9223372036854775807 < 2 + (decS i).size := by have := decS_small i; omega
      clear hb3 HOi HDec
      go_wp2_with fail
      by_cases h19 : i < 19
      · obtain ⟨hv1, hv2⟩ := have_lt i h19
        have hvi : ((haveN i : Nat) : Int) < 20 := by omega
        have hc : (doB (lnkT i) (lnB pFF ((⟨#[47, 110]⟩ : ByteArray) ++ decS i))).2.2 = 0 := by
          have := lnk_step i hi8
          rw [if_pos hv1] at this
          exact this
        have HT1 : Hid ((doB (lnkT i) (lnB pFF ((⟨#[47, 110]⟩ : ByteArray) ++ decS i))).1 = lnkT (i + 1)) := rfl
        have HX : Hid (Calls Tryz.prog 13 _ _ _) := ldoL ((⟨#[47, 110]⟩ : ByteArray) ++ decS i) (pN_small i) w w3 p b (lnkT i) HO3.out hc
        rw [HT1.out] at HX
        generalize (doB (lnkT i) (lnB pFF ((⟨#[47, 110]⟩ : ByteArray) ++ decS i))).2.1 = r at HX
        have HV2 : Hid (haveN (i + 1) = haveN i + 1) := hv2
        have hv20 : ((haveN i : Nat) : Int) + 1 ≤ 20 := by omega
        have hv00 : (0 : Int) ≤ ((haveN i : Nat) : Int) := by omega
        clear hc HT1 HD HL hv1 hv2
        go_at_call 13
        refine HX.out.mono ?_
        rintro e w4 ⟨ra, rc, na, nc, sa, sc, rfl, HT⟩
        have HO4 : Hid (Own w w4 p b (lnkT (i + 1))) := HT.out.2.2.1
        clear HT HX HO3
        go_wp2
        go_round
        case rel => exact ⟨i + 1, by omega, by go_num, by rw [HV2.out]; go_num, HO4.out.below (bel_new _ _)⟩
        case measure => simp [intOf]; omega
      · obtain ⟨hv1, hv2⟩ := have_ge i h19
        have hvi : ¬ ((haveN i : Nat) : Int) < 20 := by omega
        have hc : (doB (lnkT i) (lnB pFF ((⟨#[47, 110]⟩ : ByteArray) ++ decS i))).2.2 = 16 := by
          have := lnk_step i hi8
          rw [if_neg (by omega)] at this
          exact this
        have HT1 : Hid ((doB (lnkT i) (lnB pFF ((⟨#[47, 110]⟩ : ByteArray) ++ decS i))).1 = lnkT (i + 1)) := rfl
        have HX : Hid (Calls Tryz.prog 13 _ _ _) := ldoLe ((⟨#[47, 110]⟩ : ByteArray) ++ decS i) (pN_small i) w w3 p b (lnkT i) HO3.out hc
        rw [HT1.out] at HX
        generalize (doB (lnkT i) (lnB pFF ((⟨#[47, 110]⟩ : ByteArray) ++ decS i))).2.1 = r at HX
        have HV2 : Hid (haveN (i + 1) = haveN i) := hv2
        clear hc HT1 HD HL hv1 hv2
        go_at_call 13
        refine HX.out.mono ?_
        rintro e w4 ⟨ra, rc, na, nc, sa, sc, g, rfl, HT⟩
        clear HX HO3
        go_wp2_with fail
        go_at_call 21
        refine (HCD.out _ _ (below_block (bel_new _ _) HT.out.1)).mono ?_
        rintro e w5 ⟨rfl, hb5⟩
        have HO5 : Hid (Own w w5 p b (lnkT (i + 1))) := (HT.out.2.1.below (bel_new _ _)).below hb5
        clear hb5 HT
        go_wp2
        go_round
        case rel => exact ⟨i + 1, by omega, by go_num, by rw [HV2.out], HO5⟩
        case measure => simp [intOf]; omega
    · have hii : ¬ (i : Int) < (n : Int) := by omega
      have hie : i = n := by omega
      subst hie
      clear hi hin
      go_wp2_with fail
      go_at_call 18
      refine (HL.out 2 _ _ _ _ HOi.out).mono ?_
      rintro e w3 ⟨rfl, HB3⟩
      rw [lnk_links i HNN.out]
      have HO3 : Hid (Own w w3 p b (lnkT i)) := HOi.out.below HB3.out
      clear HB3 HOi
      go_wp2_with fail
      go_at_call 13
      refine (HD.out 3 ⟨#[47, 102]⟩ _ _ _ _ (by decide) HO3.out (off0 i HNN.out)).mono ?_
      rintro e w4 ⟨ra, rc, na, nc, sa, sc, rfl, HT⟩
      have HO4 : Hid (Own w w4 p b (offT i 0)) := HT.out.2.2.1
      have HVP : Hid (1 ≤ haveN i ∧ haveN i ≤ 20) := have_pos i
      have hvb : ((haveN i : Nat) : Int) ≤ 20 ∧ (1 : Int) ≤ ((haveN i : Nat) : Int) := by have := HVP.out; omega
      obtain ⟨hvb1, hvb2⟩ := hvb
      clear HT HO3
      go_wp2_with fail
      go_loopw [8] (fun s8 wr => ∃ j : Nat, j + 1 ≤ haveN i ∧ s8 = .int .i64 (j : Int) ∧ Hid (Own w wr p b (offT i j))) (fun s8 _ => haveN i - (intOf s8).toNat)
      case atStart => exact ⟨0, by have := HVP.out; omega, rfl, HO4⟩
      case round =>
        obtain ⟨j, hj, rfl, HOj⟩ := hrel
        clear HO4
        by_cases hjn : j + 1 < haveN i
        · have hji : (j : Int) + 1 < ((haveN i : Nat) : Int) := by omega
          obtain ⟨o1, o2⟩ := off_step i j HNN.out hjn
          have ho1 : ((haveN i - 1 - j : Nat) : Int) = ((haveN i : Nat) : Int) - 1 - (j : Int) := by omega
          have HL1 : Hid (Calls Tryz.prog 18 #[.pointer (some ⟨p, 0, none⟩), .int .i64 2] wr fun e w' => e = .returned (.int .i64 (((haveN i : Nat) : Int) - 1 - (j : Int))) ∧ Hid (Below wr.heap.size wr w')) := by
            have := HL.out 2 wr p b (offT i j) HOj.out
            rw [o1, ho1] at this
            exact this
          have HX : Hid (∀ w5, Own w w5 p b (offT i j) → Calls Tryz.prog 13 _ w5 _) := fun w5 h => HD.out 3 ((⟨#[47, 110]⟩ : ByteArray) ++ decS j) w5 p b (offT i j) (pN_small j) h o2
          have HT1 : Hid ((doB (offT i j) (opB 3 ((⟨#[47, 110]⟩ : ByteArray) ++ decS j))).1 = offT i (j + 1)) := rfl
          rw [HT1.out] at HX
          generalize (doB (offT i j) (opB 3 ((⟨#[47, 110]⟩ : ByteArray) ++ decS j))).2.1 = r at HX
          have hsz : ¬ 9223372036854775807 < 2 + (decS j).size := by have := decS_small j; omega
          have hj20 : j < 100 := by have := HVP.out; omega
          clear o1 o2 ho1 HT1 HD HL
          go_wp2_with fail
          go_at_call 18
          refine HL1.out.mono ?_
          rintro e w5 ⟨rfl, HB5⟩
          have HO5 : Hid (Own w w5 p b (offT i j)) := HOj.out.below HB5.out
          clear HB5 HOj HL1
          go_wp2_with fail
          go_at_call 22
          refine (HDec.out j _ hj20).mono ?_
          rintro e w6 ⟨rfl, hb6⟩
          have HO6 : Hid (Own w w6 p b (offT i j)) := HO5.out.below hb6
          clear hb6 HO5 HDec
          go_wp2_with fail
          go_at_call 13
          refine (HX.out _ HO6.out).mono ?_
          rintro e w7 ⟨ra, rc, na, nc, sa, sc, rfl, HT⟩
          have HO7 : Hid (Own w w7 p b (offT i (j + 1))) := HT.out.2.2.1
          clear HT HX HO6
          go_wp2
          go_round
          case rel => exact ⟨j + 1, by omega, by go_num, HO7.out.below (bel_new _ _)⟩
          case measure => simp [intOf]; omega
        · have hji : ¬ (j : Int) + 1 < ((haveN i : Nat) : Int) := by omega
          have hje : j = haveN i - 1 := by omega
          subst hje
          obtain ⟨o1, o2⟩ := off_end i HNN.out
          have HL1 : Hid (Calls Tryz.prog 18 #[.pointer (some ⟨p, 0, none⟩), .int .i64 2] wr fun e w' => e = .returned (.int .i64 0) ∧ Hid (Below wr.heap.size wr w')) := by
            have := HL.out 2 wr p b (offT i (haveN i - 1)) HOj.out
            rw [o1] at this
            exact this
          have HA1 : Hid (∀ w5, Own w w5 p b (offT i (haveN i - 1)) → Calls Tryz.prog 14 #[.pointer (some ⟨p, 0, none⟩)] w5 fun e w' => ∃ a c, e = .returned (.agg #[.slice a 1 c, .int .i64 (offT i (haveN i - 1)).next]) ∧ Below w5.heap.size w5 w') := fun w5 h => by
            have := lall w w5 p b _ h
            rw [o2] at this
            exact this
          clear o1 o2 HD HL
          go_wp2_with fail
          go_at_call 18
          refine HL1.out.mono ?_
          rintro e w5 ⟨rfl, HB5⟩
          have HO5 : Hid (Own w w5 p b (offT i (haveN i - 1))) := HOj.out.below HB5.out
          clear HB5 HOj HL1
          go_wp2_with fail
          go_at_call 14
          refine (HA1.out _ HO5.out).mono ?_
          rintro e w6 ⟨aa, ca, rfl, hb6⟩
          have HB6 : Hid (Below w.heap.size w w6) := bel2e HO5.out.bel hb6
          clear hb6 HO5 HA1
          have hf0 := tfield0
          go_wp2_with fail
          go_at_call 11
          refine (HAW.out _ (tied_below HG.out HB6.out)).mono ?_
          rintro e w7 ⟨rfl, hb7⟩
          have HB7 : Hid (Below w.heap.size w w7) := bel2e HB6.out hb7
          clear hb7 HB6
          go_wp2
          go_ret
          exact ⟨rfl, HB7.out⟩
theorem links_any (n : Int) (w : World) (hg : Tied w) : Calls Tryz.prog 7 #[.int .i64 n] w fun e w' => e = .returned (.bool true) ∧ Below w.heap.size w w' := by
  by_cases hn : 0 ≤ n ∧ n ≤ 25
  · obtain ⟨m, rfl⟩ : ∃ m : Nat, n = m := ⟨n.toNat, by omega⟩
    exact links_in m w hg (by omega)
  · have HG : Hid (Tied w) := hg
    have HAW : Hid (∀ w1, Tied w1 → Calls Tryz.prog 11 #[] w1 fun e w' => e = .returned (.bool true) ∧ Below w1.heap.size w1 w') := fun w1 h => awake5_any w1 h
    clear hg
    by_cases h0 : n < 0
    · clear hn
      go_enter Tryz.func7, Tryz.ntmps7
      go_wp2_with fail
      go_at_call 11
      refine (HAW.out _ HG.out).mono ?_
      rintro e w2 ⟨rfl, hb2⟩
      go_wp2
      go_ret
      exact ⟨rfl, hb2⟩
    · have h8 : (25 : Int) < n := by omega
      clear hn
      go_enter Tryz.func7, Tryz.ntmps7
      go_wp2_with fail
      go_at_call 11
      refine (HAW.out _ HG.out).mono ?_
      rintro e w2 ⟨rfl, hb2⟩
      go_wp2
      go_ret
      exact ⟨rfl, hb2⟩
end Go.Proofs.YtchajlaflehodaaGreatDoor
