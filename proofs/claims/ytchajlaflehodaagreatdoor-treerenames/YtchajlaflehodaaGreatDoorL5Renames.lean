/- dolmenlaw5.TreeRenames. -/
import Derived.Test.YtchajlaflehodaaGreatDoorML5Stutters
import Derived.Test.YtchajlaflehodaaGreatDoorMRen6
import Derived.Test.YtchajlaflehodaaGreatDoorMRCode
namespace Go.Proofs.YtchajlaflehodaaGreatDoor
open Go.RowKit Kit
set_option linter.unusedVariables false

theorem lfind (s : ByteArray) (w0 w : World) (p b : Nat) (t : TreeB) (h : Own w0 w p b t) (hs : s.size ≤ maxLen) : Calls Tryz.prog 20 #[.pointer (some ⟨p, 0, none⟩), .string s] w fun e w' => e = .returned (.tuple #[.int .i64 (outW2 t (findB t s)).1, errV (outW2 t (findB t s)).2]) ∧ Hid (Own w0 w' p b t) := (dfind_any s w p b t h.tree h.good.1.fair hs).mono fun e w' hh => ⟨hh.1, h.below hh.2⟩
theorem outW2_ok {t : TreeB} {s : ByteArray} {k : Nat} (h : findB t s = .ok k) : outW2 t (findB t s) = ((nodeAt t k).ino, 0) := by rw [h]; rfl
theorem outW2_err {t : TreeB} {s : ByteArray} {x : Int} (h : findB t s = .error x) : outW2 t (findB t s) = (0, x) := by rw [h]; rfl
set_option maxRecDepth 4000 in
set_option maxHeartbeats 8000000 in
theorem renames_any (v : Value) (os : List OpB) (fr tw : ByteArray) (W : World) (hO : OpsAt W v os) (hg : Tied W) :
    Calls Tryz.prog 6 #[v, .string fr, .string tw] W fun e w' => e = .returned (.bool true) ∧ Below W.heap.size W w' := by
  have HAW : Hid (∀ w1, Below W.heap.size W w1 → Calls Tryz.prog 11 #[] w1 fun e w' => e = .returned (.bool true) ∧ Below w1.heap.size w1 w') := fun w1 h => awake5_any w1 (tied_below hg h)
  have HSm : Hid (Calls Tryz.prog 9 _ W _) := small_any v os W hO
  obtain ⟨ao, cap, rfl, h2, h3⟩ := hO
  have H3 : Hid (0 < os.length → _) := h3
  clear h2 h3 hg
  go_enter Tryz.func6, Tryz.ntmps6
  go_wp2_with fail
  go_at_call 9
  refine HSm.out.mono ?_
  rintro e w1 ⟨q, rfl, hq, hb1⟩
  have HB1 : Hid (Below W.heap.size W w1) := hb1
  have HQ : Hid (q = true → os.length ≤ 80) := hq
  clear hb1 hq HSm
  have HEnd : Hid (∀ w1, Below W.heap.size W w1 → Calls Tryz.prog 11 #[] w1 fun e w' => e = .returned (.bool true) ∧ Hid (Below W.heap.size W w')) := fun w1 h => (HAW.out w1 h).mono fun e w' hh => ⟨hh.1, bel2e h hh.2⟩
  by_cases hok : q = true ∧ fr.size ≤ 200 ∧ tw.size ≤ 200
  · obtain ⟨rfl, hf2, ht2⟩ := hok
    have hl80 : os.length ≤ 80 := HQ.out rfl
    have hl8 : (os.length : Int) ≤ 80 := by omega
    have s1 : ¬ (200 : Int) < (fr.size : Int) := by omega
    have s2 : ¬ (200 : Int) < (tw.size : Int) := by omega
    have s1d : decide ((200 : Int) < (fr.size : Int)) = false := decide_eq_false s1
    have s2d : decide ((200 : Int) < (tw.size : Int)) = false := decide_eq_false s2
    have HZ : Hid (fr.size ≤ maxLen ∧ tw.size ≤ maxLen) := ⟨by unfold maxLen; omega, by unfold maxLen; omega⟩
    have HN : Hid (Calls Tryz.prog 12 _ w1 _) := lnew w1
    go_wp2_with fail
    go_at_call 12
    refine HN.out.mono ?_
    rintro e w3 ⟨p, b, rfl, HO3⟩
    have HO : Hid (Own W w3 p b newB) := own_from HB1.out HO3.out
    clear HN HO3 HB1
    go_wp2_with fail
    go_loopw [8] (fun s8 wr => ∃ (i : Nat) (t : TreeB), i ≤ os.length ∧ s8 = .int .i64 (i : Int) ∧ Hid (Own W wr p b t)) (fun s8 _ => os.length - (intOf s8).toNat)
    case atStart => exact ⟨0, newB, Nat.zero_le _, rfl, HO⟩
    case round =>
      obtain ⟨i, t, hi, rfl, HOi⟩ := hrel
      clear HO
      by_cases hin : i < os.length
      · have hii : (i : Int) < (os.length : Int) := by omega
        obtain ⟨b1, o1, rfl, hl1, hc1⟩ := H3.out (by omega)
        obtain ⟨da1, dc1, ha1, hf1⟩ := hc1 i hin
        have hwr : Below W.heap.size W wr := HOi.out.bel
        obtain ⟨c0, c1, c2, c3, c4, c5, c6⟩ := ha1.below hl1 hwr
        have HX : Hid (Calls Tryz.prog 13 _ wr _) := ldo_go os[i] da1 dc1 W wr p b t HOi.out (hf1.below hwr)
        obtain ⟨y, hy⟩ : ∃ y, y = os[i] := ⟨_, rfl⟩
        rw [← hy] at c0 c1 c2 c3 c4 c5 c6 HX
        have l1 : b1 < wr.heap.size := by have := hwr.size; omega
        clear hc1 ha1 hf1 hy hwr
        go_wp2_with fail
        go_at_call 13
        refine HX.out.mono ?_
        rintro e w4 ⟨rv, ev, rfl, HT⟩
        have HO4 : Hid (Own W w4 p b (doB t y).1) := HT.out.1
        clear HT HX HOi
        go_wp2
        go_round
        case rel => exact ⟨i + 1, _, by omega, by go_num, HO4⟩
        case measure => simp [intOf]; omega
      · have hii : ¬ (i : Int) < (os.length : Int) := by omega
        have HF1 : Hid (Calls Tryz.prog 20 _ wr _) := lfind fr W wr p b t HOi.out HZ.out.1
        have HF2 : Hid (∀ w, Own W w p b t → Calls Tryz.prog 20 #[.pointer (some ⟨p, 0, none⟩), .string tw] w fun e w' => e = .returned (.tuple #[.int .i64 (outW2 t (findB t tw)).1, errV (outW2 t (findB t tw)).2]) ∧ Hid (Own W w' p b t)) := fun w h => lfind tw W w p b t h HZ.out.2
        obtain ⟨o, ho⟩ : ∃ o : OpB, o = ⟨5, fr, tw, 0, 0, [], 0⟩ := ⟨_, rfl⟩
        by_cases hc : (doB t o).2.2 = 0
        · obtain ⟨k, hfk, hkl, ⟨k2, hf2k, hk2l, hino⟩, hcase⟩ := rename_finds HOi.out.good o (by rw [ho]) hc (by rw [ho]; exact bytesIn_nil)
          have HDo : Hid (∀ w, Own W w p b t → Calls Tryz.prog 13 #[.pointer (some ⟨p, 0, none⟩), .agg #[.int .i64 5, .string fr, .string tw, .int .i64 0, .int .i64 0, .slice none 0 0, .int .i64 0]] w fun e w' => ∃ ra rc na nc sa sc, e = .returned (.tuple #[.agg #[.int .i64 (doB t o).2.1.ino, .int .i64 (doB t o).2.1.kind, .int .i64 (doB t o).2.1.size, .int .i64 (doB t o).2.1.links, .int .i64 (doB t o).2.1.n, .slice ra (doB t o).2.1.data.length rc, .slice na (doB t o).2.1.names.length nc, .slice sa (doB t o).2.1.snaps.length sc], .nilIface]) ∧ Hid (Own W w' p b (doB t o).1)) := fun w h => by
            subst ho
            refine (ldo_ok ⟨5, fr, tw, 0, 0, [], 0⟩ none 0 W w p b t _ _ h HZ.out.1 HZ.out.2 bytesIn_nil (sees_noData w) (Prod.ext rfl (Prod.ext rfl hc))).mono ?_
            rintro e w' ⟨ra, rc, na, nc, sa, sc, he, hh⟩
            exact ⟨ra, rc, na, nc, sa, sc, he, hh.out.2.2.1⟩
          have HF3 : Hid (∀ w, Own W w p b (doB t o).1 → Calls Tryz.prog 20 #[.pointer (some ⟨p, 0, none⟩), .string tw] w fun e w' => e = .returned (.tuple #[.int .i64 (nodeAt t k).ino, .nilIface]) ∧ Hid (Own W w' p b (doB t o).1)) := fun w h => by
            have := lfind tw W w p b _ h HZ.out.2
            have hfo : findB (doB t o).1 tw = .ok k2 := by rw [ho] at hf2k ⊢; exact hf2k
            rw [outW2_ok hfo, hino] at this
            exact this
          have HF4 : Hid (∀ w, Own W w p b (doB t o).1 → Calls Tryz.prog 20 #[.pointer (some ⟨p, 0, none⟩), .string fr] w fun e w' => e = .returned (.tuple #[.int .i64 (outW2 (doB t o).1 (findB (doB t o).1 fr)).1, errV (outW2 (doB t o).1 (findB (doB t o).1 fr)).2]) ∧ Hid (Own W w' p b (doB t o).1)) := fun w h => lfind fr W w p b _ h HZ.out.1
          have hfk2 : findB t fr = .ok k := by rw [ho] at hfk; exact hfk
          have hcase2 : ((doB t o).1 = t ∧ ∃ j, findB t tw = .ok j ∧ (nodeAt t j).ino = (nodeAt t k).ino) ∨ (findB (doB t o).1 fr = .error 5 ∧ ∀ j, findB t tw = .ok j → (nodeAt t j).ino ≠ (nodeAt t k).ino) := by
            have := hcase
            rw [ho] at this ⊢
            exact this
          rw [outW2_ok hfk2] at HF1
          have e0 : errV 0 = .nilIface := rfl
          simp only [e0] at HF1
          obtain ⟨t', ht'⟩ : ∃ t', (doB t o).1 = t' := ⟨_, rfl⟩
          obtain ⟨r, hr⟩ : ∃ r, (doB t o).2.1 = r := ⟨_, rfl⟩
          rw [ht'] at HF3 HF4 HDo hcase2
          rw [hr] at HDo
          obtain ⟨I, hI⟩ : ∃ I, (nodeAt t k).ino = I := ⟨_, rfl⟩
          rw [hI] at HF1 HF3 hcase2
          have HCa : Hid (∀ w, Calls Tryz.prog 21 #[.iface 68 (.int .i64 5)] w fun e w' => e = .returned (.int .i64 5) ∧ w' = w) := fun w => code_num 5 w (by omega) (by omega)
          clear hfk hf2k hino hcase hk2l ht' hr ho hc
          go_wp2_with fail
          go_at_call 20
          refine HF1.out.mono ?_
          rintro e w4 ⟨rfl, HO4⟩
          clear HF1 HOi
          go_wp2_with fail
          go_at_call 20
          refine (HF2.out _ HO4.out).mono ?_
          rintro e w5 ⟨rfl, HO5⟩
          clear HF2 HO4
          go_wp2_with fail
          go_at_call 13
          refine (HDo.out _ HO5.out).mono ?_
          rintro e w6 ⟨ra, rc, na, nc, sa, sc, rfl, HO6⟩
          clear HDo HO5
          have HO7 : Hid (∀ z, Own W (w6.alloc z) p b t') := fun z => HO6.out.below (bel_new _ _)
          go_wp2_with fail
          go_at_call 20
          refine (HF3.out _ (HO7.out _)).mono ?_
          rintro e w8 ⟨rfl, HO8⟩
          clear HF3 HO7 HO6
          go_wp2_with fail
          go_at_call 20
          refine (HF4.out _ HO8.out).mono ?_
          rintro e w9 ⟨rfl, HO9⟩
          clear HF4 HO8
          rcases hcase2 with ⟨e1, j, e2, e3⟩ | ⟨e1, e2⟩
          · subst e1
            rw [outW2_ok hfk2, outW2_ok e2, e3, hI]
            simp only [e0]
            clear e2 e3 hI hfk2
            go_wp2_with fail
            go_at_call 11
            refine (HEnd.out _ HO9.out.bel).mono ?_
            rintro e w10 ⟨rfl, HBB⟩
            go_wp2
            go_ret
            exact ⟨rfl, HBB.out⟩
          · have e5 : errV 5 = .iface 68 (.int .i64 5) := rfl
            rw [outW2_err e1]
            simp only [e5]
            cases hto : findB t tw with
            | ok j =>
              have hne := e2 j hto
              have hne2 : ((nodeAt t j).ino == I) = false := beq_eq_false_iff_ne.2 hne
              have hne3 : ((nodeAt t j).ino != I) = true := by simp [hne]
              have eo : outW2 t (.ok j) = ((nodeAt t j).ino, 0) := rfl
              rw [eo]
              simp only [e0]
              obtain ⟨J, hJ⟩ : ∃ J, (nodeAt t j).ino = J := ⟨_, rfl⟩
              rw [hJ] at hne hne2 hne3 ⊢
              clear e1 e2 hJ hto eo hfk2 hI
              go_wp2_with fail
              go_at_call 21
              refine (HCa.out _).mono ?_
              rintro e w10 ⟨rfl, rfl⟩
              go_wp2_with fail
              go_at_call 11
              refine (HEnd.out _ HO9.out.bel).mono ?_
              rintro e w10 ⟨rfl, HBB⟩
              go_wp2
              go_ret
              exact ⟨rfl, HBB.out⟩
            | error x =>
              have hx := find_code hto
              have ex : errV x = .iface 68 (.int .i64 x) := by unfold errV; rw [if_neg (by omega)]
              have eo : outW2 t (.error x) = (0, x) := rfl
              rw [eo]
              simp only [ex]
              clear e1 e2 hto eo hfk2 hI ex hx
              go_wp2_with fail
              go_at_call 21
              refine (HCa.out _).mono ?_
              rintro e w10 ⟨rfl, rfl⟩
              go_wp2_with fail
              go_at_call 11
              refine (HEnd.out _ HO9.out.bel).mono ?_
              rintro e w10 ⟨rfl, HBB⟩
              go_wp2
              go_ret
              exact ⟨rfl, HBB.out⟩
        · have HDo : Hid (∀ w, Own W w p b t → Calls Tryz.prog 13 #[.pointer (some ⟨p, 0, none⟩), .agg #[.int .i64 5, .string fr, .string tw, .int .i64 0, .int .i64 0, .slice none 0 0, .int .i64 0]] w fun e w' => ∃ ra rc na nc sa sc g, e = .returned (.tuple #[.agg #[.int .i64 (doB t o).2.1.ino, .int .i64 (doB t o).2.1.kind, .int .i64 (doB t o).2.1.size, .int .i64 (doB t o).2.1.links, .int .i64 (doB t o).2.1.n, .slice ra (doB t o).2.1.data.length rc, .slice na (doB t o).2.1.names.length nc, .slice sa (doB t o).2.1.snaps.length sc], .iface 86 (.pointer (some ⟨g, 0, none⟩))]) ∧ Hid (Own W w' p b (doB t o).1)) := fun w h => by
            subst ho
            refine (ldo_err ⟨5, fr, tw, 0, 0, [], 0⟩ none 0 W w p b t _ _ _ h HZ.out.1 HZ.out.2 bytesIn_nil (sees_noData w) rfl hc).mono ?_
            rintro e w' ⟨ra, rc, na, nc, sa, sc, g, he, hh⟩
            exact ⟨ra, rc, na, nc, sa, sc, g, he, hh.out.2.1⟩
          obtain ⟨t', ht'⟩ : ∃ t', (doB t o).1 = t' := ⟨_, rfl⟩
          obtain ⟨r, hr⟩ : ∃ r, (doB t o).2.1 = r := ⟨_, rfl⟩
          rw [ht', hr] at HDo
          obtain ⟨x1, hx1⟩ : ∃ x1, outW2 t (findB t fr) = x1 := ⟨_, rfl⟩
          obtain ⟨x2, hx2⟩ : ∃ x2, outW2 t (findB t tw) = x2 := ⟨_, rfl⟩
          obtain ⟨v1, hv1⟩ : ∃ v1, errV x1.2 = v1 := ⟨_, rfl⟩
          obtain ⟨v2, hv2⟩ : ∃ v2, errV x2.2 = v2 := ⟨_, rfl⟩
          rw [hx1, hv1] at HF1
          rw [hx2, hv2] at HF2
          clear ht' hr ho hc hx1 hx2 hv1 hv2
          go_wp2_with fail
          go_at_call 20
          refine HF1.out.mono ?_
          rintro e w4 ⟨rfl, HO4⟩
          clear HF1 HOi
          go_wp2_with fail
          go_at_call 20
          refine (HF2.out _ HO4.out).mono ?_
          rintro e w5 ⟨rfl, HO5⟩
          clear HF2 HO4
          go_wp2_with fail
          go_at_call 13
          refine (HDo.out _ HO5.out).mono ?_
          rintro e w6 ⟨ra, rc, na, nc, sa, sc, g, rfl, HO6⟩
          clear HDo HO5
          have HO7 : Hid (∀ z, Own W (w6.alloc z) p b t') := fun z => HO6.out.below (bel_new _ _)
          go_wp2_with fail
          go_at_call 11
          refine (HEnd.out _ (HO7.out _).bel).mono ?_
          rintro e w10 ⟨rfl, HBB⟩
          go_wp2
          go_ret
          exact ⟨rfl, HBB.out⟩
  · have hcs : (q = false) ∨ (q = true ∧ 200 < fr.size) ∨ (q = true ∧ fr.size ≤ 200 ∧ 200 < tw.size) := by
      cases q
      · exact .inl rfl
      · right
        by_cases h1 : 200 < fr.size
        · exact .inl ⟨rfl, h1⟩
        · right
          refine ⟨rfl, by omega, ?_⟩
          apply Decidable.byContradiction
          intro h2
          exact hok ⟨rfl, by omega, by omega⟩
    clear hok
    rcases hcs with rfl | ⟨rfl, h1⟩ | ⟨rfl, h1, h2⟩
    · go_wp2_with fail
      go_at_call 11
      refine (HEnd.out _ HB1.out).mono ?_
      rintro e w2 ⟨rfl, HBB⟩
      go_wp2
      go_ret
      exact ⟨rfl, HBB.out⟩
    · have s1 : (200 : Int) < (fr.size : Int) := by omega
      have s1d : decide ((200 : Int) < (fr.size : Int)) = true := decide_eq_true s1
      go_wp2_with fail
      go_at_call 11
      refine (HEnd.out _ HB1.out).mono ?_
      rintro e w2 ⟨rfl, HBB⟩
      go_wp2
      go_ret
      exact ⟨rfl, HBB.out⟩
    · have s1 : ¬ (200 : Int) < (fr.size : Int) := by omega
      have s1d : decide ((200 : Int) < (fr.size : Int)) = false := decide_eq_false s1
      have s2 : (200 : Int) < (tw.size : Int) := by omega
      have s2d : decide ((200 : Int) < (tw.size : Int)) = true := decide_eq_true s2
      go_wp2_with fail
      go_at_call 11
      refine (HEnd.out _ HB1.out).mono ?_
      rintro e w2 ⟨rfl, HBB⟩
      go_wp2
      go_ret
      exact ⟨rfl, HBB.out⟩
end Go.Proofs.YtchajlaflehodaaGreatDoor
