/- rename. -/
import Derived.Test.YtbebgobboccjcaaGreatDoorG4
namespace Go.Proofs.YtbebgobboccjcaaGreatDoor
open Go.RowKit Kit
set_option linter.unusedVariables false

theorem unlike_none {a b : Int} {n : Nat} (h : unlikeB a b n = 0) : n = 0 := by
  unfold unlikeB at h
  split at h
  · omega
  · split at h
    · omega
    · split at h
      · omega
      · omega
set_option maxRecDepth 4000 in
set_option maxHeartbeats 16000000 in
theorem drename_any (o : OpB) (w : World) (p b : Nat) (t : TreeB) (hT : DTree w p b t) (hG : Good t) (hs1 : o.path.size ≤ maxLen) (hs2 : o.to.size ≤ maxLen) :
    Calls Tryz.prog 63 #[.pointer (some ⟨p, 0, none⟩), .string o.path, .string o.to] w fun e w' => e = .returned (errV (renameB t o).2.2) ∧ DTree w' p b (renameB t o).1 ∧ Turn p b w w' := by
  have ht := hG.e.fair
  have e00 : errV 0 = .nilIface := rfl
  have HX1 : Hid (Calls Tryz.prog 96 _ _ _) := nparent_any o.path w hs1
  have HX2 : Hid (∀ W, _) := fun W => nparent_any o.to W hs2
  have HFd : Hid (∀ W, Below w.heap.size w W → _) := fun W hW => dfind_any o.path W p b t (hT.below hW) ht hs1
  have HUn : Hid (∀ W, _) := fun W => nunder_any o.to o.path W hs2 hs1
  have HPl : Hid (∀ W, Below w.heap.size w W → _) := fun W hW => dplace_any o.to W p b t (hT.below hW) ht hs2
  have HT : Hid (DTree w p b t ∧ Good t ∧ o.path.size ≤ maxLen ∧ o.to.size ≤ maxLen) := ⟨hT, hG, hs1, hs2⟩
  have R1 : Hid ((parentB o.path).2.2 ≠ 0 → renameB t o = (t, noReply, (parentB o.path).2.2)) := fun h => by unfold renameB; rw [if_pos h]
  have R2 : Hid ((parentB o.path).2.2 = 0 → (parentB o.to).2.2 ≠ 0 → renameB t o = (t, noReply, (parentB o.to).2.2)) := fun h h2 => by unfold renameB; rw [if_neg (by simp [h]), if_pos h2]
  have R3 : Hid ((parentB o.path).2.2 = 0 → (parentB o.to).2.2 = 0 → ∀ e, findB t o.path = .error e → renameB t o = (t, noReply, e)) := fun h h2 e he => by unfold renameB; rw [if_neg (by simp [h]), if_neg (by simp [h2]), he]
  obtain ⟨r, hr⟩ : ∃ r, renameB t o = r := ⟨_, rfl⟩
  have HRR : Hid (renameB t o = r) := hr
  rw [hr] at R1 R2 R3 ⊢
  obtain ⟨⟨d1, q1, c1⟩, hc1⟩ : ∃ x, parentB o.path = x := ⟨_, rfl⟩
  obtain ⟨⟨d2, q2, c2⟩, hc2⟩ : ∃ x, parentB o.to = x := ⟨_, rfl⟩
  have HC1 : Hid (parentB o.path = (d1, q1, c1)) := hc1
  have HC2 : Hid (parentB o.to = (d2, q2, c2)) := hc2
  rw [hc1] at HX1 R1 R2 R3
  rw [hc2] at HX2 R2 R3
  simp only at HX1 HX2 R1 R2 R3
  obtain ⟨path, hpath⟩ : ∃ z, o.path = z := ⟨_, rfl⟩
  obtain ⟨to, hto⟩ : ∃ z, o.to = z := ⟨_, rfl⟩
  have HPT : Hid (o.path = path ∧ o.to = to) := ⟨hpath, hto⟩
  rw [hpath] at HX1 HFd HUn HT R3 HC1 ⊢
  rw [hto] at HX2 HUn HPl HT HC2 ⊢
  clear hT hG hs1 hs2 ht hr hc1 hc2 hpath hto
  go_enter Tryz.func63, Tryz.ntmps63
  go_wp2_with fail
  go_at_call 96
  refine HX1.out.mono ?_
  rintro e w1 ⟨rfl, hb1⟩
  have H1 : Hid (Below w.heap.size w w1) := hb1
  clear hb1 HX1
  by_cases hp1 : c1 = 0
  case neg =>
    have HR : Hid (r = (t, noReply, c1)) := R1.out hp1
    have HE : Hid (errV c1 = .iface 80 (.int .i64 c1)) := errV_ne hp1
    rw [errV_ne hp1]
    clear R1 R2 R3 hp1 HFd HUn HPl HX2 e00
    go_wp2
    go_ret
    rw [HR.out]
    exact ⟨by rw [HE.out]; rfl, HT.out.1.below H1.out, turn_below H1.out⟩
  subst hp1
  rw [e00]
  go_wp2_with fail
  go_at_call 96
  refine (HX2.out w1).mono ?_
  rintro e w2 ⟨rfl, hb2⟩
  have H2 : Hid (Below w.heap.size w w2) := bel2v H1.out hb2
  clear hb2 HX2 H1
  by_cases hp2 : c2 = 0
  case neg =>
    have HR : Hid (r = (t, noReply, c2)) := R2.out (by first | rfl | trivial) hp2
    have HE : Hid (errV c2 = .iface 80 (.int .i64 c2)) := errV_ne hp2
    rw [errV_ne hp2]
    clear R1 R2 R3 hp2 HFd HUn HPl e00
    go_wp2
    go_ret
    rw [HR.out]
    exact ⟨by rw [HE.out]; rfl, HT.out.1.below H2.out, turn_below H2.out⟩
  subst hp2
  rw [e00]
  obtain ⟨f, hf⟩ : ∃ f, findB t path = f := ⟨_, rfl⟩
  have HF0 : Hid (findB t path = f) := hf
  rw [hf] at HFd
  clear hf
  go_wp2_with fail
  go_at_call 22
  refine (HFd.out w2 H2.out).mono ?_
  rintro e w3 ⟨rfl, hb3⟩
  have H3 : Hid (Below w.heap.size w w3) := bel2v H2.out hb3
  clear hb3 HFd H2
  cases f with
  | error x =>
    have hx := find_code' HF0.out
    have HR : Hid (r = (t, noReply, x)) := R3.out (by first | rfl | trivial) (by first | rfl | trivial) x HF0.out
    have HE : Hid (errV x = .iface 80 (.int .i64 x)) := errV_ne hx
    simp only [outW2]
    rw [errV_ne hx]
    clear R1 R2 R3 hx HUn HPl e00
    go_wp2
    go_ret
    rw [HR.out]
    exact ⟨by rw [HE.out]; rfl, HT.out.1.below H3.out, turn_below H3.out⟩
  | ok k =>
    simp only [outW2]
    rw [e00]
    have hk := find_lt HT.out.2.1.e.fair HF0.out
    have hpar : (parentB path).2.2 = 0 := by rw [HC1.out]
    obtain ⟨p0, old, l, hhp, hspl, hwk, hp0, hp0k, hnm, hnm0⟩ := find_home HT.out.2.1.e hpar HF0.out
    have HEQ := rename_eq HT.out.2.1 o (k := k) (p := p0) (old := old) (by rw [HPT.out.1]; exact hpar) (by rw [HPT.out.2, HC2.out]) (by rw [HPT.out.1]; exact HF0.out) (by rw [HPT.out.1]; exact hhp)
    rw [HRR.out, HPT.out.1, HPT.out.2] at HEQ
    have HEQ2 : Hid _ := HEQ
    have HOLD : Hid (homeB t path = .ok (p0, old) ∧ (splitB path).1 = l ++ [old] ∧ walkB t 0 l = .ok p0 ∧ p0 < t.nodes.length ∧ (nodeAt t p0).kind = 2 ∧ nameB (nodeAt t p0) old = (nodeAt t k).ino ∧ (nodeAt t k).ino ≠ 0 ∧ (parentB path).2.2 = 0) := ⟨hhp, hspl, hwk, hp0, hp0k, hnm, by rw [← hnm]; exact hnm0, hpar⟩
    obtain ⟨ka, kc, ksa, ksc, hlook⟩ := HT.out.1.lookAt HT.out.2.1.e.fair hk
    have HLK : Hid (∀ W, Below w.heap.size w W → _) := hlook
    obtain ⟨hl3, m3, _⟩ := hlook w3 H3.out
    have hkk := HT.out.2.1.e.fair.kind (nodeAt_mem hk)
    have hf0 := nfield0
    obtain ⟨I, hI⟩ : ∃ I, (nodeAt t k).ino = I := ⟨_, rfl⟩
    have HI : Hid ((nodeAt t k).ino = I) := hI
    obtain ⟨kd, hkd⟩ : ∃ I, (nodeAt t k).kind = I := ⟨_, rfl⟩
    have HKD : Hid ((nodeAt t k).kind = kd) := hkd
    rw [hI, hkd] at hl3
    rw [hkd] at hkk HEQ2
    rw [hI]
    obtain ⟨u, hu⟩ : ∃ u, underB to path = u := ⟨_, rfl⟩
    rw [hu] at HEQ2 HUn
    clear hlook hI hkd hu HEQ hhp hspl hwk hp0 hp0k hnm hnm0 hpar R1 R2 R3
    rcases hkk with hk1 | hk2
    · subst hk1
      have hnl : ¬ ((1 : Int) = 2 ∧ to ≠ path ∧ u = true) := by omega
      have HQ : Hid (Below w.heap.size w w3) := H3.out
      obtain ⟨wq, hwq⟩ : ∃ z, z = w3 := ⟨_, rfl⟩
      subst hwq
      clear H3
      obtain ⟨h, hh⟩ : ∃ h, homeB t to = h := ⟨_, rfl⟩
      have HH0 : Hid (homeB t to = h) := hh
      rw [hh] at HPl
      have HEQ3 : Hid _ := HEQ2.out.2 hnl
      clear HEQ2 hnl hh HUn
      go_wp2_with fail
      go_at_call 100
      refine (HPl.out wq HQ.out).mono ?_
      rintro e w4 ⟨rfl, hb4⟩
      have H4 : Hid (Below w.heap.size w w4) := bel2v HQ.out hb4
      clear hb4 HPl HQ
      cases h with
      | error x =>
        have hx := home_code' HH0.out
        have HR : Hid (r = (t, noReply, x)) := HEQ3.out.1 x HH0.out
        have HE : Hid (errV x = .iface 80 (.int .i64 x)) := errV_ne hx
        simp only [outP]
        rw [errV_ne hx]
        clear HEQ3 hx e00
        go_wp2
        go_ret
        rw [HR.out]
        exact ⟨by rw [HE.out]; rfl, HT.out.1.below H4.out, turn_below H4.out⟩
      | ok ds =>
        obtain ⟨d, s⟩ := ds
        simp only [outP]
        rw [e00]
        obtain ⟨hd, hdk, o1, o2, _⟩ := home_ok HT.out.2.1.e HH0.out
        have HR0 : Hid (r = renT t k d s p0 old) := HEQ3.out.2 d s HH0.out
        obtain ⟨na, nc, nsa, nsc, hlk⟩ := HT.out.1.lookAt HT.out.2.1.e.fair hd
        obtain ⟨hl4, m4, his4⟩ := hlk w4 H4.out
        have okd := HT.out.2.1.e.each _ (nodeAt_mem hd)
        have hzd := HT.out.2.1.e.fair.nz (nodeAt_mem hd)
        have HLE : Hid (Calls Tryz.prog 78 _ _ _) := leads_of okd hdk (HT.out.2.1.e.fair.names _ (nodeAt_mem hd)) his4 s
        have HNM := has_name okd hzd s
        have HDD : Hid (d < t.nodes.length ∧ (nodeAt t d).kind = 2 ∧ okB s = true ∧ s.size ≤ 12) := ⟨hd, hdk, o1, o2⟩
        obtain ⟨D, hD⟩ : ∃ D, (nodeAt t d).ino = D := ⟨_, rfl⟩
        have HD : Hid ((nodeAt t d).ino = D) := hD
        obtain ⟨T, hTe⟩ : ∃ T, nameB (nodeAt t d) s = T := ⟨_, rfl⟩
        have HTE : Hid (nameB (nodeAt t d) s = T) := hTe
        rw [hdk, hD] at hl4
        rw [hTe] at HLE HNM
        rw [hD]
        obtain ⟨hb, hbe⟩ : ∃ z, hasB (nodeAt t d).names s = z := ⟨_, rfl⟩
        have HBE : Hid (hasB (nodeAt t d).names s = hb) := hbe
        rw [hbe] at HLE HNM
        clear hlk okd hzd hd hdk o1 o2 his4 hD hTe hbe HEQ3
        go_wp2_with fail
        go_at_call 78
        refine HLE.out.mono ?_
        rintro e w5 ⟨rfl, hb5⟩
        have H5 : Hid (Below w.heap.size w w5) := bel2v H4.out hb5
        clear hb5 HLE H4 hl4 m4
        by_cases hT0 : T = 0
        · subst hT0
          have hbf : hb = false := by
            cases hb with
            | false => rfl
            | true => exact absurd rfl (HNM.1 rfl)
          subst hbf
          obtain ⟨p2, n1, n2, n3, n4, n5⟩ := ren_new HT.out.2.1 HOLD.out.2.2.2.1 HDD.out.1 HOLD.out.2.2.2.2.1 HDD.out.2.1 (path := path) (s := s) HOLD.out.2.2.2.2.2.2.2 HOLD.out.2.1 HOLD.out.2.2.1 HOLD.out.2.2.2.2.2.1 HOLD.out.2.2.2.2.2.2.1 HDD.out.2.2 HTE.out
          rw [HI.out] at n2 n3 n4 n5
          have HNC : Hid (Calls Tryz.prog 95 _ _ _) := dname_any s I w5 p b t d (HT.out.1.below H5.out) HT.out.2.1.e.fair HDD.out.1 HDD.out.2.1 n1 HDD.out.2.2.2
          rw [HD.out] at HNC
          have HUP : Hid (∀ W, DTree W p b (setB t d (withB (nodeAt t d) s I)) → _) := fun W hW => dunnamePath_any path W p b _ hW n2 HT.out.2.2.1 p2 old n3 n4
          rw [n5] at HUP
          have HR : Hid (r = (sweptB (movedB t p0 old d s I), noReply, 0)) := by
            show _ = _
            rw [HR0.out]
            unfold renT
            rw [if_neg (by rw [HTE.out]; simp), HI.out]
          clear n1 n2 n3 n4 n5 HNM HR0 HBE e00
          go_wp2_with fail
          go_at_call 95
          refine HNC.out.mono ?_
          rintro e w6 ⟨rfl, hd6, ht6⟩
          have HU6 : Hid (Calls Tryz.prog 98 _ _ _) := HUP.out w6 hd6
          have H6 : Hid (Turn p b w w6) := (turn_below H5.out).trans ht6
          clear hd6 ht6 HNC HUP H5
          go_wp2_with fail
          go_at_call 98
          refine HU6.out.mono ?_
          rintro e w7 ⟨rfl, hd7, ht7⟩
          have H7 : Hid (DTree w7 p b (sweptB (movedB t p0 old d s I)) ∧ Turn p b w w7) := ⟨hd7, H6.out.trans ht7⟩
          clear hd7 ht7 HU6 H6
          go_wp2
          go_ret
          rw [HR.out]
          exact ⟨rfl, H7.out⟩
        · have hbt : hb = true := HNM.2 hT0
          subst hbt
          by_cases hTI : T = I
          · have HR : Hid (r = (t, noReply, 0)) := by
              show _ = _
              rw [HR0.out]
              unfold renT
              rw [if_pos (by rw [HTE.out]; exact hT0), if_pos (by rw [HTE.out, HI.out]; exact hTI)]
            subst hTI
            clear HR0 HNM HBE e00 hT0
            go_wp2
            go_ret
            rw [HR.out]
            exact ⟨rfl, HT.out.1.below H5.out, turn_below H5.out⟩
          · have hTIb : (T == I) = false := beq_eq_false_iff_ne.2 hTI
            obtain ⟨m, m1, m2, m3, _⟩ := HT.out.2.1.e.fair.step HDD.out.1 (s := s) (by rw [HTE.out]; exact hT0)
            rw [HTE.out] at m1 m3
            obtain ⟨ta, tc, tsa, tsc, hlk⟩ := HT.out.1.lookAt HT.out.2.1.e.fair m2
            obtain ⟨hl5, n5, _⟩ := hlk w5 H5.out
            rw [m3] at hl5
            have hkT := HT.out.2.1.e.fair.kind (nodeAt_mem m2)
            have hnT := HT.out.2.1.e.fair.names _ (nodeAt_mem m2)
            have HUL : Hid (Calls Tryz.prog 97 _ _ _) := dunlike_any 1 (nodeAt t m).kind ta tsa (nodeAt t m).data.length tc (nodeAt t m).names.length tsc w5 (by omega) hkT (by omega)
            have HR1 : Hid (r = if unlikeB 1 (nodeAt t m).kind (nodeAt t m).names.length ≠ 0 then (t, noReply, unlikeB 1 (nodeAt t m).kind (nodeAt t m).names.length) else (sweptB (movedB (setB t d (withoutB (nodeAt t d) s)) p0 old d s I), noReply, 0)) := by
              show _ = _
              rw [HR0.out]
              unfold renT
              rw [if_pos (by rw [HTE.out]; exact hT0), if_neg (by rw [HTE.out, HI.out]; exact hTI), HTE.out, m1, HKD.out, HI.out]
              rfl
            have HMT : Hid (m < t.nodes.length ∧ (nodeAt t m).ino = T) := ⟨m2, m3⟩
            obtain ⟨u2, hu2⟩ : ∃ z, unlikeB 1 (nodeAt t m).kind (nodeAt t m).names.length = z := ⟨_, rfl⟩
            have HU2 : Hid (unlikeB 1 (nodeAt t m).kind (nodeAt t m).names.length = u2) := hu2
            rw [hu2] at HUL HR1
            obtain ⟨kT, hkTe⟩ : ∃ z, (nodeAt t m).kind = z := ⟨_, rfl⟩
            rw [hkTe] at HUL hl5
            clear hlk m1 m2 m3 hkT hnT hu2 hkTe HNM HR0
            go_wp2_with fail
            go_at_call 97
            refine HUL.out.mono ?_
            rintro e w6 ⟨rfl, hb6⟩
            have H6 : Hid (Below w.heap.size w w6) := bel2v H5.out hb6
            clear hb6 HUL H5 hl5 n5
            by_cases hu0 : u2 = 0
            · subst hu0
              rw [e00]
              have HR : Hid (r = (sweptB (movedB (setB t d (withoutB (nodeAt t d) s)) p0 old d s I), noReply, 0)) := by show _ = _; rw [HR1.out, if_neg (by simp)]
              obtain ⟨d1, p2, n1, n2, n3, n4, n5, n6, n7, n8, n9⟩ := ren_there HT.out.2.1 (m := m) HOLD.out.2.2.2.1 HDD.out.1 HOLD.out.2.2.2.2.1 HDD.out.2.1 (path := path) (s := s) HOLD.out.2.2.2.2.2.2.2 HOLD.out.2.1 HOLD.out.2.2.1 HOLD.out.2.2.2.2.2.1 HOLD.out.2.2.2.2.2.2.1 HDD.out.2.2 HTE.out hT0 (by rw [HI.out]; exact fun e => hTI e.symm) HMT.out.1 HMT.out.2 (unlike_none HU2.out)
              rw [HI.out] at n6 n7 n8 n9
              have hsm : s ∈ (nodeAt t d).names := has_iff.1 HBE.out
              have HUN : Hid (Calls Tryz.prog 101 _ _ _) := dunname_any s w6 p b t d (HT.out.1.below H6.out) HT.out.2.1.e.fair HDD.out.1 HDD.out.2.1 hsm
              rw [HD.out] at HUN
              obtain ⟨x1, hx1⟩ : ∃ z, unnameB t d s = z := ⟨_, rfl⟩
              rw [hx1] at n1 n2 n3 n4 n5 n6 n7 n8 n9 HUN
              have HNC : Hid (∀ W, DTree W p b x1 → _) := fun W hW => dname_any s I W p b x1 d1 hW n1 n2 n4 n5 HDD.out.2.2.2
              rw [n3, HD.out] at HNC
              have HUP : Hid (∀ W, DTree W p b (setB x1 d1 (withB (nodeAt x1 d1) s I)) → _) := fun W hW => dunnamePath_any path W p b _ hW n6 HT.out.2.2.1 p2 old n7 n8
              rw [n9] at HUP
              clear n1 n2 n3 n4 n5 n6 n7 n8 n9 hx1 hsm HR1 HU2 HMT HBE e00
              go_wp2_with fail
              go_at_call 101
              refine HUN.out.mono ?_
              rintro e w7 ⟨rfl, hd7, ht7⟩
              have HN7 : Hid (Calls Tryz.prog 95 _ _ _) := HNC.out w7 hd7
              have H7 : Hid (Turn p b w w7) := (turn_below H6.out).trans ht7
              clear hd7 ht7 HUN HNC H6
              go_wp2_with fail
              go_at_call 95
              refine HN7.out.mono ?_
              rintro e w8 ⟨rfl, hd8, ht8⟩
              have HU8 : Hid (Calls Tryz.prog 98 _ _ _) := HUP.out w8 hd8
              have H8 : Hid (Turn p b w w8) := H7.out.trans ht8
              clear hd8 ht8 HN7 HUP H7
              go_wp2_with fail
              go_at_call 98
              refine HU8.out.mono ?_
              rintro e w9 ⟨rfl, hd9, ht9⟩
              have H9 : Hid (DTree w9 p b (sweptB (movedB (setB t d (withoutB (nodeAt t d) s)) p0 old d s I)) ∧ Turn p b w w9) := ⟨hd9, H8.out.trans ht9⟩
              clear hd9 ht9 HU8 H8
              go_wp2
              go_ret
              rw [HR.out]
              exact ⟨rfl, H9.out⟩
            · have HR : Hid (r = (t, noReply, u2)) := by show _ = _; rw [HR1.out, if_pos hu0]
              have HE : Hid (errV u2 = .iface 80 (.int .i64 u2)) := errV_ne hu0
              rw [errV_ne hu0]
              clear HR1 hu0 e00
              go_wp2
              go_ret
              rw [HR.out]
              exact ⟨by rw [HE.out]; rfl, HT.out.1.below H6.out, turn_below H6.out⟩
    · subst hk2
      by_cases htp : to = path
      · have hnl : ¬ ((2 : Int) = 2 ∧ to ≠ path ∧ u = true) := fun h => h.2.1 htp
        have HTP : Hid (to = path) := htp
        have hteq : (to.toList == path.toList) = true := by rw [htp]; exact beq_self_eq_true _
        have HQ : Hid (Below w.heap.size w w3) := H3.out
        obtain ⟨wq, hwq⟩ : ∃ z, z = w3 := ⟨_, rfl⟩
        subst hwq
        clear H3 htp
        obtain ⟨h, hh⟩ : ∃ h, homeB t to = h := ⟨_, rfl⟩
        have HH0 : Hid (homeB t to = h) := hh
        rw [hh] at HPl
        have HEQ3 : Hid _ := HEQ2.out.2 hnl
        clear HEQ2 hnl hh HUn
        go_wp2_with fail
        go_at_call 100
        refine (HPl.out wq HQ.out).mono ?_
        rintro e w4 ⟨rfl, hb4⟩
        have H4 : Hid (Below w.heap.size w w4) := bel2v HQ.out hb4
        clear hb4 HPl HQ
        cases h with
        | error x =>
          have hx := home_code' HH0.out
          have HR : Hid (r = (t, noReply, x)) := HEQ3.out.1 x HH0.out
          have HE : Hid (errV x = .iface 80 (.int .i64 x)) := errV_ne hx
          simp only [outP]
          rw [errV_ne hx]
          clear HEQ3 hx e00
          go_wp2
          go_ret
          rw [HR.out]
          exact ⟨by rw [HE.out]; rfl, HT.out.1.below H4.out, turn_below H4.out⟩
        | ok ds =>
          obtain ⟨d, s⟩ := ds
          simp only [outP]
          rw [e00]
          obtain ⟨hd, hdk, o1, o2, _⟩ := home_ok HT.out.2.1.e HH0.out
          have HR0 : Hid (r = renT t k d s p0 old) := HEQ3.out.2 d s HH0.out
          obtain ⟨na, nc, nsa, nsc, hlk⟩ := HT.out.1.lookAt HT.out.2.1.e.fair hd
          obtain ⟨hl4, m4, his4⟩ := hlk w4 H4.out
          have okd := HT.out.2.1.e.each _ (nodeAt_mem hd)
          have hzd := HT.out.2.1.e.fair.nz (nodeAt_mem hd)
          have HLE : Hid (Calls Tryz.prog 78 _ _ _) := leads_of okd hdk (HT.out.2.1.e.fair.names _ (nodeAt_mem hd)) his4 s
          have HNM := has_name okd hzd s
          have HDD : Hid (d < t.nodes.length ∧ (nodeAt t d).kind = 2 ∧ okB s = true ∧ s.size ≤ 12) := ⟨hd, hdk, o1, o2⟩
          obtain ⟨D, hD⟩ : ∃ D, (nodeAt t d).ino = D := ⟨_, rfl⟩
          have HD : Hid ((nodeAt t d).ino = D) := hD
          obtain ⟨T, hTe⟩ : ∃ T, nameB (nodeAt t d) s = T := ⟨_, rfl⟩
          have HTE : Hid (nameB (nodeAt t d) s = T) := hTe
          rw [hdk, hD] at hl4
          rw [hTe] at HLE HNM
          rw [hD]
          obtain ⟨hb, hbe⟩ : ∃ z, hasB (nodeAt t d).names s = z := ⟨_, rfl⟩
          have HBE : Hid (hasB (nodeAt t d).names s = hb) := hbe
          rw [hbe] at HLE HNM
          clear hlk okd hzd hd hdk o1 o2 his4 hD hTe hbe HEQ3
          go_wp2_with fail
          go_at_call 78
          refine HLE.out.mono ?_
          rintro e w5 ⟨rfl, hb5⟩
          have H5 : Hid (Below w.heap.size w w5) := bel2v H4.out hb5
          clear hb5 HLE H4 hl4 m4
          by_cases hT0 : T = 0
          · subst hT0
            have hbf : hb = false := by
              cases hb with
              | false => rfl
              | true => exact absurd rfl (HNM.1 rfl)
            subst hbf
            obtain ⟨p2, n1, n2, n3, n4, n5⟩ := ren_new HT.out.2.1 HOLD.out.2.2.2.1 HDD.out.1 HOLD.out.2.2.2.2.1 HDD.out.2.1 (path := path) (s := s) HOLD.out.2.2.2.2.2.2.2 HOLD.out.2.1 HOLD.out.2.2.1 HOLD.out.2.2.2.2.2.1 HOLD.out.2.2.2.2.2.2.1 HDD.out.2.2 HTE.out
            rw [HI.out] at n2 n3 n4 n5
            have HNC : Hid (Calls Tryz.prog 95 _ _ _) := dname_any s I w5 p b t d (HT.out.1.below H5.out) HT.out.2.1.e.fair HDD.out.1 HDD.out.2.1 n1 HDD.out.2.2.2
            rw [HD.out] at HNC
            have HUP : Hid (∀ W, DTree W p b (setB t d (withB (nodeAt t d) s I)) → _) := fun W hW => dunnamePath_any path W p b _ hW n2 HT.out.2.2.1 p2 old n3 n4
            rw [n5] at HUP
            have HR : Hid (r = (sweptB (movedB t p0 old d s I), noReply, 0)) := by
              show _ = _
              rw [HR0.out]
              unfold renT
              rw [if_neg (by rw [HTE.out]; simp), HI.out]
            clear n1 n2 n3 n4 n5 HNM HR0 HBE e00
            go_wp2_with fail
            go_at_call 95
            refine HNC.out.mono ?_
            rintro e w6 ⟨rfl, hd6, ht6⟩
            have HU6 : Hid (Calls Tryz.prog 98 _ _ _) := HUP.out w6 hd6
            have H6 : Hid (Turn p b w w6) := (turn_below H5.out).trans ht6
            clear hd6 ht6 HNC HUP H5
            go_wp2_with fail
            go_at_call 98
            refine HU6.out.mono ?_
            rintro e w7 ⟨rfl, hd7, ht7⟩
            have H7 : Hid (DTree w7 p b (sweptB (movedB t p0 old d s I)) ∧ Turn p b w w7) := ⟨hd7, H6.out.trans ht7⟩
            clear hd7 ht7 HU6 H6
            go_wp2
            go_ret
            rw [HR.out]
            exact ⟨rfl, H7.out⟩
          · have hbt : hb = true := HNM.2 hT0
            subst hbt
            by_cases hTI : T = I
            · have HR : Hid (r = (t, noReply, 0)) := by
                show _ = _
                rw [HR0.out]
                unfold renT
                rw [if_pos (by rw [HTE.out]; exact hT0), if_pos (by rw [HTE.out, HI.out]; exact hTI)]
              subst hTI
              clear HR0 HNM HBE e00 hT0
              go_wp2
              go_ret
              rw [HR.out]
              exact ⟨rfl, HT.out.1.below H5.out, turn_below H5.out⟩
            · have hTIb : (T == I) = false := beq_eq_false_iff_ne.2 hTI
              obtain ⟨m, m1, m2, m3, _⟩ := HT.out.2.1.e.fair.step HDD.out.1 (s := s) (by rw [HTE.out]; exact hT0)
              rw [HTE.out] at m1 m3
              obtain ⟨ta, tc, tsa, tsc, hlk⟩ := HT.out.1.lookAt HT.out.2.1.e.fair m2
              obtain ⟨hl5, n5, _⟩ := hlk w5 H5.out
              rw [m3] at hl5
              have hkT := HT.out.2.1.e.fair.kind (nodeAt_mem m2)
              have hnT := HT.out.2.1.e.fair.names _ (nodeAt_mem m2)
              have HUL : Hid (Calls Tryz.prog 97 _ _ _) := dunlike_any 2 (nodeAt t m).kind ta tsa (nodeAt t m).data.length tc (nodeAt t m).names.length tsc w5 (by omega) hkT (by omega)
              have HR1 : Hid (r = if unlikeB 2 (nodeAt t m).kind (nodeAt t m).names.length ≠ 0 then (t, noReply, unlikeB 2 (nodeAt t m).kind (nodeAt t m).names.length) else (sweptB (movedB (setB t d (withoutB (nodeAt t d) s)) p0 old d s I), noReply, 0)) := by
                show _ = _
                rw [HR0.out]
                unfold renT
                rw [if_pos (by rw [HTE.out]; exact hT0), if_neg (by rw [HTE.out, HI.out]; exact hTI), HTE.out, m1, HKD.out, HI.out]
                rfl
              have HMT : Hid (m < t.nodes.length ∧ (nodeAt t m).ino = T) := ⟨m2, m3⟩
              obtain ⟨u2, hu2⟩ : ∃ z, unlikeB 2 (nodeAt t m).kind (nodeAt t m).names.length = z := ⟨_, rfl⟩
              have HU2 : Hid (unlikeB 2 (nodeAt t m).kind (nodeAt t m).names.length = u2) := hu2
              rw [hu2] at HUL HR1
              obtain ⟨kT, hkTe⟩ : ∃ z, (nodeAt t m).kind = z := ⟨_, rfl⟩
              rw [hkTe] at HUL hl5
              clear hlk m1 m2 m3 hkT hnT hu2 hkTe HNM HR0
              go_wp2_with fail
              go_at_call 97
              refine HUL.out.mono ?_
              rintro e w6 ⟨rfl, hb6⟩
              have H6 : Hid (Below w.heap.size w w6) := bel2v H5.out hb6
              clear hb6 HUL H5 hl5 n5
              by_cases hu0 : u2 = 0
              · subst hu0
                rw [e00]
                have HR : Hid (r = (sweptB (movedB (setB t d (withoutB (nodeAt t d) s)) p0 old d s I), noReply, 0)) := by show _ = _; rw [HR1.out, if_neg (by simp)]
                obtain ⟨d1, p2, n1, n2, n3, n4, n5, n6, n7, n8, n9⟩ := ren_there HT.out.2.1 (m := m) HOLD.out.2.2.2.1 HDD.out.1 HOLD.out.2.2.2.2.1 HDD.out.2.1 (path := path) (s := s) HOLD.out.2.2.2.2.2.2.2 HOLD.out.2.1 HOLD.out.2.2.1 HOLD.out.2.2.2.2.2.1 HOLD.out.2.2.2.2.2.2.1 HDD.out.2.2 HTE.out hT0 (by rw [HI.out]; exact fun e => hTI e.symm) HMT.out.1 HMT.out.2 (unlike_none HU2.out)
                rw [HI.out] at n6 n7 n8 n9
                have hsm : s ∈ (nodeAt t d).names := has_iff.1 HBE.out
                have HUN : Hid (Calls Tryz.prog 101 _ _ _) := dunname_any s w6 p b t d (HT.out.1.below H6.out) HT.out.2.1.e.fair HDD.out.1 HDD.out.2.1 hsm
                rw [HD.out] at HUN
                obtain ⟨x1, hx1⟩ : ∃ z, unnameB t d s = z := ⟨_, rfl⟩
                rw [hx1] at n1 n2 n3 n4 n5 n6 n7 n8 n9 HUN
                have HNC : Hid (∀ W, DTree W p b x1 → _) := fun W hW => dname_any s I W p b x1 d1 hW n1 n2 n4 n5 HDD.out.2.2.2
                rw [n3, HD.out] at HNC
                have HUP : Hid (∀ W, DTree W p b (setB x1 d1 (withB (nodeAt x1 d1) s I)) → _) := fun W hW => dunnamePath_any path W p b _ hW n6 HT.out.2.2.1 p2 old n7 n8
                rw [n9] at HUP
                clear n1 n2 n3 n4 n5 n6 n7 n8 n9 hx1 hsm HR1 HU2 HMT HBE e00
                go_wp2_with fail
                go_at_call 101
                refine HUN.out.mono ?_
                rintro e w7 ⟨rfl, hd7, ht7⟩
                have HN7 : Hid (Calls Tryz.prog 95 _ _ _) := HNC.out w7 hd7
                have H7 : Hid (Turn p b w w7) := (turn_below H6.out).trans ht7
                clear hd7 ht7 HUN HNC H6
                go_wp2_with fail
                go_at_call 95
                refine HN7.out.mono ?_
                rintro e w8 ⟨rfl, hd8, ht8⟩
                have HU8 : Hid (Calls Tryz.prog 98 _ _ _) := HUP.out w8 hd8
                have H8 : Hid (Turn p b w w8) := H7.out.trans ht8
                clear hd8 ht8 HN7 HUP H7
                go_wp2_with fail
                go_at_call 98
                refine HU8.out.mono ?_
                rintro e w9 ⟨rfl, hd9, ht9⟩
                have H9 : Hid (DTree w9 p b (sweptB (movedB (setB t d (withoutB (nodeAt t d) s)) p0 old d s I)) ∧ Turn p b w w9) := ⟨hd9, H8.out.trans ht9⟩
                clear hd9 ht9 HU8 H8
                go_wp2
                go_ret
                rw [HR.out]
                exact ⟨rfl, H9.out⟩
              · have HR : Hid (r = (t, noReply, u2)) := by show _ = _; rw [HR1.out, if_pos hu0]
                have HE : Hid (errV u2 = .iface 80 (.int .i64 u2)) := errV_ne hu0
                rw [errV_ne hu0]
                clear HR1 hu0 e00
                go_wp2
                go_ret
                rw [HR.out]
                exact ⟨by rw [HE.out]; rfl, HT.out.1.below H6.out, turn_below H6.out⟩
      · have htb : decide (to = path) = false := decide_eq_false htp
        have hteq : (to.toList == path.toList) = false := beq_eq_false_iff_ne.2 (fun h => htp (toList_inj h))
        cases u with
        | true =>
          have HR : Hid (r = (t, noReply, 10)) := HEQ2.out.1 ⟨rfl, htp, rfl⟩
          clear HEQ2 HPl
          go_wp2_with fail
          go_at_call 99
          refine (HUn.out w3).mono ?_
          rintro e w4 ⟨rfl, hb4⟩
          have H4 : Hid (Below w.heap.size w w4) := bel2v H3.out hb4
          clear hb4 HUn
          go_wp2
          go_ret
          rw [HR.out]
          exact ⟨rfl, HT.out.1.below H4.out, turn_below H4.out⟩
        | false =>
          have hnl : ¬ ((2 : Int) = 2 ∧ to ≠ path ∧ false = true) := by simp
          have HTP : Hid (¬ to = path) := htp
          go_wp2_with fail
          go_at_call 99
          refine (HUn.out w3).mono ?_
          rintro e wq ⟨rfl, hbq⟩
          have HQ : Hid (Below w.heap.size w wq) := bel2v H3.out hbq
          clear hbq H3
          obtain ⟨h, hh⟩ : ∃ h, homeB t to = h := ⟨_, rfl⟩
          have HH0 : Hid (homeB t to = h) := hh
          rw [hh] at HPl
          have HEQ3 : Hid _ := HEQ2.out.2 hnl
          clear HEQ2 hnl hh HUn
          go_wp2_with fail
          go_at_call 100
          refine (HPl.out wq HQ.out).mono ?_
          rintro e w4 ⟨rfl, hb4⟩
          have H4 : Hid (Below w.heap.size w w4) := bel2v HQ.out hb4
          clear hb4 HPl HQ
          cases h with
          | error x =>
            have hx := home_code' HH0.out
            have HR : Hid (r = (t, noReply, x)) := HEQ3.out.1 x HH0.out
            have HE : Hid (errV x = .iface 80 (.int .i64 x)) := errV_ne hx
            simp only [outP]
            rw [errV_ne hx]
            clear HEQ3 hx e00
            go_wp2
            go_ret
            rw [HR.out]
            exact ⟨by rw [HE.out]; rfl, HT.out.1.below H4.out, turn_below H4.out⟩
          | ok ds =>
            obtain ⟨d, s⟩ := ds
            simp only [outP]
            rw [e00]
            obtain ⟨hd, hdk, o1, o2, _⟩ := home_ok HT.out.2.1.e HH0.out
            have HR0 : Hid (r = renT t k d s p0 old) := HEQ3.out.2 d s HH0.out
            obtain ⟨na, nc, nsa, nsc, hlk⟩ := HT.out.1.lookAt HT.out.2.1.e.fair hd
            obtain ⟨hl4, m4, his4⟩ := hlk w4 H4.out
            have okd := HT.out.2.1.e.each _ (nodeAt_mem hd)
            have hzd := HT.out.2.1.e.fair.nz (nodeAt_mem hd)
            have HLE : Hid (Calls Tryz.prog 78 _ _ _) := leads_of okd hdk (HT.out.2.1.e.fair.names _ (nodeAt_mem hd)) his4 s
            have HNM := has_name okd hzd s
            have HDD : Hid (d < t.nodes.length ∧ (nodeAt t d).kind = 2 ∧ okB s = true ∧ s.size ≤ 12) := ⟨hd, hdk, o1, o2⟩
            obtain ⟨D, hD⟩ : ∃ D, (nodeAt t d).ino = D := ⟨_, rfl⟩
            have HD : Hid ((nodeAt t d).ino = D) := hD
            obtain ⟨T, hTe⟩ : ∃ T, nameB (nodeAt t d) s = T := ⟨_, rfl⟩
            have HTE : Hid (nameB (nodeAt t d) s = T) := hTe
            rw [hdk, hD] at hl4
            rw [hTe] at HLE HNM
            rw [hD]
            obtain ⟨hb, hbe⟩ : ∃ z, hasB (nodeAt t d).names s = z := ⟨_, rfl⟩
            have HBE : Hid (hasB (nodeAt t d).names s = hb) := hbe
            rw [hbe] at HLE HNM
            clear hlk okd hzd hd hdk o1 o2 his4 hD hTe hbe HEQ3
            go_wp2_with fail
            go_at_call 78
            refine HLE.out.mono ?_
            rintro e w5 ⟨rfl, hb5⟩
            have H5 : Hid (Below w.heap.size w w5) := bel2v H4.out hb5
            clear hb5 HLE H4 hl4 m4
            by_cases hT0 : T = 0
            · subst hT0
              have hbf : hb = false := by
                cases hb with
                | false => rfl
                | true => exact absurd rfl (HNM.1 rfl)
              subst hbf
              obtain ⟨p2, n1, n2, n3, n4, n5⟩ := ren_new HT.out.2.1 HOLD.out.2.2.2.1 HDD.out.1 HOLD.out.2.2.2.2.1 HDD.out.2.1 (path := path) (s := s) HOLD.out.2.2.2.2.2.2.2 HOLD.out.2.1 HOLD.out.2.2.1 HOLD.out.2.2.2.2.2.1 HOLD.out.2.2.2.2.2.2.1 HDD.out.2.2 HTE.out
              rw [HI.out] at n2 n3 n4 n5
              have HNC : Hid (Calls Tryz.prog 95 _ _ _) := dname_any s I w5 p b t d (HT.out.1.below H5.out) HT.out.2.1.e.fair HDD.out.1 HDD.out.2.1 n1 HDD.out.2.2.2
              rw [HD.out] at HNC
              have HUP : Hid (∀ W, DTree W p b (setB t d (withB (nodeAt t d) s I)) → _) := fun W hW => dunnamePath_any path W p b _ hW n2 HT.out.2.2.1 p2 old n3 n4
              rw [n5] at HUP
              have HR : Hid (r = (sweptB (movedB t p0 old d s I), noReply, 0)) := by
                show _ = _
                rw [HR0.out]
                unfold renT
                rw [if_neg (by rw [HTE.out]; simp), HI.out]
              clear n1 n2 n3 n4 n5 HNM HR0 HBE e00
              go_wp2_with fail
              go_at_call 95
              refine HNC.out.mono ?_
              rintro e w6 ⟨rfl, hd6, ht6⟩
              have HU6 : Hid (Calls Tryz.prog 98 _ _ _) := HUP.out w6 hd6
              have H6 : Hid (Turn p b w w6) := (turn_below H5.out).trans ht6
              clear hd6 ht6 HNC HUP H5
              go_wp2_with fail
              go_at_call 98
              refine HU6.out.mono ?_
              rintro e w7 ⟨rfl, hd7, ht7⟩
              have H7 : Hid (DTree w7 p b (sweptB (movedB t p0 old d s I)) ∧ Turn p b w w7) := ⟨hd7, H6.out.trans ht7⟩
              clear hd7 ht7 HU6 H6
              go_wp2
              go_ret
              rw [HR.out]
              exact ⟨rfl, H7.out⟩
            · have hbt : hb = true := HNM.2 hT0
              subst hbt
              by_cases hTI : T = I
              · have HR : Hid (r = (t, noReply, 0)) := by
                  show _ = _
                  rw [HR0.out]
                  unfold renT
                  rw [if_pos (by rw [HTE.out]; exact hT0), if_pos (by rw [HTE.out, HI.out]; exact hTI)]
                subst hTI
                clear HR0 HNM HBE e00 hT0
                go_wp2
                go_ret
                rw [HR.out]
                exact ⟨rfl, HT.out.1.below H5.out, turn_below H5.out⟩
              · have hTIb : (T == I) = false := beq_eq_false_iff_ne.2 hTI
                obtain ⟨m, m1, m2, m3, _⟩ := HT.out.2.1.e.fair.step HDD.out.1 (s := s) (by rw [HTE.out]; exact hT0)
                rw [HTE.out] at m1 m3
                obtain ⟨ta, tc, tsa, tsc, hlk⟩ := HT.out.1.lookAt HT.out.2.1.e.fair m2
                obtain ⟨hl5, n5, _⟩ := hlk w5 H5.out
                rw [m3] at hl5
                have hkT := HT.out.2.1.e.fair.kind (nodeAt_mem m2)
                have hnT := HT.out.2.1.e.fair.names _ (nodeAt_mem m2)
                have HUL : Hid (Calls Tryz.prog 97 _ _ _) := dunlike_any 2 (nodeAt t m).kind ta tsa (nodeAt t m).data.length tc (nodeAt t m).names.length tsc w5 (by omega) hkT (by omega)
                have HR1 : Hid (r = if unlikeB 2 (nodeAt t m).kind (nodeAt t m).names.length ≠ 0 then (t, noReply, unlikeB 2 (nodeAt t m).kind (nodeAt t m).names.length) else (sweptB (movedB (setB t d (withoutB (nodeAt t d) s)) p0 old d s I), noReply, 0)) := by
                  show _ = _
                  rw [HR0.out]
                  unfold renT
                  rw [if_pos (by rw [HTE.out]; exact hT0), if_neg (by rw [HTE.out, HI.out]; exact hTI), HTE.out, m1, HKD.out, HI.out]
                  rfl
                have HMT : Hid (m < t.nodes.length ∧ (nodeAt t m).ino = T) := ⟨m2, m3⟩
                obtain ⟨u2, hu2⟩ : ∃ z, unlikeB 2 (nodeAt t m).kind (nodeAt t m).names.length = z := ⟨_, rfl⟩
                have HU2 : Hid (unlikeB 2 (nodeAt t m).kind (nodeAt t m).names.length = u2) := hu2
                rw [hu2] at HUL HR1
                obtain ⟨kT, hkTe⟩ : ∃ z, (nodeAt t m).kind = z := ⟨_, rfl⟩
                rw [hkTe] at HUL hl5
                clear hlk m1 m2 m3 hkT hnT hu2 hkTe HNM HR0
                go_wp2_with fail
                go_at_call 97
                refine HUL.out.mono ?_
                rintro e w6 ⟨rfl, hb6⟩
                have H6 : Hid (Below w.heap.size w w6) := bel2v H5.out hb6
                clear hb6 HUL H5 hl5 n5
                by_cases hu0 : u2 = 0
                · subst hu0
                  rw [e00]
                  have HR : Hid (r = (sweptB (movedB (setB t d (withoutB (nodeAt t d) s)) p0 old d s I), noReply, 0)) := by show _ = _; rw [HR1.out, if_neg (by simp)]
                  obtain ⟨d1, p2, n1, n2, n3, n4, n5, n6, n7, n8, n9⟩ := ren_there HT.out.2.1 (m := m) HOLD.out.2.2.2.1 HDD.out.1 HOLD.out.2.2.2.2.1 HDD.out.2.1 (path := path) (s := s) HOLD.out.2.2.2.2.2.2.2 HOLD.out.2.1 HOLD.out.2.2.1 HOLD.out.2.2.2.2.2.1 HOLD.out.2.2.2.2.2.2.1 HDD.out.2.2 HTE.out hT0 (by rw [HI.out]; exact fun e => hTI e.symm) HMT.out.1 HMT.out.2 (unlike_none HU2.out)
                  rw [HI.out] at n6 n7 n8 n9
                  have hsm : s ∈ (nodeAt t d).names := has_iff.1 HBE.out
                  have HUN : Hid (Calls Tryz.prog 101 _ _ _) := dunname_any s w6 p b t d (HT.out.1.below H6.out) HT.out.2.1.e.fair HDD.out.1 HDD.out.2.1 hsm
                  rw [HD.out] at HUN
                  obtain ⟨x1, hx1⟩ : ∃ z, unnameB t d s = z := ⟨_, rfl⟩
                  rw [hx1] at n1 n2 n3 n4 n5 n6 n7 n8 n9 HUN
                  have HNC : Hid (∀ W, DTree W p b x1 → _) := fun W hW => dname_any s I W p b x1 d1 hW n1 n2 n4 n5 HDD.out.2.2.2
                  rw [n3, HD.out] at HNC
                  have HUP : Hid (∀ W, DTree W p b (setB x1 d1 (withB (nodeAt x1 d1) s I)) → _) := fun W hW => dunnamePath_any path W p b _ hW n6 HT.out.2.2.1 p2 old n7 n8
                  rw [n9] at HUP
                  clear n1 n2 n3 n4 n5 n6 n7 n8 n9 hx1 hsm HR1 HU2 HMT HBE e00
                  go_wp2_with fail
                  go_at_call 101
                  refine HUN.out.mono ?_
                  rintro e w7 ⟨rfl, hd7, ht7⟩
                  have HN7 : Hid (Calls Tryz.prog 95 _ _ _) := HNC.out w7 hd7
                  have H7 : Hid (Turn p b w w7) := (turn_below H6.out).trans ht7
                  clear hd7 ht7 HUN HNC H6
                  go_wp2_with fail
                  go_at_call 95
                  refine HN7.out.mono ?_
                  rintro e w8 ⟨rfl, hd8, ht8⟩
                  have HU8 : Hid (Calls Tryz.prog 98 _ _ _) := HUP.out w8 hd8
                  have H8 : Hid (Turn p b w w8) := H7.out.trans ht8
                  clear hd8 ht8 HN7 HUP H7
                  go_wp2_with fail
                  go_at_call 98
                  refine HU8.out.mono ?_
                  rintro e w9 ⟨rfl, hd9, ht9⟩
                  have H9 : Hid (DTree w9 p b (sweptB (movedB (setB t d (withoutB (nodeAt t d) s)) p0 old d s I)) ∧ Turn p b w w9) := ⟨hd9, H8.out.trans ht9⟩
                  clear hd9 ht9 HU8 H8
                  go_wp2
                  go_ret
                  rw [HR.out]
                  exact ⟨rfl, H9.out⟩
                · have HR : Hid (r = (t, noReply, u2)) := by show _ = _; rw [HR1.out, if_pos hu0]
                  have HE : Hid (errV u2 = .iface 80 (.int .i64 u2)) := errV_ne hu0
                  rw [errV_ne hu0]
                  clear HR1 hu0 e00
                  go_wp2
                  go_ret
                  rw [HR.out]
                  exact ⟨by rw [HE.out]; rfl, HT.out.1.below H6.out, turn_below H6.out⟩
end Go.Proofs.YtbebgobboccjcaaGreatDoor
