/- unnamePath, remove. -/
import Derived.Test.YtchajlaflehodaaGreatDoorG4
namespace Go.Proofs.YtchajlaflehodaaGreatDoor
open Go.RowKit Kit
set_option linter.unusedVariables false

set_option maxRecDepth 4000 in
set_option maxHeartbeats 8000000 in
theorem dunnamePath_any (path : ByteArray) (w : World) (p b : Nat) (t : TreeB) (hT : DTree w p b t) (ht : Fair t) (hs1 : path.size ≤ maxLen) (d : Nat) (s : ByteArray) (hh : homeB t path = .ok (d, s)) (hs : s ∈ (nodeAt t d).names) :
    Calls Tryz.prog 68 #[.pointer (some ⟨p, 0, none⟩), .string path] w fun e w' => e = .returned (.tuple #[]) ∧ DTree w' p b (unnameB t d s) ∧ Turn p b w w' := by
  have HX : Hid (Calls Tryz.prog 70 _ _ _) := dplace_any path w p b t hT ht hs1
  rw [hh] at HX
  simp only [outP] at HX
  have e00 : errV 0 = .nilIface := rfl
  rw [e00] at HX
  obtain ⟨hd, hdk⟩ := home_lt ht hh
  have HU : Hid (∀ W, Below w.heap.size w W → _) := fun W hW => dunname_any s W p b t d (hT.below hW) ht hd hdk hs
  obtain ⟨jj, hjj⟩ : ∃ jj, (nodeAt t d).ino = jj := ⟨_, rfl⟩
  rw [hjj] at HX HU
  clear hT ht hs1 hh hs e00 hd hdk hjj
  go_enter Tryz.func68, Tryz.ntmps68
  go_wp2_with fail
  go_at_call 70
  refine HX.out.mono ?_
  rintro e w1 ⟨rfl, hb1⟩
  have HU1 : Hid (Calls Tryz.prog 71 _ _ _) := HU.out w1 hb1
  have H1 : Hid (Below w.heap.size w w1) := hb1
  clear hb1 HX HU
  go_wp2_with fail
  go_at_call 71
  refine HU1.out.mono ?_
  rintro e w2 ⟨rfl, hd2, ht2⟩
  have H2 : Hid (DTree w2 p b (unnameB t d s) ∧ Turn p b w w2) := ⟨hd2, (turn_below H1.out).trans ht2⟩
  clear hd2 ht2 HU1
  go_wp2
  go_end0
  exact ⟨rfl, H2.out⟩
def removeK (o : OpB) : Int := if o.kind = 4 then 2 else 1
def removesF (t : TreeB) (o : OpB) (f : Except Int Nat) : TreeB × ReplyB × Int := match f with
  | .error e => (t, noReply, e)
  | .ok k => if unlikeB (removeK o) (nodeAt t k).kind (nodeAt t k).names.length ≠ 0 then (t, noReply, unlikeB (removeK o) (nodeAt t k).kind (nodeAt t k).names.length) else match homeB t o.path with
    | .error _ => (t, noReply, 0)
    | .ok (d, s) => (sweptB (setB t d (withoutB (nodeAt t d) s)), noReply, 0)
theorem removes_eq {t : TreeB} (hG : Good t) (o : OpB) (ho : o.kind = 3 ∨ o.kind = 4) (hp : (parentB o.path).2.2 = 0) : removesB t o = removesF t o (findB t o.path) := by
  unfold removesB
  rw [if_neg (by simp [hp])]
  cases hf : findB t o.path with
  | error e => rfl
  | ok k =>
    have hk := find_lt hG.e.fair hf
    have hkk := hG.e.fair.kind (nodeAt_mem hk)
    have ok := hG.e.each _ (nodeAt_mem hk)
    simp only [removesF, removeK, unlikeB]
    rcases ho with ho | ho <;> rcases hkk with hk1 | hk1
    · have hn : (nodeAt t k).names = [] := by
        rcases ok.2.2 with h | h
        · omega
        · exact h.2.1
      simp [ho, hk1, hn]
      rfl
    · simp [ho, hk1]
    · simp [ho, hk1]
    · by_cases h0 : 0 < (nodeAt t k).names.length
      · simp [ho, hk1, h0]
      · simp [ho, hk1, h0]
        rfl
set_option maxRecDepth 4000 in
set_option maxHeartbeats 8000000 in
theorem dremove_any (o : OpB) (ho : o.kind = 3 ∨ o.kind = 4) (w : World) (p b : Nat) (t : TreeB) (hT : DTree w p b t) (hG : Good t) (hs1 : o.path.size ≤ maxLen) :
    Calls Tryz.prog 42 #[.pointer (some ⟨p, 0, none⟩), .string o.path, .int .i64 (removeK o)] w fun e w' => e = .returned (errV (removesB t o).2.2) ∧ DTree w' p b (removesB t o).1 ∧ Turn p b w w' := by
  have ht := hG.e.fair
  have HX : Hid (Calls Tryz.prog 66 _ _ _) := nparent_any o.path w hs1
  have HFd : Hid (∀ W, Below w.heap.size w W → _) := fun W hW => dfind_any o.path W p b t (hT.below hW) ht hs1
  have HT : Hid (DTree w p b t ∧ Good t ∧ o.path.size ≤ maxLen) := ⟨hT, hG, hs1⟩
  have HL0 : Hid ((parentB o.path).2.2 ≠ 0 → removesB t o = (t, noReply, (parentB o.path).2.2)) := fun h => by unfold removesB; rw [if_pos h]
  have HL1 : Hid ((parentB o.path).2.2 = 0 → removesB t o = removesF t o (findB t o.path)) := fun h => removes_eq hG o ho h
  have HPP : Hid ((parentB o.path).2.2 = 0 → ∀ k, findB t o.path = .ok k → ∃ d s, homeB t o.path = .ok (d, s) ∧ s ∈ (nodeAt t d).names ∧ unnameB t d s = sweptB (setB t d (withoutB (nodeAt t d) s))) := fun h k hf => by
    obtain ⟨d, s, l, h1, _, _, h2, h3, h4, h5⟩ := find_home hG.e h hf
    exact ⟨d, s, h1, has_iff.1 ((has_name (hG.e.each _ (nodeAt_mem h2)) (ht.nz (nodeAt_mem h2)) s).2 h5), unname_swept hG h2 h3 h5⟩
  obtain ⟨⟨d0, q0, e0⟩, he⟩ : ∃ x, parentB o.path = x := ⟨_, rfl⟩
  rw [he] at HX HL0 HL1 HPP
  simp only at HX HL0 HL1 HPP
  obtain ⟨f, hf⟩ : ∃ f, findB t o.path = f := ⟨_, rfl⟩
  have HF0 : Hid (findB t o.path = f) := hf
  rw [hf] at HFd HL1 HPP
  obtain ⟨r, hr⟩ : ∃ r, removesB t o = r := ⟨_, rfl⟩
  rw [hr] at HL0 HL1 ⊢
  have hrk : removeK o = 1 ∨ removeK o = 2 := by unfold removeK; split <;> simp
  clear hs1 he hf hr hT hG ht
  by_cases hp0 : e0 = 0
  case neg =>
    have HR : Hid (r = (t, noReply, e0)) := HL0.out hp0
    have HE : Hid (errV e0 = .iface 68 (.int .i64 e0)) := errV_ne hp0
    rw [errV_ne hp0] at HX
    clear HL0 HL1 HPP hp0
    go_enter Tryz.func42, Tryz.ntmps42
    go_wp2_with fail
    go_at_call 66
    refine HX.out.mono ?_
    rintro e w1 ⟨rfl, hb1⟩
    have H1 : Hid (Below w.heap.size w w1) := hb1
    clear hb1 HX
    go_wp2
    go_ret
    rw [HR.out]
    exact ⟨by rw [HE.out]; rfl, HT.out.1.below H1.out, turn_below H1.out⟩
  subst hp0
  have e00 : errV 0 = .nilIface := rfl
  rw [e00] at HX
  have HR1 : Hid (r = removesF t o f) := HL1.out rfl
  clear HL0 HL1
  cases f with
  | error x =>
    have hx := find_code' HF0.out
    have HE : Hid (errV x = .iface 68 (.int .i64 x)) := errV_ne hx
    simp only [outW2] at HFd
    rw [errV_ne hx] at HFd
    clear HPP hx e00
    go_enter Tryz.func42, Tryz.ntmps42
    go_wp2_with fail
    go_at_call 66
    refine HX.out.mono ?_
    rintro e w1 ⟨rfl, hb1⟩
    have H1 : Hid (Below w.heap.size w w1) := hb1
    clear hb1 HX
    go_wp2_with fail
    go_at_call 20
    refine (HFd.out w1 H1.out).mono ?_
    rintro e w2 ⟨rfl, hb2⟩
    have H2 : Hid (Below w.heap.size w w2) := bel2v H1.out hb2
    clear hb2 HFd H1
    go_wp2
    go_ret
    rw [HR1.out]
    exact ⟨by simp only [removesF]; rw [HE.out]; rfl, HT.out.1.below H2.out, turn_below H2.out⟩
  | ok k =>
    have hk := find_lt HT.out.2.1.e.fair HF0.out
    obtain ⟨d, s, hh, hsm, hsw⟩ := HPP.out rfl k rfl
    obtain ⟨da, dc, sa, sc, hlook⟩ := HT.out.1.lookAt HT.out.2.1.e.fair hk
    have hkk := HT.out.2.1.e.fair.kind (nodeAt_mem hk)
    have hnm := HT.out.2.1.e.fair.names _ (nodeAt_mem hk)
    have HLK : Hid (∀ W, Below w.heap.size w W → _) := hlook
    have HUL : Hid (∀ W, _) := fun W => dunlike_any (removeK o) (nodeAt t k).kind da sa (nodeAt t k).data.length dc (nodeAt t k).names.length sc W hrk hkk (by omega)
    have HUP : Hid (∀ W, Below w.heap.size w W → _) := fun W hW => dunnamePath_any o.path W p b t (HT.out.1.below hW) HT.out.2.1.e.fair HT.out.2.2 d s hh hsm
    rw [hsw] at HUP
    have HR : Hid (r = if unlikeB (removeK o) (nodeAt t k).kind (nodeAt t k).names.length ≠ 0 then (t, noReply, unlikeB (removeK o) (nodeAt t k).kind (nodeAt t k).names.length) else (sweptB (setB t d (withoutB (nodeAt t d) s)), noReply, 0)) := by show _ = _; rw [HR1.out]; simp only [removesF]; rw [hh]
    simp only [outW2] at HFd
    rw [e00] at HFd
    obtain ⟨u, hu⟩ : ∃ u, unlikeB (removeK o) (nodeAt t k).kind (nodeAt t k).names.length = u := ⟨_, rfl⟩
    rw [hu] at HUL HR
    obtain ⟨ii, hii⟩ : ∃ jj, (nodeAt t k).ino = jj := ⟨_, rfl⟩
    rw [hii] at HFd HLK
    obtain ⟨kk, hkq⟩ : ∃ jj, (nodeAt t k).kind = jj := ⟨_, rfl⟩
    rw [hkq] at HUL HLK
    obtain ⟨rk, hrq⟩ : ∃ jj, removeK o = jj := ⟨_, rfl⟩
    rw [hrq] at HUL ⊢
    obtain ⟨t3, ht3⟩ : ∃ t3, sweptB (setB t d (withoutB (nodeAt t d) s)) = t3 := ⟨_, rfl⟩
    rw [ht3] at HUP HR
    clear HPP hh hsm hsw hlook hkk hnm e00 hu hii hkq hrq hrk ht3 HR1
    by_cases hu0 : u = 0
    · subst hu0
      have e00 : errV 0 = .nilIface := rfl
      rw [e00] at HUL
      have HR2 : Hid (r = (t3, noReply, 0)) := by show _ = _; rw [HR.out, if_neg (by simp)]
      clear HR e00
      go_enter Tryz.func42, Tryz.ntmps42
      go_wp2_with fail
      go_at_call 66
      refine HX.out.mono ?_
      rintro e w1 ⟨rfl, hb1⟩
      have H1 : Hid (Below w.heap.size w w1) := hb1
      clear hb1 HX
      go_wp2_with fail
      go_at_call 20
      refine (HFd.out w1 H1.out).mono ?_
      rintro e w2 ⟨rfl, hb2⟩
      have H2 : Hid (Below w.heap.size w w2) := bel2v H1.out hb2
      obtain ⟨hl, c0, _⟩ := HLK.out w2 H2.out
      clear hb2 HFd H1 HLK
      go_wp2_with fail
      go_at_call 67
      refine (HUL.out w2).mono ?_
      rintro e w3 ⟨rfl, hb3⟩
      have H3 : Hid (Below w.heap.size w w3) := bel2v H2.out hb3
      clear hb3 HUL H2
      go_wp2_with fail
      go_at_call 68
      refine (HUP.out w3 H3.out).mono ?_
      rintro e w4 ⟨rfl, hd4, ht4⟩
      have H4 : Hid (DTree w4 p b t3 ∧ Turn p b w w4) := ⟨hd4, (turn_below H3.out).trans ht4⟩
      clear hd4 ht4 HUP H3
      go_wp2
      go_ret
      rw [HR2.out]
      exact ⟨rfl, H4.out⟩
    · have HE : Hid (errV u = .iface 68 (.int .i64 u)) := errV_ne hu0
      have HR2 : Hid (r = (t, noReply, u)) := by show _ = _; rw [HR.out, if_pos hu0]
      rw [errV_ne hu0] at HUL
      clear HR hu0 HUP
      go_enter Tryz.func42, Tryz.ntmps42
      go_wp2_with fail
      go_at_call 66
      refine HX.out.mono ?_
      rintro e w1 ⟨rfl, hb1⟩
      have H1 : Hid (Below w.heap.size w w1) := hb1
      clear hb1 HX
      go_wp2_with fail
      go_at_call 20
      refine (HFd.out w1 H1.out).mono ?_
      rintro e w2 ⟨rfl, hb2⟩
      have H2 : Hid (Below w.heap.size w w2) := bel2v H1.out hb2
      obtain ⟨hl, c0, _⟩ := HLK.out w2 H2.out
      clear hb2 HFd H1 HLK
      go_wp2_with fail
      go_at_call 67
      refine (HUL.out w2).mono ?_
      rintro e w3 ⟨rfl, hb3⟩
      have H3 : Hid (Below w.heap.size w w3) := bel2v H2.out hb3
      clear hb3 HUL H2
      go_wp2
      go_ret
      rw [HR2.out]
      exact ⟨by rw [HE.out]; rfl, HT.out.1.below H3.out, turn_below H3.out⟩
end Go.Proofs.YtchajlaflehodaaGreatDoor
