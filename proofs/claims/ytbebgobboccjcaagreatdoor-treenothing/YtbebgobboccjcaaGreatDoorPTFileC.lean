/- dolmenref5.file: what one call answers: cutting. -/
import Derived.Test.YtbebgobboccjcaaGreatDoorH5
import Derived.Test.YtbebgobboccjcaaGreatDoorH2
import Derived.Deep.DeepCutAuto
import Derived.Deep.CutRange
import Derived.Deep.RegionHeld3
import Derived.Deep.RegionLaw
import Derived.Laws.CopyOwn
namespace Go.Proofs.YtbebgobboccjcaaGreatDoor
open Go.RowKit Kit
set_option linter.unusedVariables false

theorem cell_oldC {w w' : World} {a : Addr} {v : Value} (hb : Below w.heap.size w w') (h : w.cell? a = some v) : w'.cell? a = some v := (hb.cell (cell_lt h)).trans h
theorem keep1C {w : World} {g c j a0 : Nat} {v v0 : Value} (h : w.cell? ⟨c, j, none⟩ = some v) (hne : g ≠ c) : (w.setCell ⟨g, a0, none⟩ v0).cell? ⟨c, j, none⟩ = some v := by
 rw [World.cell?_setCell_far _ _ _ _ hne]; exact h
set_option maxRecDepth 4000 in
set_option maxHeartbeats 40000000 in
theorem file_cut5 (v ov : Value) (t : TreeB) (o : OpB) (w : World) (hT : TreeAt w v t) (hg : Good t) (ho : OpAt w ov o) (hk : o.kind = 9) :
 Calls Tryz.prog 52 #[v, ov] w fun e w' => ∃ tv rv, e = .returned (.tuple #[tv, rv, .int .i64 (fileB t o).2.2]) ∧ TreeAt w' tv (fileB t o).1 ∧ ReplyAt w' rv (fileB t o).2.1 ∧ Below w.heap.size w w' := by
 have HT : Hid (TreeAt w v t) := hT
 obtain ⟨fs, hF⟩ : ∃ fs, TreeG w v t fs := by obtain ⟨sv, fs, h⟩ := hT; exact ⟨fs, sv, h⟩
 have HTF : Hid (TreeG w v t fs) := hF
 obtain ⟨ao, cap, rfl, q1, q2, q3, q4, q5⟩ := hF.opened
 obtain ⟨dv, rfl, ho1, ho2, ho3, ho4⟩ := ho
 obtain ⟨b, off, rfl, hb, hc⟩ := q5 hg.e.root0.1
 have hl := fs_len q3
 have lm : (t.nodes.length : Int) ≤ 60 := by have := hg.e.size; omega
 obtain ⟨do', dc, hdv, hdx⟩ := ho1
 obtain ⟨dn, hdn⟩ : ∃ n, (intsV .u8 o.data).length = n := ⟨_, rfl⟩
 rw [hdn] at hdv
 subst hdv
 have HG : Hid (Good t ∧ fs.map FN.n = t.nodes ∧ (∀ f ∈ fs, f.is w) ∧ b < w.heap.size ∧ ∀ k (hk : k < fs.length), At5 w b (off + k * 5) fs[k]) := ⟨hg, q3, q4, hb, hc⟩
 have HH : Hid (∀ W, Below w.heap.size w W → Calls Tryz.prog 83 #[.agg #[.slice (some ⟨b, off, none⟩) t.nodes.length cap, .int .i64 t.next], .string o.path] W fun e w' => e = .returned (resH (homeB t o.path)) ∧ Below W.heap.size W w') := fun W hb => home_any _ t o.path W (HT.out.below hb) hg ho2
 have HFd : Hid (∀ W, Below w.heap.size w W → Calls Tryz.prog 53 #[.agg #[.slice (some ⟨b, off, none⟩) t.nodes.length cap, .int .i64 t.next], .string o.path] W fun e w' => e = .returned (resV (findB t o.path)) ∧ Below W.heap.size W w') := fun W hb => find_any _ t o.path W (HT.out.below hb) hg ho2
 have HDL : Hid (dn = o.data.length) := by show _ = _; rw [← hdn, intsV_len]
 have HSO : Hid (Sees w (.slice do' dn dc) (intsV .u8 o.data)) := ⟨do', dc, by rw [hdn], hdx⟩
 clear q1 q2 q3 q4 q5 hT hF hb hc hg ho2 ho3 ho4 hdn
 unfold opV
 obtain ⟨w0, hw0⟩ : ∃ w0, w0 = ((((w.alloc (.cells #[.slice (some ⟨b, off, none⟩) t.nodes.length cap, .int .i64 t.next] 29)).alloc (.cells #[.int .i64 o.kind, .string o.path, .string o.to, .int .i64 o.off, .int .i64 o.n, .slice do' dn dc, .int .i64 o.snap] 35)).alloc (.cells #[.slice none 0 0, .int .i64 0] 29)).alloc (.cells #[.int .i64 0, .int .i64 0, .int .i64 0, .int .i64 0, .int .i64 0, .slice none 0 0, .slice none 0 0, .slice none 0 0] 40)) := ⟨_, rfl⟩
 have HB0 : Hid (Bx w w0 (.slice (some ⟨b, off, none⟩) t.nodes.length cap) (.int .i64 t.next) o (.slice do' dn dc)) := by rw [hw0]; exact bx_new w _ _ _ o
 have HM : Hid (fileB t o = match findB t o.path with
  | .error e => (t, noReply, e)
  | .ok k => if (nodeAt t k).kind = 2 then (t, noReply, 7) else if o.kind = 7 then (if o.off < 0 ∨ o.n < 0 then (t, noReply, 12) else (t, { noReply with data := ((nodeAt t k).data.drop o.off.toNat).take o.n.toNat }, 0)) else
    if o.kind = 8 then (if o.off < 0 ∨ 2000 < o.off ∨ 2000 - o.off < (o.data.length : Int) then (t, noReply, 12) else if o.data.length = 0 then (t, noReply, 0) else
     (dataB t k (laidB (bytesB (nodeAt t k).data (max (nodeAt t k).data.length (o.off.toNat + o.data.length))) o.off.toNat o.data), { noReply with n := o.data.length }, 0)) else
    if o.n < 0 ∨ 2000 < o.n then (t, noReply, 12) else (dataB t k (bytesB (nodeAt t k).data o.n.toNat), noReply, 0)) := rfl
 have HKi : Hid (o.kind = 9) := hk
 clear HH hk
 go_enter Tryz.func52, Tryz.ntmps52
 go_wp2_with fail
 go_at_call 53
 rw [← hw0]
 refine (HFd.out w0 HB0.out.2.2.2.2).mono ?_
 rintro e w2 ⟨rfl, hb2⟩
 have HB2 : Hid (Bx w w2 (.slice (some ⟨b, off, none⟩) t.nodes.length cap) (.int .i64 t.next) o (.slice do' dn dc)) := HB0.out.below hb2
 clear HB0 hw0 hb2 HFd
 have hfc := fun x => find_code (t := t) (p := o.path) (x := x)
 obtain ⟨fm, hfm⟩ : ∃ z, findB t o.path = z := ⟨_, rfl⟩
 rw [hfm] at HM hfc
 rw [hfm]
 cases fm with
 | error x =>
   have hx0 := hfc x rfl
   have hxn : x ≠ 0 := by omega
   have hxe : (x == 0) = false := beq_eq_false_iff_ne.2 hxn
   have hxe2 : (x != 0) = true := by simp [hxn]
   have HR : Hid (fileB t o = (t, noReply, x)) := HM.out
   unfold resV
   have hB := HB2.out
   obtain ⟨c0, c1⟩ := hB.1.c
   obtain ⟨r0, r1⟩ := hB.2.2.1.c
   have z0 := hB.2.2.1.fz 0
   have z1 := hB.2.2.1.fz 1
   obtain ⟨s0, s1, s2, s3, s4, s5, s6, s7, sz⟩ := hB.re
   obtain ⟨p0, p1, p2, p3, p4, p5⟩ := hB.op
   clear hB HM hfm hfc hx0 hxn
   go_wp2
   refine bodyPost_ret (v := .tuple #[.agg #[.slice (some ⟨b, off, none⟩) t.nodes.length cap, .int .i64 t.next], .agg #[.int .i64 0, .int .i64 0, .int .i64 0, .int .i64 0, .int .i64 0, .slice none 0 0, .slice none 0 0, .slice none 0 0], .int .i64 x]) (by simp [results, Tryz.results52, go_sem, *]) rfl ?_
   rw [HR.out]
   exact ⟨_, _, rfl, HT.out.below (out_below _ _ _ _ _ _ _ _ _ _ HB2.out.2.2.2.2), replyAt_no _, out_below _ _ _ _ _ _ _ _ _ _ HB2.out.2.2.2.2⟩
 | ok k =>
   have hkl : k < t.nodes.length := (find_ok HG.out.1.e hfm).2.2
   have HM3 : Hid (fileB t o = if (nodeAt t k).kind = 2 then (t, noReply, 7) else if o.kind = 7 then (if o.off < 0 ∨ o.n < 0 then (t, noReply, 12) else (t, { noReply with data := ((nodeAt t k).data.drop o.off.toNat).take o.n.toNat }, 0)) else
    if o.kind = 8 then (if o.off < 0 ∨ 2000 < o.off ∨ 2000 - o.off < (o.data.length : Int) then (t, noReply, 12) else if o.data.length = 0 then (t, noReply, 0) else
     (dataB t k (laidB (bytesB (nodeAt t k).data (max (nodeAt t k).data.length (o.off.toNat + o.data.length))) o.off.toNat o.data), { noReply with n := o.data.length }, 0)) else
    if o.n < 0 ∨ 2000 < o.n then (t, noReply, 12) else (dataB t k (bytesB (nodeAt t k).data o.n.toNat), noReply, 0)) := HM.out
   have hfk : k < fs.length := by omega
   have hnk : nodeAt t k = fs[k].n := fs_at HG.out.2.1 hfk
   obtain ⟨kd, hkd⟩ : ∃ z, (nodeAt t k).kind = z := ⟨_, rfl⟩
   obtain ⟨do2, dc2, hdd, _⟩ := (HG.out.2.2.1 _ (List.getElem_mem hfk)).1
   have HSD : Hid (Sees w (.slice do2 (nodeAt t k).data.length dc2) (intsV .u8 (nodeAt t k).data)) := by
    have h9 := (HG.out.2.2.1 _ (List.getElem_mem hfk)).1
    rw [hdd, intsV_len, ← hnk] at h9
    exact h9
   have a5 := At5.below (HG.out.2.2.2.2 k hfk) HG.out.2.2.2.1 HB2.out.2.2.2.2
   obtain ⟨_, y1, y2, _, _⟩ := a5
   rw [← hnk, hkd] at y1
   rw [hdd, intsV_len, ← hnk] at y2
   have bl : b < w2.heap.size := Nat.lt_of_lt_of_le HG.out.2.2.2.1 HB2.out.2.2.2.2.size
   rw [hkd] at HM3
   have j0 : (k : Int) < (t.nodes.length : Int) := by omega
   have j1 : (0 : Int) ≤ (k : Int) := by omega
   obtain ⟨c0, c1⟩ := HB2.out.1.c
   have HLD : Hid (kd ≠ 2 → (nodeAt t k).data.length ≤ 2000) := fun hne => by
    have ok := HG.out.1.e.each _ (nodeAt_mem hkl)
    rcases ok.2.2 with h | h
    · exact absurd (hkd.symm.trans h.1) hne
    · exact h.2.2.2.1
   obtain ⟨L, hL⟩ : ∃ z, (nodeAt t k).data.length = z := ⟨_, rfl⟩
   have HL : Hid ((nodeAt t k).data.length = L) := hL
   rw [hL] at HSD HLD y2
   unfold resV
   have HIk : Hid (k < t.nodes.length) := hkl
   clear HM hfc hfm hdd hL
   by_cases hd2 : kd = 2
   · subst hd2
     have HR : Hid (fileB t o = (t, noReply, 7)) := by show _ = _; rw [HM3.out, if_pos rfl]
     have hB := HB2.out
     obtain ⟨r0, r1⟩ := hB.2.2.1.c
     have z0 := hB.2.2.1.fz 0
     have z1 := hB.2.2.1.fz 1
     obtain ⟨s0, s1, s2, s3, s4, s5, s6, s7, sz⟩ := hB.re
     clear hB HM3
     go_wp2
     refine bodyPost_ret (v := .tuple #[.agg #[.slice (some ⟨b, off, none⟩) t.nodes.length cap, .int .i64 t.next], .agg #[.int .i64 0, .int .i64 0, .int .i64 0, .int .i64 0, .int .i64 0, .slice none 0 0, .slice none 0 0, .slice none 0 0], .int .i64 7]) (by simp [results, Tryz.results52, go_sem, *]) rfl ?_
     rw [HR.out]
     exact ⟨_, _, rfl, HT.out.below (out_below _ _ _ _ _ _ _ _ _ _ HB2.out.2.2.2.2), replyAt_no _, out_below _ _ _ _ _ _ _ _ _ _ HB2.out.2.2.2.2⟩
   · have hde : (kd == 2) = false := beq_eq_false_iff_ne.2 hd2
     have HM4 : Hid (fileB t o = if o.kind = 7 then (if o.off < 0 ∨ o.n < 0 then (t, noReply, 12) else (t, { noReply with data := ((nodeAt t k).data.drop o.off.toNat).take o.n.toNat }, 0)) else
     if o.kind = 8 then (if o.off < 0 ∨ 2000 < o.off ∨ 2000 - o.off < (o.data.length : Int) then (t, noReply, 12) else if o.data.length = 0 then (t, noReply, 0) else
      (dataB t k (laidB (bytesB (nodeAt t k).data (max (nodeAt t k).data.length (o.off.toNat + o.data.length))) o.off.toNat o.data), { noReply with n := o.data.length }, 0)) else
     if o.n < 0 ∨ 2000 < o.n then (t, noReply, 12) else (dataB t k (bytesB (nodeAt t k).data o.n.toNat), noReply, 0)) := by show _ = _; rw [HM3.out, if_neg hd2]
     have L2 : L ≤ 2000 := HLD.out hd2
     clear HM3 HLD
     have HCP : Hid (Calls Tryz.prog 85 #[.agg #[.slice (some ⟨b, off, none⟩) t.nodes.length cap, .int .i64 t.next]] w2 _) := copied_any _ t fs w2 (HTF.out.below HB2.out.2.2.2.2) (by omega) (by omega)
     go_wp2_with fail
     go_at_call 85
     refine HCP.out.mono ?_
     rintro e3 w3 ⟨u, rfl, ⟨sv, hsv, hrow, hfn, hfi⟩, hb3⟩
     obtain ⟨g, cp, hsv2⟩ := own_some hrow (by omega)
     rw [hl] at hsv2
     subst hsv2
     subst hsv
     rw [hl] at hrow
     obtain ⟨w4, hw4⟩ : ∃ z, z = w3.alloc (.cells #[.slice (some ⟨g, 0, none⟩) t.nodes.length cp, .int .i64 t.next] 29) := ⟨_, rfl⟩
     have HX4 : Hid (XI w w4 w2.heap.size (w3.heap.size + 1) w3.heap.size g cp t fs) := by rw [hw4]; exact xi_new hrow HG.out.2.1 HG.out.2.2.1 HB2.out.2.2.2.2 hb3 (Array.getElem?_eq_some_iff.1 HB2.out.2.2.2.1).1
     have HB4 : Hid (Bx w w4 (.slice (some ⟨b, off, none⟩) t.nodes.length cap) (.int .i64 t.next) o (.slice do' dn dc)) := by rw [hw4]; exact (HB2.out.below hb3).below ((Below.refl _ _).alloc (Nat.le_refl _) _)
     obtain ⟨LO, hLO⟩ : ∃ z, z = w2.heap.size := ⟨_, rfl⟩
     rw [← hLO] at HX4
     obtain ⟨xb, hxb⟩ : ∃ z, z = w3.heap.size := ⟨_, rfl⟩
     rw [← hxb] at HX4
     obtain ⟨K, hK⟩ : ∃ z, z = xb + 1 := ⟨_, rfl⟩
     rw [← hK] at HX4
     clear HCP hrow hfn hfi hb3 HB2 hK hLO c0 c1 y1 y2
     go_upto_region 8 with fail
     rw [← hw4, ← hxb]
     clear hw4 hxb
     obtain ⟨p0, p1, p2, p3, p4, p5⟩ := HB4.out.op
     rw [HKi.out] at p0
     have hk := HKi.out
     have HM5 : Hid (fileB t o = if o.n < 0 ∨ 2000 < o.n then (t, noReply, 12) else (dataB t k (bytesB (nodeAt t k).data o.n.toNat), noReply, 0)) := by show _ = _; rw [HM4.out, if_neg (by omega), if_neg (by omega)]
     clear hk
     by_cases hA : o.n < 0
     · have hAd : decide (o.n < 0) = true := decide_eq_true hA
       skip
       have HR : Hid (fileB t o = (t, noReply, 12)) := by show _ = _; rw [HM5.out, if_pos (.inl hA)]
       have hB := HB4.out
       obtain ⟨c0, c1⟩ := hB.1.c
       obtain ⟨r0, r1⟩ := hB.2.2.1.c
       have z0 := hB.2.2.1.fz 0
       have z1 := hB.2.2.1.fz 1
       obtain ⟨s0, s1, s2, s3, s4, s5, s6, s7, sz⟩ := hB.re
       skip
       clear hB HM4 HM5
       go_wp2
       refine bodyPost_ret (v := .tuple #[.agg #[.slice (some ⟨b, off, none⟩) t.nodes.length cap, .int .i64 t.next], .agg #[.int .i64 0, .int .i64 0, .int .i64 0, .int .i64 0, .int .i64 0, .slice none 0 0, .slice none 0 0, .slice none 0 0], .int .i64 12]) (by simp [results, Tryz.results52, go_sem, *]) rfl ?_
       rw [HR.out]
       exact ⟨_, _, rfl, HT.out.below (out_below _ _ _ _ _ _ _ _ _ _ HB4.out.2.2.2.2), replyAt_no _, out_below _ _ _ _ _ _ _ _ _ _ HB4.out.2.2.2.2⟩
     · have hAd : decide (o.n < 0) = false := decide_eq_false hA
       by_cases hN : 2000 < o.n
       · have hNd : decide (2000 < o.n) = true := decide_eq_true hN
         skip
         have HR : Hid (fileB t o = (t, noReply, 12)) := by show _ = _; rw [HM5.out, if_pos (.inr hN)]
         have hB := HB4.out
         obtain ⟨c0, c1⟩ := hB.1.c
         obtain ⟨r0, r1⟩ := hB.2.2.1.c
         have z0 := hB.2.2.1.fz 0
         have z1 := hB.2.2.1.fz 1
         obtain ⟨s0, s1, s2, s3, s4, s5, s6, s7, sz⟩ := hB.re
         skip
         clear hB HM4 HM5
         go_wp2
         refine bodyPost_ret (v := .tuple #[.agg #[.slice (some ⟨b, off, none⟩) t.nodes.length cap, .int .i64 t.next], .agg #[.int .i64 0, .int .i64 0, .int .i64 0, .int .i64 0, .int .i64 0, .slice none 0 0, .slice none 0 0, .slice none 0 0], .int .i64 12]) (by simp [results, Tryz.results52, go_sem, *]) rfl ?_
         rw [HR.out]
         exact ⟨_, _, rfl, HT.out.below (out_below _ _ _ _ _ _ _ _ _ _ HB4.out.2.2.2.2), replyAt_no _, out_below _ _ _ _ _ _ _ _ _ _ HB4.out.2.2.2.2⟩
       · have hNd : decide (2000 < o.n) = false := decide_eq_false hN
         obtain ⟨n, hn⟩ : ∃ n : Nat, o.n = (n : Int) := ⟨o.n.toNat, by omega⟩
         have HR : Hid (fileB t o = (dataB t k (bytesB (nodeAt t k).data n), noReply, 0)) := by
          show _ = _
          have e9 : o.n.toNat = n := by omega
          rw [HM5.out, if_neg (by omega), e9]
         rw [hn] at p4 hAd hNd
         have hn2 : n ≤ 2000 := by omega
         obtain ⟨x0, x1, x2, x3, x4⟩ := HX4.out.cells
         have hgx := HX4.out.xt.2.2.1
         have hgo : g ≠ w.heap.size + 1 := by have := HX4.out.glo; have := HX4.out.lo4; omega
         have HBy : Hid (∀ U, Below w4.heap.size w4 U → Calls Tryz.prog 90 #[.slice do2 L dc2, .int .i64 (n : Int)] U fun e w' => ∃ vb, e = .returned (.slice (some ⟨vb, 0, none⟩) n n) ∧ w'.cell? ⟨xb, 0, none⟩ = some (.slice (some ⟨g, 0, none⟩) t.nodes.length cp) ∧ xb < w'.heap.size ∧ g < w'.heap.size ∧ (∀ j, w'.frozen? ⟨g, j, none⟩ = false) ∧ w'.cell? ⟨w.heap.size + 1, 4, none⟩ = some (.int .i64 (n : Int)) ∧ (∃ d0, w'.cell? ⟨g, k * 5 + 2, none⟩ = some d0) ∧ Hid (Sees w' (.slice (some ⟨vb, 0, none⟩) n n) (intsV .u8 (bytesB (nodeAt t k).data n)) ∧ K ≤ vb ∧ Below w4.heap.size w4 w')) := fun U hU => by
          have h8 := tbytes_any (.slice do2 L dc2) (nodeAt t k).data n U ((HSD.out.below HX4.out.bel).below hU) hn2
          refine h8.mono ?_
          rintro e w' ⟨rfl, hh, hb'⟩
          have hbw := bel2v hU hb'
          have hX := HX4.out.below hbw
          obtain ⟨z0, z1, z2, z3, z4⟩ := hX.cells
          obtain ⟨f9, _, _, h9⟩ := hX.node HIk.out
          refine ⟨_, rfl, z0, z2, z3, z4, cell_oldC hbw p4, ⟨_, h9.2.2.1⟩, ⟨?_, Nat.le_trans HX4.out.KW hU.size, hbw⟩⟩
          have hlen : (intsV .u8 (bytesB (nodeAt t k).data n)).length = n := by rw [intsV_len, bytesB_len]
          refine ⟨some ⟨U.heap.size, 0, none⟩, n, by rw [hlen], by omega, by unfold maxLen; omega, by simp, fun _ => ⟨U.heap.size, 0, rfl, (Array.getElem?_eq_some_iff.1 hh).1, fun j x hx => ?_⟩⟩
          rw [Nat.zero_add]
          simp only [World.cell?, hh]
          simpa using hx
         clear HM4 HM5 hn
         go_upto_region 26 with fail
         go_cut [] (fun wx => ∃ vb w6, wx = w6.setCell ⟨g, k * 5 + 2, none⟩ (.slice (some ⟨vb, 0, none⟩) n n) ∧ Hid (Sees w6 (.slice (some ⟨vb, 0, none⟩) n n) (intsV .u8 (bytesB (nodeAt t k).data n)) ∧ K ≤ vb ∧ Below w4.heap.size w4 w6))
         case first =>
          go_region_held3 (fun W => W.cell? ⟨xb, 0, none⟩ = some (.slice (some ⟨g, 0, none⟩) t.nodes.length cp) ∧ W.cell? ⟨w.heap.size + 1, 4, none⟩ = some (.int .i64 (n : Int))) (first | exact ⟨x0, p4⟩ | exact ⟨k0, k4⟩ | exact ⟨keep1C k0 hgx, keep1C k4 hgo⟩) (first | (go_at_call 90; refine (HBy.out _ (by first | exact Below.refl _ _ | exact (Below.refl _ _).drew)).mono ?_; rintro e6 w6 ⟨vb, rfl, k0, k1, k2, kz, k4, ⟨d0, k3⟩, H6⟩))
          all_goals (
           go_wp2_with fail
           go_meet
           case rel => exact ⟨vb, w6, rfl, H6⟩)
         case rest =>
          obtain ⟨vb, w6, hwc, H6⟩ := hcut
          have hkf : k < fs.length := by rw [HX4.out.len]; exact HIk.out
          have hfr : Fresh K (.slice (some ⟨vb, 0, none⟩) n n) := fun q hq => by
           have e : vb = q := by simpa [Value.ownBlock] using hq
           have := H6.out.2.1
           omega
          have hXc := (HX4.out.below H6.out.2.2).data hkf H6.out.1 hfr
          rw [← hwc] at hXc
          obtain ⟨fs2, hfs2⟩ : ∃ z, z = fs.set k ⟨{ fs[k].n with data := bytesB (nodeAt t k).data n }, .slice (some ⟨vb, 0, none⟩) n n, fs[k].m, fs[k].i⟩ := ⟨_, rfl⟩
          rw [← hfs2] at hXc
          have HXc : Hid (XI w wc LO K xb g cp (dataB t k (bytesB (nodeAt t k).data n)) fs2) := hXc
          clear hXc hfs2 hfr
          have HBc : Hid (Bx w wc (.slice (some ⟨b, off, none⟩) t.nodes.length cap) (.int .i64 t.next) o (.slice do' dn dc)) := by
           rw [hwc]
           have hB := HB4.out.below H6.out.2.2
           have hgl := HX4.out.glo
           have hl4 := HX4.out.lo4
           exact ⟨hB.1.setOther (by omega) _, (Below.heap_setCell _ _ _ _ (by show _ ≠ g; omega)).trans hB.2.1, hB.2.2.1.setOther (by omega) _, (Below.heap_setCell _ _ _ _ (by show _ ≠ g; omega)).trans hB.2.2.2.1, hB.2.2.2.2.setCell (by show _ ≤ g; omega) _⟩
          clear hwc H6 HBy HX4 HB4 x0 x1 x2 x3 x4 p0 p1 p2 p3 p4 p5
          obtain ⟨X, hX⟩ : ∃ X, dataB t k (bytesB (nodeAt t k).data n) = X := ⟨_, rfl⟩
          have HXL : Hid (X.nodes.length ≤ 60) := by rw [← hX]; unfold dataB; rw [set_len]; exact HG.out.1.e.size
          rw [hX] at HXc HR
          clear hX
          obtain ⟨x0, x1, x2, x3, x4⟩ := HXc.out.cells
          obtain ⟨XN, hXN⟩ : ∃ z, X.nodes.length = z := ⟨_, rfl⟩
          obtain ⟨XX, hXX⟩ : ∃ z, X.next = z := ⟨_, rfl⟩
          rw [hXN] at x0
          rw [hXX] at x1
          have HEn : Hid (TreeAt (outW wc w.heap.size (.slice (some ⟨g, 0, none⟩) XN cp) (.int .i64 XX) (.int .i64 0) (.int .i64 0) (.int .i64 0) (.int .i64 0) (.int .i64 0) (.slice none 0 0) (.slice none 0 0) (.slice none 0 0)) (.agg #[.slice (some ⟨g, 0, none⟩) XN cp, .int .i64 XX]) X ∧ Below w.heap.size w (outW wc w.heap.size (.slice (some ⟨g, 0, none⟩) XN cp) (.int .i64 XX) (.int .i64 0) (.int .i64 0) (.int .i64 0) (.int .i64 0) (.int .i64 0) (.slice none 0 0) (.slice none 0 0) (.slice none 0 0))) := by
           have h9 := HXc.out.out_end HXL.out (.slice (some ⟨g, 0, none⟩) XN cp) (.int .i64 XX) (.int .i64 0) (.int .i64 0) (.int .i64 0) (.int .i64 0) (.int .i64 0) (.slice none 0 0) (.slice none 0 0) (.slice none 0 0)
           rw [hXX, hXN] at h9
           exact h9
          clear HXc hXN hXX
          obtain ⟨r0, r1⟩ := HBc.out.2.2.1.c
          have z0 := HBc.out.2.2.1.fz 0
          have z1 := HBc.out.2.2.1.fz 1
          obtain ⟨s0, s1, s2, s3, s4, s5, s6, s7, sz⟩ := HBc.out.re
          go_wp2
          refine bodyPost_ret (v := .tuple #[.agg #[.slice (some ⟨g, 0, none⟩) XN cp, .int .i64 XX], .agg #[.int .i64 0, .int .i64 0, .int .i64 0, .int .i64 0, .int .i64 0, .slice none 0 0, .slice none 0 0, .slice none 0 0], .int .i64 0]) (by simp [results, Tryz.results52, go_sem, *]) rfl ?_
          rw [HR.out]
          unfold outW at HEn
          exact ⟨_, _, rfl, HEn.out.1, replyAt_no _, HEn.out.2⟩
end Go.Proofs.YtbebgobboccjcaaGreatDoor
