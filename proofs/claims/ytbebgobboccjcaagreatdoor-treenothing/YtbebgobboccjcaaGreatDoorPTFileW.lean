/- dolmenref5.file: what one call answers: writing. -/
import Derived.Test.YtbebgobboccjcaaGreatDoorH5
import Derived.Test.YtbebgobboccjcaaGreatDoorH2
import Derived.Deep.DeepCutAuto
import Derived.Deep.CutRange
import Derived.Deep.RegionHeld3
import Derived.Deep.RegionLaw
import Derived.Laws.CopyOwn
namespace Go.Proofs.YtbebgobboccjcaaGreatDoor
open Go.RowKit Kit
set_option linter.unusedVariables false

theorem cell_oldW {w w' : World} {a : Addr} {v : Value} (hb : Below w.heap.size w w') (h : w.cell? a = some v) : w'.cell? a = some v := (hb.cell (cell_lt h)).trans h
theorem keep1W {w : World} {g c j a0 : Nat} {v v0 : Value} (h : w.cell? ⟨c, j, none⟩ = some v) (hne : g ≠ c) : (w.setCell ⟨g, a0, none⟩ v0).cell? ⟨c, j, none⟩ = some v := by
 rw [World.cell?_setCell_far _ _ _ _ hne]; exact h
theorem out_drewW {w W : World} {v : Value} {X : TreeB} (h : TreeAt W v X ∧ Below w.heap.size w W) : TreeAt W.drew v X ∧ Below w.heap.size w W.drew := ⟨h.1.below (Below.refl _ _).drew, h.2.drew⟩
theorem keepDW {w : World} {a : Addr} {v : Value} (h : w.cell? a = some v) : w.drew.cell? a = some v := h
theorem keep2W {w : World} {g c j : Nat} {v v0 v1 : Value} (h : w.cell? ⟨c, j, none⟩ = some v) (hne : g ≠ c) : ((w.setCell ⟨g, 0, none⟩ v0).setCell ⟨g, 1, none⟩ v1).cell? ⟨c, j, none⟩ = some v := keep1W (keep1W h hne) hne
theorem keep8W {w : World} {g c j : Nat} {v v0 v1 v2 v3 v4 v5 v6 v7 : Value} (h : w.cell? ⟨c, j, none⟩ = some v) (hne : g ≠ c) : ((((((((w.setCell ⟨g, 0, none⟩ v0).setCell ⟨g, 1, none⟩ v1).setCell ⟨g, 2, none⟩ v2).setCell ⟨g, 3, none⟩ v3).setCell ⟨g, 4, none⟩ v4).setCell ⟨g, 5, none⟩ v5).setCell ⟨g, 6, none⟩ v6).setCell ⟨g, 7, none⟩ v7).cell? ⟨c, j, none⟩ = some v := keep1W (keep1W (keep1W (keep1W (keep1W (keep1W (keep1W (keep1W h hne) hne) hne) hne) hne) hne) hne) hne
set_option maxRecDepth 4000 in
set_option maxHeartbeats 40000000 in
theorem file_write5 (v ov : Value) (t : TreeB) (o : OpB) (w : World) (hT : TreeAt w v t) (hg : Good t) (ho : OpAt w ov o) (hk : o.kind = 8) :
 Calls Tryz.prog 52 #[v, ov] w fun e w' => ∃ tv rv, e = .returned (.tuple #[tv, rv, .int .i64 (fileB t o).2.2]) ∧ TreeAt w' tv (fileB t o).1 ∧ ReplyAt w' rv (fileB t o).2.1 ∧ Below w.heap.size w w' := by
 have HT : Hid (TreeAt w v t) := hT
 obtain ⟨fs, hF⟩ : ∃ fs, TreeG w v t fs := by obtain ⟨sv, fs, h⟩ := hT; exact ⟨fs, sv, h⟩
 have HTF : Hid (TreeG w v t fs) := hF
 obtain ⟨ao, cap, rfl, q1, q2, q3, q4, q5⟩ := hF.opened
 obtain ⟨dv, rfl, ho1, ho2, ho3, ho4⟩ := ho
 obtain ⟨b, off, rfl, hb, hc⟩ := q5 hg.e.root0.1
 have hl := fs_len q3
 have lm : (t.nodes.length : Int) ≤ 60 := by have := hg.e.size; omega
 obtain ⟨do', dc, hdv, hdx⟩ := ho1
 obtain ⟨dn, hdn⟩ : ∃ n, (intsV .u8 o.data).length = n := ⟨_, rfl⟩
 rw [hdn] at hdv
 subst hdv
 have HG : Hid (Good t ∧ fs.map FN.n = t.nodes ∧ (∀ f ∈ fs, f.is w) ∧ b < w.heap.size ∧ ∀ k (hk : k < fs.length), At5 w b (off + k * 5) fs[k]) := ⟨hg, q3, q4, hb, hc⟩
 have HH : Hid (∀ W, Below w.heap.size w W → Calls Tryz.prog 83 #[.agg #[.slice (some ⟨b, off, none⟩) t.nodes.length cap, .int .i64 t.next], .string o.path] W fun e w' => e = .returned (resH (homeB t o.path)) ∧ Below W.heap.size W w') := fun W hb => home_any _ t o.path W (HT.out.below hb) hg ho2
 have HFd : Hid (∀ W, Below w.heap.size w W → Calls Tryz.prog 53 #[.agg #[.slice (some ⟨b, off, none⟩) t.nodes.length cap, .int .i64 t.next], .string o.path] W fun e w' => e = .returned (resV (findB t o.path)) ∧ Below W.heap.size W w') := fun W hb => find_any _ t o.path W (HT.out.below hb) hg ho2
 have HDL : Hid (dn = o.data.length) := by show _ = _; rw [← hdn, intsV_len]
 have HSO : Hid (Sees w (.slice do' dn dc) (intsV .u8 o.data)) := ⟨do', dc, by rw [hdn], hdx⟩
 clear q1 q2 q3 q4 q5 hT hF hb hc hg ho2 ho3 ho4 hdn
 unfold opV
 obtain ⟨w0, hw0⟩ : ∃ w0, w0 = ((((w.alloc (.cells #[.slice (some ⟨b, off, none⟩) t.nodes.length cap, .int .i64 t.next] 29)).alloc (.cells #[.int .i64 o.kind, .string o.path, .string o.to, .int .i64 o.off, .int .i64 o.n, .slice do' dn dc, .int .i64 o.snap] 35)).alloc (.cells #[.slice none 0 0, .int .i64 0] 29)).alloc (.cells #[.int .i64 0, .int .i64 0, .int .i64 0, .int .i64 0, .int .i64 0, .slice none 0 0, .slice none 0 0, .slice none 0 0] 40)) := ⟨_, rfl⟩
 have HB0 : Hid (Bx w w0 (.slice (some ⟨b, off, none⟩) t.nodes.length cap) (.int .i64 t.next) o (.slice do' dn dc)) := by rw [hw0]; exact bx_new w _ _ _ o
 have HM : Hid (fileB t o = match findB t o.path with
  | .error e => (t, noReply, e)
  | .ok k => if (nodeAt t k).kind = 2 then (t, noReply, 7) else if o.kind = 7 then (if o.off < 0 ∨ o.n < 0 then (t, noReply, 12) else (t, { noReply with data := ((nodeAt t k).data.drop o.off.toNat).take o.n.toNat }, 0)) else
    if o.kind = 8 then (if o.off < 0 ∨ 2000 < o.off ∨ 2000 - o.off < (o.data.length : Int) then (t, noReply, 12) else if o.data.length = 0 then (t, noReply, 0) else
     (dataB t k (laidB (bytesB (nodeAt t k).data (max (nodeAt t k).data.length (o.off.toNat + o.data.length))) o.off.toNat o.data), { noReply with n := o.data.length }, 0)) else
    if o.n < 0 ∨ 2000 < o.n then (t, noReply, 12) else (dataB t k (bytesB (nodeAt t k).data o.n.toNat), noReply, 0)) := rfl
 have HKi : Hid (o.kind = 8) := hk
 clear HH hk
 go_enter Tryz.func52, Tryz.ntmps52
 go_wp2_with fail
 go_at_call 53
 rw [← hw0]
 refine (HFd.out w0 HB0.out.2.2.2.2).mono ?_
 rintro e w2 ⟨rfl, hb2⟩
 have HB2 : Hid (Bx w w2 (.slice (some ⟨b, off, none⟩) t.nodes.length cap) (.int .i64 t.next) o (.slice do' dn dc)) := HB0.out.below hb2
 clear HB0 hw0 hb2 HFd
 have hfc := fun x => find_code (t := t) (p := o.path) (x := x)
 obtain ⟨fm, hfm⟩ : ∃ z, findB t o.path = z := ⟨_, rfl⟩
 rw [hfm] at HM hfc
 rw [hfm]
 cases fm with
 | error x =>
   have hx0 := hfc x rfl
   have hxn : x ≠ 0 := by omega
   have hxe : (x == 0) = false := beq_eq_false_iff_ne.2 hxn
   have hxe2 : (x != 0) = true := by simp [hxn]
   have HR : Hid (fileB t o = (t, noReply, x)) := HM.out
   unfold resV
   have hB := HB2.out
   obtain ⟨c0, c1⟩ := hB.1.c
   obtain ⟨r0, r1⟩ := hB.2.2.1.c
   have z0 := hB.2.2.1.fz 0
   have z1 := hB.2.2.1.fz 1
   obtain ⟨s0, s1, s2, s3, s4, s5, s6, s7, sz⟩ := hB.re
   obtain ⟨p0, p1, p2, p3, p4, p5⟩ := hB.op
   clear hB HM hfm hfc hx0 hxn
   go_wp2
   refine bodyPost_ret (v := .tuple #[.agg #[.slice (some ⟨b, off, none⟩) t.nodes.length cap, .int .i64 t.next], .agg #[.int .i64 0, .int .i64 0, .int .i64 0, .int .i64 0, .int .i64 0, .slice none 0 0, .slice none 0 0, .slice none 0 0], .int .i64 x]) (by simp [results, Tryz.results52, go_sem, *]) rfl ?_
   rw [HR.out]
   exact ⟨_, _, rfl, HT.out.below (out_below _ _ _ _ _ _ _ _ _ _ HB2.out.2.2.2.2), replyAt_no _, out_below _ _ _ _ _ _ _ _ _ _ HB2.out.2.2.2.2⟩
 | ok k =>
   have hkl : k < t.nodes.length := (find_ok HG.out.1.e hfm).2.2
   have HM3 : Hid (fileB t o = if (nodeAt t k).kind = 2 then (t, noReply, 7) else if o.kind = 7 then (if o.off < 0 ∨ o.n < 0 then (t, noReply, 12) else (t, { noReply with data := ((nodeAt t k).data.drop o.off.toNat).take o.n.toNat }, 0)) else
    if o.kind = 8 then (if o.off < 0 ∨ 2000 < o.off ∨ 2000 - o.off < (o.data.length : Int) then (t, noReply, 12) else if o.data.length = 0 then (t, noReply, 0) else
     (dataB t k (laidB (bytesB (nodeAt t k).data (max (nodeAt t k).data.length (o.off.toNat + o.data.length))) o.off.toNat o.data), { noReply with n := o.data.length }, 0)) else
    if o.n < 0 ∨ 2000 < o.n then (t, noReply, 12) else (dataB t k (bytesB (nodeAt t k).data o.n.toNat), noReply, 0)) := HM.out
   have hfk : k < fs.length := by omega
   have hnk : nodeAt t k = fs[k].n := fs_at HG.out.2.1 hfk
   obtain ⟨kd, hkd⟩ : ∃ z, (nodeAt t k).kind = z := ⟨_, rfl⟩
   obtain ⟨do2, dc2, hdd, _⟩ := (HG.out.2.2.1 _ (List.getElem_mem hfk)).1
   have HSD : Hid (Sees w (.slice do2 (nodeAt t k).data.length dc2) (intsV .u8 (nodeAt t k).data)) := by
    have h9 := (HG.out.2.2.1 _ (List.getElem_mem hfk)).1
    rw [hdd, intsV_len, ← hnk] at h9
    exact h9
   have a5 := At5.below (HG.out.2.2.2.2 k hfk) HG.out.2.2.2.1 HB2.out.2.2.2.2
   obtain ⟨_, y1, y2, _, _⟩ := a5
   rw [← hnk, hkd] at y1
   rw [hdd, intsV_len, ← hnk] at y2
   have bl : b < w2.heap.size := Nat.lt_of_lt_of_le HG.out.2.2.2.1 HB2.out.2.2.2.2.size
   rw [hkd] at HM3
   have j0 : (k : Int) < (t.nodes.length : Int) := by omega
   have j1 : (0 : Int) ≤ (k : Int) := by omega
   obtain ⟨c0, c1⟩ := HB2.out.1.c
   have HLD : Hid (kd ≠ 2 → (nodeAt t k).data.length ≤ 2000) := fun hne => by
    have ok := HG.out.1.e.each _ (nodeAt_mem hkl)
    rcases ok.2.2 with h | h
    · exact absurd (hkd.symm.trans h.1) hne
    · exact h.2.2.2.1
   obtain ⟨L, hL⟩ : ∃ z, (nodeAt t k).data.length = z := ⟨_, rfl⟩
   have HL : Hid ((nodeAt t k).data.length = L) := hL
   rw [hL] at HSD HLD y2
   unfold resV
   have HIk : Hid (k < t.nodes.length) := hkl
   clear HM hfc hfm hdd hL
   by_cases hd2 : kd = 2
   · subst hd2
     have HR : Hid (fileB t o = (t, noReply, 7)) := by show _ = _; rw [HM3.out, if_pos rfl]
     have hB := HB2.out
     obtain ⟨r0, r1⟩ := hB.2.2.1.c
     have z0 := hB.2.2.1.fz 0
     have z1 := hB.2.2.1.fz 1
     obtain ⟨s0, s1, s2, s3, s4, s5, s6, s7, sz⟩ := hB.re
     clear hB HM3
     go_wp2
     refine bodyPost_ret (v := .tuple #[.agg #[.slice (some ⟨b, off, none⟩) t.nodes.length cap, .int .i64 t.next], .agg #[.int .i64 0, .int .i64 0, .int .i64 0, .int .i64 0, .int .i64 0, .slice none 0 0, .slice none 0 0, .slice none 0 0], .int .i64 7]) (by simp [results, Tryz.results52, go_sem, *]) rfl ?_
     rw [HR.out]
     exact ⟨_, _, rfl, HT.out.below (out_below _ _ _ _ _ _ _ _ _ _ HB2.out.2.2.2.2), replyAt_no _, out_below _ _ _ _ _ _ _ _ _ _ HB2.out.2.2.2.2⟩
   · have hde : (kd == 2) = false := beq_eq_false_iff_ne.2 hd2
     have HM4 : Hid (fileB t o = if o.kind = 7 then (if o.off < 0 ∨ o.n < 0 then (t, noReply, 12) else (t, { noReply with data := ((nodeAt t k).data.drop o.off.toNat).take o.n.toNat }, 0)) else
     if o.kind = 8 then (if o.off < 0 ∨ 2000 < o.off ∨ 2000 - o.off < (o.data.length : Int) then (t, noReply, 12) else if o.data.length = 0 then (t, noReply, 0) else
      (dataB t k (laidB (bytesB (nodeAt t k).data (max (nodeAt t k).data.length (o.off.toNat + o.data.length))) o.off.toNat o.data), { noReply with n := o.data.length }, 0)) else
     if o.n < 0 ∨ 2000 < o.n then (t, noReply, 12) else (dataB t k (bytesB (nodeAt t k).data o.n.toNat), noReply, 0)) := by show _ = _; rw [HM3.out, if_neg hd2]
     have L2 : L ≤ 2000 := HLD.out hd2
     clear HM3 HLD
     have HCP : Hid (Calls Tryz.prog 85 #[.agg #[.slice (some ⟨b, off, none⟩) t.nodes.length cap, .int .i64 t.next]] w2 _) := copied_any _ t fs w2 (HTF.out.below HB2.out.2.2.2.2) (by omega) (by omega)
     go_wp2_with fail
     go_at_call 85
     refine HCP.out.mono ?_
     rintro e3 w3 ⟨u, rfl, ⟨sv, hsv, hrow, hfn, hfi⟩, hb3⟩
     obtain ⟨g, cp, hsv2⟩ := own_some hrow (by omega)
     rw [hl] at hsv2
     subst hsv2
     subst hsv
     rw [hl] at hrow
     obtain ⟨w4, hw4⟩ : ∃ z, z = w3.alloc (.cells #[.slice (some ⟨g, 0, none⟩) t.nodes.length cp, .int .i64 t.next] 29) := ⟨_, rfl⟩
     have HX4 : Hid (XI w w4 w2.heap.size (w3.heap.size + 1) w3.heap.size g cp t fs) := by rw [hw4]; exact xi_new hrow HG.out.2.1 HG.out.2.2.1 HB2.out.2.2.2.2 hb3 (Array.getElem?_eq_some_iff.1 HB2.out.2.2.2.1).1
     have HB4 : Hid (Bx w w4 (.slice (some ⟨b, off, none⟩) t.nodes.length cap) (.int .i64 t.next) o (.slice do' dn dc)) := by rw [hw4]; exact (HB2.out.below hb3).below ((Below.refl _ _).alloc (Nat.le_refl _) _)
     obtain ⟨LO, hLO⟩ : ∃ z, z = w2.heap.size := ⟨_, rfl⟩
     rw [← hLO] at HX4
     obtain ⟨xb, hxb⟩ : ∃ z, z = w3.heap.size := ⟨_, rfl⟩
     rw [← hxb] at HX4
     obtain ⟨K, hK⟩ : ∃ z, z = xb + 1 := ⟨_, rfl⟩
     rw [← hK] at HX4
     clear HCP hrow hfn hfi hb3 HB2 hK hLO c0 c1 y1 y2
     go_upto_region 8 with fail
     rw [← hw4, ← hxb]
     clear hw4 hxb
     obtain ⟨p0, p1, p2, p3, p4, p5⟩ := HB4.out.op
     rw [HKi.out] at p0
     have hk := HKi.out
     have HM5 : Hid (fileB t o = if o.off < 0 ∨ 2000 < o.off ∨ 2000 - o.off < (o.data.length : Int) then (t, noReply, 12) else if o.data.length = 0 then (t, noReply, 0) else
      (dataB t k (laidB (bytesB (nodeAt t k).data (max (nodeAt t k).data.length (o.off.toNat + o.data.length))) o.off.toNat o.data), { noReply with n := o.data.length }, 0)) := by show _ = _; rw [HM4.out, if_neg (by omega), if_pos hk]
     clear hk
     by_cases hA : o.off < 0
     · have hAd : decide (o.off < 0) = true := decide_eq_true hA
       skip
       have HR : Hid (fileB t o = (t, noReply, 12)) := by show _ = _; rw [HM5.out, if_pos (.inl hA)]
       have hB := HB4.out
       obtain ⟨c0, c1⟩ := hB.1.c
       obtain ⟨r0, r1⟩ := hB.2.2.1.c
       have z0 := hB.2.2.1.fz 0
       have z1 := hB.2.2.1.fz 1
       obtain ⟨s0, s1, s2, s3, s4, s5, s6, s7, sz⟩ := hB.re
       skip
       clear hB HM4 HM5
       go_wp2
       refine bodyPost_ret (v := .tuple #[.agg #[.slice (some ⟨b, off, none⟩) t.nodes.length cap, .int .i64 t.next], .agg #[.int .i64 0, .int .i64 0, .int .i64 0, .int .i64 0, .int .i64 0, .slice none 0 0, .slice none 0 0, .slice none 0 0], .int .i64 12]) (by simp [results, Tryz.results52, go_sem, *]) rfl ?_
       rw [HR.out]
       exact ⟨_, _, rfl, HT.out.below (out_below _ _ _ _ _ _ _ _ _ _ HB4.out.2.2.2.2), replyAt_no _, out_below _ _ _ _ _ _ _ _ _ _ HB4.out.2.2.2.2⟩
     · have hAd : decide (o.off < 0) = false := decide_eq_false hA
       by_cases hN : 2000 < o.off
       · have hNd : decide (2000 < o.off) = true := decide_eq_true hN
         skip
         have HR : Hid (fileB t o = (t, noReply, 12)) := by show _ = _; rw [HM5.out, if_pos (.inr (.inl hN))]
         have hB := HB4.out
         obtain ⟨c0, c1⟩ := hB.1.c
         obtain ⟨r0, r1⟩ := hB.2.2.1.c
         have z0 := hB.2.2.1.fz 0
         have z1 := hB.2.2.1.fz 1
         obtain ⟨s0, s1, s2, s3, s4, s5, s6, s7, sz⟩ := hB.re
         skip
         clear hB HM4 HM5
         go_wp2
         refine bodyPost_ret (v := .tuple #[.agg #[.slice (some ⟨b, off, none⟩) t.nodes.length cap, .int .i64 t.next], .agg #[.int .i64 0, .int .i64 0, .int .i64 0, .int .i64 0, .int .i64 0, .slice none 0 0, .slice none 0 0, .slice none 0 0], .int .i64 12]) (by simp [results, Tryz.results52, go_sem, *]) rfl ?_
         rw [HR.out]
         exact ⟨_, _, rfl, HT.out.below (out_below _ _ _ _ _ _ _ _ _ _ HB4.out.2.2.2.2), replyAt_no _, out_below _ _ _ _ _ _ _ _ _ _ HB4.out.2.2.2.2⟩
       · have hNd : decide (2000 < o.off) = false := decide_eq_false hN
         obtain ⟨f, hf⟩ : ∃ f : Nat, o.off = (f : Int) := ⟨o.off.toNat, by omega⟩
         have HDN : Hid (o.data.length = dn) := HDL.out.symm
         have HOF : Hid (o.off = (f : Int)) := hf
         have hwr : IntKind.i64.wrap (2000 - (f : Int)) = 2000 - (f : Int) := by rw [IntKind.wrap_i64]; omega
         have f0 : (0 : Int) ≤ (f : Int) := by omega
         have f2 : (f : Int) ≤ 2000 := by omega
         have ft : o.off.toNat = f := by omega
         have HM6 : Hid (fileB t o = if 2000 - (f : Int) < (dn : Int) then (t, noReply, 12) else if dn = 0 then (t, noReply, 0) else (dataB t k (laidB (bytesB (nodeAt t k).data (max L (f + dn))) f o.data), { noReply with n := dn }, 0)) := by
          show _ = _
          rw [HM5.out, ft, HL.out, HDN.out, hf]
          by_cases hq : 2000 - (f : Int) < (dn : Int)
          · rw [if_pos (.inr (.inr hq)), if_pos hq]
          · rw [if_neg (by omega), if_neg hq]
         rw [hf] at p3 hAd hNd
         clear hA hN HM5 ft
         have HM5 := HM6
         clear HM6
         by_cases hQ : 2000 - (f : Int) < (dn : Int)
         · have hQd : decide (2000 - (f : Int) < (dn : Int)) = true := decide_eq_true hQ
           skip
           have HR : Hid (fileB t o = (t, noReply, 12)) := by show _ = _; rw [HM5.out, if_pos hQ]
           have hB := HB4.out
           obtain ⟨c0, c1⟩ := hB.1.c
           obtain ⟨r0, r1⟩ := hB.2.2.1.c
           have z0 := hB.2.2.1.fz 0
           have z1 := hB.2.2.1.fz 1
           obtain ⟨s0, s1, s2, s3, s4, s5, s6, s7, sz⟩ := hB.re
           skip
           clear hB HM4 HM5
           go_wp2
           refine bodyPost_ret (v := .tuple #[.agg #[.slice (some ⟨b, off, none⟩) t.nodes.length cap, .int .i64 t.next], .agg #[.int .i64 0, .int .i64 0, .int .i64 0, .int .i64 0, .int .i64 0, .slice none 0 0, .slice none 0 0, .slice none 0 0], .int .i64 12]) (by simp [results, Tryz.results52, go_sem, *]) rfl ?_
           rw [HR.out]
           exact ⟨_, _, rfl, HT.out.below (out_below _ _ _ _ _ _ _ _ _ _ HB4.out.2.2.2.2), replyAt_no _, out_below _ _ _ _ _ _ _ _ _ _ HB4.out.2.2.2.2⟩
         · have hQd : decide (2000 - (f : Int) < (dn : Int)) = false := decide_eq_false hQ
           by_cases hD : dn = 0
           · have hDb : ((dn : Int) == 0) = true := beq_iff_eq.2 (by omega)
             have hDd : (dn : Int) = 0 := by omega
             have HR : Hid (fileB t o = (t, noReply, 0)) := by show _ = _; rw [HM5.out, if_neg hQ, if_pos hD]
             have hB := HB4.out
             obtain ⟨c0, c1⟩ := hB.1.c
             obtain ⟨r0, r1⟩ := hB.2.2.1.c
             have z0 := hB.2.2.1.fz 0
             have z1 := hB.2.2.1.fz 1
             obtain ⟨s0, s1, s2, s3, s4, s5, s6, s7, sz⟩ := hB.re
             skip
             clear hB HM4 HM5
             go_wp2
             refine bodyPost_ret (v := .tuple #[.agg #[.slice (some ⟨b, off, none⟩) t.nodes.length cap, .int .i64 t.next], .agg #[.int .i64 0, .int .i64 0, .int .i64 0, .int .i64 0, .int .i64 0, .slice none 0 0, .slice none 0 0, .slice none 0 0], .int .i64 0]) (by simp [results, Tryz.results52, go_sem, *]) rfl ?_
             rw [HR.out]
             exact ⟨_, _, rfl, HT.out.below (out_below _ _ _ _ _ _ _ _ _ _ HB4.out.2.2.2.2), replyAt_no _, out_below _ _ _ _ _ _ _ _ _ _ HB4.out.2.2.2.2⟩
           · have hDb : ((dn : Int) == 0) = false := beq_eq_false_iff_ne.2 (by omega)
             have d2 : (dn : Int) ≤ 2000 := by omega
             have fd : f + dn ≤ 2000 := by omega
             obtain ⟨N, hN⟩ : ∃ N, max L (f + dn) = N := ⟨_, rfl⟩
             have HR : Hid (fileB t o = (dataB t k (laidB (bytesB (nodeAt t k).data N) f o.data), { noReply with n := dn }, 0)) := by show _ = _; rw [HM5.out, if_neg hQ, if_neg hD, hN]
             have hmx : max (L : Int) ((f : Int) + (dn : Int)) = (N : Int) := by omega
             have N2 : N ≤ 2000 := by omega
             have fN : f + dn ≤ N := by omega
             have fNi : (f : Int) ≤ (N : Int) := by omega
             have hNf : ¬ N - f = 0 := by omega
             have hLi : (L : Int) ≤ 2000 := by omega
             have hNe : ¬ N = f := by omega
             have HD0 : Hid (0 < dn) := by show 0 < dn; omega
             have HBy : Hid (Calls Tryz.prog 90 #[.slice do2 L dc2, .int .i64 (N : Int)] w4 _) := tbytes_any (.slice do2 L dc2) (nodeAt t k).data N w4 (HSD.out.below HX4.out.bel) N2
             clear HM4 HM5 hN hf hD hQ
             go_wp2_with fail
             go_at_call 90
             refine HBy.out.mono ?_
             rintro e5 w5 ⟨rfl, hg5, hb5⟩
             have H5 : Hid (w5.heap[w4.heap.size]? = some (.cells (intsV .u8 (bytesB (nodeAt t k).data N)).toArray 5 (0, 0)) ∧ Below w4.heap.size w4 w5) := ⟨hg5, hb5⟩
             clear HBy hg5 hb5 p0 p1 p2 p3 p4 p5
             have p3 : w5.cell? ⟨w.heap.size + 1, 3, none⟩ = some (.int .i64 (f : Int)) := by have h9 := (HB4.out.below H5.out.2).op.2.2.2.1; rw [HOF.out] at h9; exact h9
             have p5 := (HB4.out.below H5.out.2).op.2.2.2.2.2
             obtain ⟨vb, hvb⟩ : ∃ z, z = w4.heap.size := ⟨_, rfl⟩
             have HV : Hid (K ≤ vb ∧ w4.heap.size ≤ vb) := by rw [hvb]; exact ⟨HX4.out.KW, Nat.le_refl _⟩
             have H5b : Hid (Below w4.heap.size w4 w5) := H5.out.2
             have H5a : Hid (w5.heap[vb]? = some (.cells (intsV .u8 (bytesB (nodeAt t k).data N)).toArray 5 (0, 0))) := by rw [hvb]; exact H5.out.1
             rw [← hvb]
             clear hvb H5
             have HSm : Hid (∀ W, Below w.heap.size w W → Sees W (.slice do' dn dc) (intsV .u8 o.data)) := fun W hW => HSO.out.below hW
             obtain ⟨mb, mf, hmo, hmb, hmh⟩ : ∃ mb mf, do' = some ⟨mb, mf, none⟩ ∧ mb < w.heap.size ∧ ∀ i x, (intsV .u8 o.data)[i]? = some x → w.cell? ⟨mb, mf + i, none⟩ = some x := by
              obtain ⟨a9, c9, e9, _, _, _, q9⟩ := HSO.out
              injection e9 with e91 e92 e93
              obtain ⟨mb, mf, h1, h2, h3⟩ := q9 (by rw [intsV_len, HDN.out]; exact HD0.out)
              exact ⟨mb, mf, e91.trans h1, h2, h3⟩
             have HMO : Hid (do' = some ⟨mb, mf, none⟩) := hmo
             have HP : Hid (∀ W, Below w4.heap.size w4 W → 0 < (intsV .u8 o.data).length → ∃ ad, do' = some ad ∧ ∀ j v, (intsV .u8 o.data)[j]? = some v → W.cell? (ad.add j) = some v) := fun W hW _ => ⟨_, HMO.out, fun j v hj => by
              rw [Addr.add_lit, (bel2v HB4.out.2.2.2.2 hW).cell (by exact hmb)]
              exact hmh j v hj⟩
             have HC : Hid ((intsV .u8 o.data).length = Nat.min dn (N - f) ∧ f + (intsV .u8 o.data).length ≤ (intsV .u8 (bytesB (nodeAt t k).data N)).length ∧ ∀ v ∈ intsV .u8 o.data, v.oneCell' = true) := by
              refine ⟨?_, by rw [intsV_len, intsV_len, bytesB_len, HDN.out]; omega, ints_one .u8 o.data⟩
              rw [intsV_len, HDN.out]
              exact (Nat.min_eq_left (by omega)).symm
             have HSP : Hid (splice (intsV .u8 (bytesB (nodeAt t k).data N)) f (intsV .u8 o.data) = intsV .u8 (laidB (bytesB (nodeAt t k).data N) f o.data)) := splice_laid _ _ _ (by rw [bytesB_len, HDN.out]; omega)
             have HLN : Hid ((laidB (bytesB (nodeAt t k).data N) f o.data).length = N) := by
              show _ = _
              rw [laidB_len _ _ _ (by rw [bytesB_len, HDN.out]; omega), bytesB_len]
             obtain ⟨cs, hcs⟩ : ∃ cs, intsV .u8 o.data = cs := ⟨_, rfl⟩
             obtain ⟨cur, hcur⟩ : ∃ cur, intsV .u8 (bytesB (nodeAt t k).data N) = cur := ⟨_, rfl⟩
             rw [hcs] at HP HC HSP
             rw [hcur] at H5a HC HSP
             clear hcs hcur hmb hmh HSm hmo
             have hb5l : w.heap.size + 1 < w5.heap.size := cell_lt p3
             go_upto_region 21 with fail
             go_cut [] (fun wx => Hid (wx.heap[vb]? = some (.cells (splice cur f cs).toArray 5 (0, 0)) ∧ Below w4.heap.size w4 wx))
             case first =>
              go_region_law (refine step_copy_splice rfl (.tmp 120) (.tmp 122) 33 33 rfl 5 Tryz.underlying33 sizeU8 (some ⟨vb, f, none⟩) do' (N - f) (N - f) dn dc (by simp [Act.eval, Act.put]) (by simp [Act.eval, Act.put]) vb f cur 5 H5a.out cs HC.out.1 (fun h0 => ⟨rfl, (HP.out _ H5b.out.drew h0)⟩) HC.out.2.1 HC.out.2.2 w4.heap.size w4 H5b.out.drew HV.out.2 ?_; intro w6 hg6 hb6)
              all_goals (
               have H6 : Hid (w6.heap[vb]? = some (.cells (splice cur f cs).toArray 5 (0, 0)) ∧ Below w4.heap.size w4 w6) := ⟨hg6.out, hb6⟩
               clear hg6 hb6
               go_wp2_with fail
               go_meet
               case rel => exact H6)
             case rest =>
              obtain ⟨w6, hw6⟩ : ∃ z, z = wc := ⟨_, rfl⟩
              subst hw6
              have HS6 : Hid (Sees w6 (.slice (some ⟨vb, 0, none⟩) N N) (intsV .u8 (laidB (bytesB (nodeAt t k).data N) f o.data))) := by
               have hg3 := hcut.out.1
               rw [HSP.out] at hg3
               have hl3 : vb < w6.heap.size := (Array.getElem?_eq_some_iff.1 hg3).1
               have hLN := HLN.out
               refine ⟨some ⟨vb, 0, none⟩, N, by rw [intsV_len, hLN], by rw [intsV_len, hLN]; exact Nat.le_refl _, by unfold maxLen; omega, by simp, fun _ => ⟨vb, 0, rfl, hl3, fun i x hx => ?_⟩⟩
               simp only [World.cell?, hg3, Nat.zero_add]
               simpa using hx
              have HX6 : Hid (XI w w6 LO K xb g cp t fs) := HX4.out.below hcut.out.2
              have HB6 : Hid (Bx w w6 (.slice (some ⟨b, off, none⟩) t.nodes.length cap) (.int .i64 t.next) o (.slice do' dn dc)) := HB4.out.below hcut.out.2
              clear hcut H5a H5b HP HC HSP HLN HX4 HB4 p3 p5 hb5l
              obtain ⟨x0, x1, x2, x3, x4⟩ := HX6.out.cells
              obtain ⟨d0, k3⟩ : ∃ d0, w6.cell? ⟨g, k * 5 + 2, none⟩ = some d0 := by
               obtain ⟨f9, _, _, h9⟩ := HX6.out.node HIk.out
               exact ⟨_, h9.2.2.1⟩
              have hkf : k < fs.length := by rw [HX6.out.len]; exact HIk.out
              have hfr : Fresh K (.slice (some ⟨vb, 0, none⟩) N N) := fun q hq => by
               have e : vb = q := by simpa [Value.ownBlock] using hq
               have := HV.out.1
               omega
              obtain ⟨w7, hw7⟩ : ∃ z, z = w6.setCell ⟨g, k * 5 + 2, none⟩ (.slice (some ⟨vb, 0, none⟩) N N) := ⟨_, rfl⟩
              have hXc := HX6.out.data hkf HS6.out hfr
              rw [← hw7] at hXc
              obtain ⟨fs2, hfs2⟩ : ∃ z, z = fs.set k ⟨{ fs[k].n with data := laidB (bytesB (nodeAt t k).data N) f o.data }, .slice (some ⟨vb, 0, none⟩) N N, fs[k].m, fs[k].i⟩ := ⟨_, rfl⟩
              rw [← hfs2] at hXc
              have HXc : Hid (XI w w7 LO K xb g cp (dataB t k (laidB (bytesB (nodeAt t k).data N) f o.data)) fs2) := hXc
              have HBc : Hid (Bx w w7 (.slice (some ⟨b, off, none⟩) t.nodes.length cap) (.int .i64 t.next) o (.slice do' dn dc)) := by
               rw [hw7]
               have hB := HB6.out
               have hgl := HX6.out.glo
               have hl4 := HX6.out.lo4
               exact ⟨hB.1.setOther (by omega) _, (Below.heap_setCell _ _ _ _ (by show _ ≠ g; omega)).trans hB.2.1, hB.2.2.1.setOther (by omega) _, (Below.heap_setCell _ _ _ _ (by show _ ≠ g; omega)).trans hB.2.2.2.1, hB.2.2.2.2.setCell (by show _ ≤ g; omega) _⟩
              have HXL2 : Hid (w.heap.size + 4 ≤ xb) := by have := HX6.out.lo4; have := HX6.out.xlo; show _ ≤ _; omega
              clear hXc hfs2 hfr hkf HX6 HB6 HS6
              go_upto_region 23 with fail
              rw [← hw7]
              clear hw7 x0 x1 x2 x3 x4 k3
              obtain ⟨X, hX⟩ : ∃ X, dataB t k (laidB (bytesB (nodeAt t k).data N) f o.data) = X := ⟨_, rfl⟩
              have HXL : Hid (X.nodes.length ≤ 60) := by rw [← hX]; unfold dataB; rw [set_len]; exact HG.out.1.e.size
              rw [hX] at HXc HR
              clear hX
              obtain ⟨x0, x1, x2, x3, x4⟩ := HXc.out.cells
              obtain ⟨XN, hXN⟩ : ∃ z, X.nodes.length = z := ⟨_, rfl⟩
              obtain ⟨XX, hXX⟩ : ∃ z, X.next = z := ⟨_, rfl⟩
              rw [hXN] at x0
              rw [hXX] at x1
              have HEn : Hid (TreeAt (outW w7 w.heap.size (.slice (some ⟨g, 0, none⟩) XN cp) (.int .i64 XX) (.int .i64 0) (.int .i64 0) (.int .i64 0) (.int .i64 0) (.int .i64 (dn : Int)) (.slice none 0 0) (.slice none 0 0) (.slice none 0 0)) (.agg #[.slice (some ⟨g, 0, none⟩) XN cp, .int .i64 XX]) X ∧ Below w.heap.size w (outW w7 w.heap.size (.slice (some ⟨g, 0, none⟩) XN cp) (.int .i64 XX) (.int .i64 0) (.int .i64 0) (.int .i64 0) (.int .i64 0) (.int .i64 (dn : Int)) (.slice none 0 0) (.slice none 0 0) (.slice none 0 0))) := by
               have h9 := HXc.out.out_end HXL.out (.slice (some ⟨g, 0, none⟩) XN cp) (.int .i64 XX) (.int .i64 0) (.int .i64 0) (.int .i64 0) (.int .i64 0) (.int .i64 (dn : Int)) (.slice none 0 0) (.slice none 0 0) (.slice none 0 0)
               rw [hXX, hXN] at h9
               exact h9
              clear HXc hXN hXX
              obtain ⟨r0, r1⟩ := HBc.out.2.2.1.c
              have z0 := HBc.out.2.2.1.fz 0
              have z1 := HBc.out.2.2.1.fz 1
              obtain ⟨s0, s1, s2, s3, s4, s5, s6, s7, sz⟩ := HBc.out.re
              have p5 := HBc.out.op.2.2.2.2.2
              have hx2 : w.heap.size + 2 ≠ xb := by have := HXL2.out; omega
              have hx3 : w.heap.size + 3 ≠ xb := by have := HXL2.out; omega
              have xd0 : w7.drew.cell? ⟨xb, 0, none⟩ = some (.slice (some ⟨g, 0, none⟩) XN cp) := x0
              have xd1 : w7.drew.cell? ⟨xb, 1, none⟩ = some (.int .i64 XX) := x1
              have pd5 : w7.drew.cell? ⟨w.heap.size + 1, 5, none⟩ = some (.slice do' dn dc) := p5
              have hy2 : w.heap.size + 1 + 1 ≠ xb := hx2
              have hy3 : w.heap.size + 1 + 1 + 1 ≠ xb := hx3
              have ho2 : w.heap.size + 1 + 1 ≠ w.heap.size + 1 := by omega
              have ho3 : w.heap.size + 1 + 1 + 1 ≠ w.heap.size + 1 := by omega
              clear hx2 hx3
              go_region_held3 (fun W => W.cell? ⟨xb, 0, none⟩ = some (.slice (some ⟨g, 0, none⟩) XN cp) ∧ W.cell? ⟨xb, 1, none⟩ = some (.int .i64 XX) ∧ W.cell? ⟨w.heap.size + 1, 5, none⟩ = some (.slice do' dn dc)) (first | with_reducible exact ⟨xd0, xd1, pd5⟩ | with_reducible exact ⟨keepDW (keep2W x0 hy2), keepDW (keep2W x1 hy2), keepDW (keep2W p5 ho2)⟩ | with_reducible exact ⟨keepDW (keep8W (keep2W x0 hy2) hy3), keepDW (keep8W (keep2W x1 hy2) hy3), keepDW (keep8W (keep2W p5 ho2) ho3)⟩ | with_reducible exact ⟨keep2W xd0 hy2, keep2W xd1 hy2, keep2W pd5 ho2⟩ | with_reducible exact ⟨keep8W (keep2W xd0 hy2) hy3, keep8W (keep2W xd1 hy2) hy3, keep8W (keep2W pd5 ho2) ho3⟩) (fail)
              all_goals (
               go_wp2
               refine bodyPost_ret (v := .tuple #[.agg #[.slice (some ⟨g, 0, none⟩) XN cp, .int .i64 XX], .agg #[.int .i64 0, .int .i64 0, .int .i64 0, .int .i64 0, .int .i64 (dn : Int), .slice none 0 0, .slice none 0 0, .slice none 0 0], .int .i64 0]) (by simp [results, Tryz.results52, go_sem, *]) rfl ?_
               rw [HR.out]
               have HEd : Hid _ := out_drewW HEn.out
               unfold outW at HEd
               exact ⟨_, _, rfl, HEd.out.1, ⟨_, _, _, rfl, sees_nil0 _ _ rfl, sees_nil0 _ _ rfl, sees_nil0 _ _ rfl⟩, HEd.out.2⟩)
end Go.Proofs.YtbebgobboccjcaaGreatDoor
