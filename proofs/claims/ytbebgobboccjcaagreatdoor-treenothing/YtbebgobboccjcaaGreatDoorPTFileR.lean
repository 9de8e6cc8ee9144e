/- dolmenref5.file: what one call answers: reading. -/
import Derived.Test.YtbebgobboccjcaaGreatDoorH5
import Derived.Test.YtbebgobboccjcaaGreatDoorH2
import Derived.Test.YtbebgobboccjcaaGreatDoorH4
import Derived.Test.YtbebgobboccjcaaGreatDoorH1
import Derived.Deep.DeepCutAuto
import Derived.Deep.CutRange
import Derived.Deep.RegionHeld3
import Derived.Deep.RegionLaw
import Derived.Laws.CopyOwn
namespace Go.Proofs.YtbebgobboccjcaaGreatDoor
open Go.RowKit Kit
set_option linter.unusedVariables false

theorem cell_oldR {w w' : World} {a : Addr} {v : Value} (hb : Below w.heap.size w w') (h : w.cell? a = some v) : w'.cell? a = some v := (hb.cell (cell_lt h)).trans h
theorem keep1R {w : World} {g c j a0 : Nat} {v v0 : Value} (h : w.cell? ⟨c, j, none⟩ = some v) (hne : g ≠ c) : (w.setCell ⟨g, a0, none⟩ v0).cell? ⟨c, j, none⟩ = some v := by
 rw [World.cell?_setCell_far _ _ _ _ hne]; exact h
theorem keep2R {w : World} {g c j : Nat} {v v0 v1 : Value} (h : w.cell? ⟨c, j, none⟩ = some v) (hne : g ≠ c) : ((w.setCell ⟨g, 0, none⟩ v0).setCell ⟨g, 1, none⟩ v1).cell? ⟨c, j, none⟩ = some v := keep1R (keep1R h hne) hne
theorem keep8R {w : World} {g c j : Nat} {v v0 v1 v2 v3 v4 v5 v6 v7 : Value} (h : w.cell? ⟨c, j, none⟩ = some v) (hne : g ≠ c) : ((((((((w.setCell ⟨g, 0, none⟩ v0).setCell ⟨g, 1, none⟩ v1).setCell ⟨g, 2, none⟩ v2).setCell ⟨g, 3, none⟩ v3).setCell ⟨g, 4, none⟩ v4).setCell ⟨g, 5, none⟩ v5).setCell ⟨g, 6, none⟩ v6).setCell ⟨g, 7, none⟩ v7).cell? ⟨c, j, none⟩ = some v := keep1R (keep1R (keep1R (keep1R (keep1R (keep1R (keep1R (keep1R h hne) hne) hne) hne) hne) hne) hne) hne
theorem sees_emptyR (w : World) (a : Addr) : Sees w (.slice (some a) 0 0) [] := by
 refine ⟨some a, 0, rfl, Nat.le_refl _, Nat.zero_le _, (fun h => by cases h), fun h => ?_⟩
 exact absurd h (Nat.lt_irrefl _)
set_option maxRecDepth 4000 in
set_option maxHeartbeats 40000000 in
theorem file_read5 (v ov : Value) (t : TreeB) (o : OpB) (w : World) (hT : TreeAt w v t) (hg : Good t) (ho : OpAt w ov o) (hk : o.kind = 7) :
 Calls Tryz.prog 52 #[v, ov] w fun e w' => ∃ tv rv, e = .returned (.tuple #[tv, rv, .int .i64 (fileB t o).2.2]) ∧ TreeAt w' tv (fileB t o).1 ∧ ReplyAt w' rv (fileB t o).2.1 ∧ Below w.heap.size w w' := by
 have HT : Hid (TreeAt w v t) := hT
 obtain ⟨fs, hF⟩ : ∃ fs, TreeG w v t fs := by obtain ⟨sv, fs, h⟩ := hT; exact ⟨fs, sv, h⟩
 have HTF : Hid (TreeG w v t fs) := hF
 obtain ⟨ao, cap, rfl, q1, q2, q3, q4, q5⟩ := hF.opened
 obtain ⟨dv, rfl, ho1, ho2, ho3, ho4⟩ := ho
 obtain ⟨b, off, rfl, hb, hc⟩ := q5 hg.e.root0.1
 have hl := fs_len q3
 have lm : (t.nodes.length : Int) ≤ 60 := by have := hg.e.size; omega
 obtain ⟨do', dc, hdv, hdx⟩ := ho1
 obtain ⟨dn, hdn⟩ : ∃ n, (intsV .u8 o.data).length = n := ⟨_, rfl⟩
 rw [hdn] at hdv
 subst hdv
 have HG : Hid (Good t ∧ fs.map FN.n = t.nodes ∧ (∀ f ∈ fs, f.is w) ∧ b < w.heap.size ∧ ∀ k (hk : k < fs.length), At5 w b (off + k * 5) fs[k]) := ⟨hg, q3, q4, hb, hc⟩
 have HH : Hid (∀ W, Below w.heap.size w W → Calls Tryz.prog 83 #[.agg #[.slice (some ⟨b, off, none⟩) t.nodes.length cap, .int .i64 t.next], .string o.path] W fun e w' => e = .returned (resH (homeB t o.path)) ∧ Below W.heap.size W w') := fun W hb => home_any _ t o.path W (HT.out.below hb) hg ho2
 have HFd : Hid (∀ W, Below w.heap.size w W → Calls Tryz.prog 53 #[.agg #[.slice (some ⟨b, off, none⟩) t.nodes.length cap, .int .i64 t.next], .string o.path] W fun e w' => e = .returned (resV (findB t o.path)) ∧ Below W.heap.size W w') := fun W hb => find_any _ t o.path W (HT.out.below hb) hg ho2
 have HDL : Hid (dn = o.data.length) := by show _ = _; rw [← hdn, intsV_len]
 have HSO : Hid (Sees w (.slice do' dn dc) (intsV .u8 o.data)) := ⟨do', dc, by rw [hdn], hdx⟩
 clear q1 q2 q3 q4 q5 hT hF hb hc hg ho2 ho3 ho4 hdn
 unfold opV
 obtain ⟨w0, hw0⟩ : ∃ w0, w0 = ((((w.alloc (.cells #[.slice (some ⟨b, off, none⟩) t.nodes.length cap, .int .i64 t.next] 29)).alloc (.cells #[.int .i64 o.kind, .string o.path, .string o.to, .int .i64 o.off, .int .i64 o.n, .slice do' dn dc, .int .i64 o.snap] 35)).alloc (.cells #[.slice none 0 0, .int .i64 0] 29)).alloc (.cells #[.int .i64 0, .int .i64 0, .int .i64 0, .int .i64 0, .int .i64 0, .slice none 0 0, .slice none 0 0, .slice none 0 0] 40)) := ⟨_, rfl⟩
 have HB0 : Hid (Bx w w0 (.slice (some ⟨b, off, none⟩) t.nodes.length cap) (.int .i64 t.next) o (.slice do' dn dc)) := by rw [hw0]; exact bx_new w _ _ _ o
 have HM : Hid (fileB t o = match findB t o.path with
  | .error e => (t, noReply, e)
  | .ok k => if (nodeAt t k).kind = 2 then (t, noReply, 7) else if o.kind = 7 then (if o.off < 0 ∨ o.n < 0 then (t, noReply, 12) else (t, { noReply with data := ((nodeAt t k).data.drop o.off.toNat).take o.n.toNat }, 0)) else
    if o.kind = 8 then (if o.off < 0 ∨ 2000 < o.off ∨ 2000 - o.off < (o.data.length : Int) then (t, noReply, 12) else if o.data.length = 0 then (t, noReply, 0) else
     (dataB t k (laidB (bytesB (nodeAt t k).data (max (nodeAt t k).data.length (o.off.toNat + o.data.length))) o.off.toNat o.data), { noReply with n := o.data.length }, 0)) else
    if o.n < 0 ∨ 2000 < o.n then (t, noReply, 12) else (dataB t k (bytesB (nodeAt t k).data o.n.toNat), noReply, 0)) := rfl
 have HKi : Hid (o.kind = 7) := hk
 clear HH hk
 go_enter Tryz.func52, Tryz.ntmps52
 go_wp2_with fail
 go_at_call 53
 rw [← hw0]
 refine (HFd.out w0 HB0.out.2.2.2.2).mono ?_
 rintro e w2 ⟨rfl, hb2⟩
 have HB2 : Hid (Bx w w2 (.slice (some ⟨b, off, none⟩) t.nodes.length cap) (.int .i64 t.next) o (.slice do' dn dc)) := HB0.out.below hb2
 clear HB0 hw0 hb2 HFd
 have hfc := fun x => find_code (t := t) (p := o.path) (x := x)
 obtain ⟨fm, hfm⟩ : ∃ z, findB t o.path = z := ⟨_, rfl⟩
 rw [hfm] at HM hfc
 rw [hfm]
 cases fm with
 | error x =>
   have hx0 := hfc x rfl
   have hxn : x ≠ 0 := by omega
   have hxe : (x == 0) = false := beq_eq_false_iff_ne.2 hxn
   have hxe2 : (x != 0) = true := by simp [hxn]
   have HR : Hid (fileB t o = (t, noReply, x)) := HM.out
   unfold resV
   have hB := HB2.out
   obtain ⟨c0, c1⟩ := hB.1.c
   obtain ⟨r0, r1⟩ := hB.2.2.1.c
   have z0 := hB.2.2.1.fz 0
   have z1 := hB.2.2.1.fz 1
   obtain ⟨s0, s1, s2, s3, s4, s5, s6, s7, sz⟩ := hB.re
   obtain ⟨p0, p1, p2, p3, p4, p5⟩ := hB.op
   clear hB HM hfm hfc hx0 hxn
   go_wp2
   refine bodyPost_ret (v := .tuple #[.agg #[.slice (some ⟨b, off, none⟩) t.nodes.length cap, .int .i64 t.next], .agg #[.int .i64 0, .int .i64 0, .int .i64 0, .int .i64 0, .int .i64 0, .slice none 0 0, .slice none 0 0, .slice none 0 0], .int .i64 x]) (by simp [results, Tryz.results52, go_sem, *]) rfl ?_
   rw [HR.out]
   exact ⟨_, _, rfl, HT.out.below (out_below _ _ _ _ _ _ _ _ _ _ HB2.out.2.2.2.2), replyAt_no _, out_below _ _ _ _ _ _ _ _ _ _ HB2.out.2.2.2.2⟩
 | ok k =>
   have hkl : k < t.nodes.length := (find_ok HG.out.1.e hfm).2.2
   have HM3 : Hid (fileB t o = if (nodeAt t k).kind = 2 then (t, noReply, 7) else if o.kind = 7 then (if o.off < 0 ∨ o.n < 0 then (t, noReply, 12) else (t, { noReply with data := ((nodeAt t k).data.drop o.off.toNat).take o.n.toNat }, 0)) else
    if o.kind = 8 then (if o.off < 0 ∨ 2000 < o.off ∨ 2000 - o.off < (o.data.length : Int) then (t, noReply, 12) else if o.data.length = 0 then (t, noReply, 0) else
     (dataB t k (laidB (bytesB (nodeAt t k).data (max (nodeAt t k).data.length (o.off.toNat + o.data.length))) o.off.toNat o.data), { noReply with n := o.data.length }, 0)) else
    if o.n < 0 ∨ 2000 < o.n then (t, noReply, 12) else (dataB t k (bytesB (nodeAt t k).data o.n.toNat), noReply, 0)) := HM.out
   have hfk : k < fs.length := by omega
   have hnk : nodeAt t k = fs[k].n := fs_at HG.out.2.1 hfk
   obtain ⟨kd, hkd⟩ : ∃ z, (nodeAt t k).kind = z := ⟨_, rfl⟩
   obtain ⟨do2, dc2, hdd, _⟩ := (HG.out.2.2.1 _ (List.getElem_mem hfk)).1
   have HSD : Hid (Sees w (.slice do2 (nodeAt t k).data.length dc2) (intsV .u8 (nodeAt t k).data)) := by
    have h9 := (HG.out.2.2.1 _ (List.getElem_mem hfk)).1
    rw [hdd, intsV_len, ← hnk] at h9
    exact h9
   have a5 := At5.below (HG.out.2.2.2.2 k hfk) HG.out.2.2.2.1 HB2.out.2.2.2.2
   obtain ⟨_, y1, y2, _, _⟩ := a5
   rw [← hnk, hkd] at y1
   rw [hdd, intsV_len, ← hnk] at y2
   have bl : b < w2.heap.size := Nat.lt_of_lt_of_le HG.out.2.2.2.1 HB2.out.2.2.2.2.size
   rw [hkd] at HM3
   have j0 : (k : Int) < (t.nodes.length : Int) := by omega
   have j1 : (0 : Int) ≤ (k : Int) := by omega
   obtain ⟨c0, c1⟩ := HB2.out.1.c
   have HLD : Hid (kd ≠ 2 → (nodeAt t k).data.length ≤ 2000) := fun hne => by
    have ok := HG.out.1.e.each _ (nodeAt_mem hkl)
    rcases ok.2.2 with h | h
    · exact absurd (hkd.symm.trans h.1) hne
    · exact h.2.2.2.1
   obtain ⟨L, hL⟩ : ∃ z, (nodeAt t k).data.length = z := ⟨_, rfl⟩
   have HL : Hid ((nodeAt t k).data.length = L) := hL
   rw [hL] at HSD HLD y2
   unfold resV
   have HIk : Hid (k < t.nodes.length) := hkl
   clear HM hfc hfm hdd hL
   by_cases hd2 : kd = 2
   · subst hd2
     have HR : Hid (fileB t o = (t, noReply, 7)) := by show _ = _; rw [HM3.out, if_pos rfl]
     have hB := HB2.out
     obtain ⟨r0, r1⟩ := hB.2.2.1.c
     have z0 := hB.2.2.1.fz 0
     have z1 := hB.2.2.1.fz 1
     obtain ⟨s0, s1, s2, s3, s4, s5, s6, s7, sz⟩ := hB.re
     clear hB HM3
     go_wp2
     refine bodyPost_ret (v := .tuple #[.agg #[.slice (some ⟨b, off, none⟩) t.nodes.length cap, .int .i64 t.next], .agg #[.int .i64 0, .int .i64 0, .int .i64 0, .int .i64 0, .int .i64 0, .slice none 0 0, .slice none 0 0, .slice none 0 0], .int .i64 7]) (by simp [results, Tryz.results52, go_sem, *]) rfl ?_
     rw [HR.out]
     exact ⟨_, _, rfl, HT.out.below (out_below _ _ _ _ _ _ _ _ _ _ HB2.out.2.2.2.2), replyAt_no _, out_below _ _ _ _ _ _ _ _ _ _ HB2.out.2.2.2.2⟩
   · have hde : (kd == 2) = false := beq_eq_false_iff_ne.2 hd2
     have HM4 : Hid (fileB t o = if o.kind = 7 then (if o.off < 0 ∨ o.n < 0 then (t, noReply, 12) else (t, { noReply with data := ((nodeAt t k).data.drop o.off.toNat).take o.n.toNat }, 0)) else
     if o.kind = 8 then (if o.off < 0 ∨ 2000 < o.off ∨ 2000 - o.off < (o.data.length : Int) then (t, noReply, 12) else if o.data.length = 0 then (t, noReply, 0) else
      (dataB t k (laidB (bytesB (nodeAt t k).data (max (nodeAt t k).data.length (o.off.toNat + o.data.length))) o.off.toNat o.data), { noReply with n := o.data.length }, 0)) else
     if o.n < 0 ∨ 2000 < o.n then (t, noReply, 12) else (dataB t k (bytesB (nodeAt t k).data o.n.toNat), noReply, 0)) := by show _ = _; rw [HM3.out, if_neg hd2]
     have L2 : L ≤ 2000 := HLD.out hd2
     clear HM3 HLD
     have HCP : Hid (Calls Tryz.prog 85 #[.agg #[.slice (some ⟨b, off, none⟩) t.nodes.length cap, .int .i64 t.next]] w2 _) := copied_any _ t fs w2 (HTF.out.below HB2.out.2.2.2.2) (by omega) (by omega)
     go_wp2_with fail
     go_at_call 85
     refine HCP.out.mono ?_
     rintro e3 w3 ⟨u, rfl, ⟨sv, hsv, hrow, hfn, hfi⟩, hb3⟩
     obtain ⟨g, cp, hsv2⟩ := own_some hrow (by omega)
     rw [hl] at hsv2
     subst hsv2
     subst hsv
     rw [hl] at hrow
     obtain ⟨w4, hw4⟩ : ∃ z, z = w3.alloc (.cells #[.slice (some ⟨g, 0, none⟩) t.nodes.length cp, .int .i64 t.next] 29) := ⟨_, rfl⟩
     have HX4 : Hid (XI w w4 w2.heap.size (w3.heap.size + 1) w3.heap.size g cp t fs) := by rw [hw4]; exact xi_new hrow HG.out.2.1 HG.out.2.2.1 HB2.out.2.2.2.2 hb3 (Array.getElem?_eq_some_iff.1 HB2.out.2.2.2.1).1
     have HB4 : Hid (Bx w w4 (.slice (some ⟨b, off, none⟩) t.nodes.length cap) (.int .i64 t.next) o (.slice do' dn dc)) := by rw [hw4]; exact (HB2.out.below hb3).below ((Below.refl _ _).alloc (Nat.le_refl _) _)
     obtain ⟨LO, hLO⟩ : ∃ z, z = w2.heap.size := ⟨_, rfl⟩
     rw [← hLO] at HX4
     obtain ⟨xb, hxb⟩ : ∃ z, z = w3.heap.size := ⟨_, rfl⟩
     rw [← hxb] at HX4
     obtain ⟨K, hK⟩ : ∃ z, z = xb + 1 := ⟨_, rfl⟩
     rw [← hK] at HX4
     clear HCP hrow hfn hfi hb3 HB2 hK hLO c0 c1 y1 y2
     go_upto_region 8 with fail
     rw [← hw4, ← hxb]
     clear hw4 hxb
     obtain ⟨p0, p1, p2, p3, p4, p5⟩ := HB4.out.op
     rw [HKi.out] at p0
     have hk := HKi.out
     have HM5 : Hid (fileB t o = if o.off < 0 ∨ o.n < 0 then (t, noReply, 12) else (t, { noReply with data := ((nodeAt t k).data.drop o.off.toNat).take o.n.toNat }, 0)) := by show _ = _; rw [HM4.out, if_pos hk]
     clear hk
     by_cases hA : o.off < 0
     · have hAd : decide (o.off < 0) = true := decide_eq_true hA
       skip
       have HR : Hid (fileB t o = (t, noReply, 12)) := by show _ = _; rw [HM5.out, if_pos (.inl hA)]
       have hB := HB4.out
       obtain ⟨c0, c1⟩ := hB.1.c
       obtain ⟨r0, r1⟩ := hB.2.2.1.c
       have z0 := hB.2.2.1.fz 0
       have z1 := hB.2.2.1.fz 1
       obtain ⟨s0, s1, s2, s3, s4, s5, s6, s7, sz⟩ := hB.re
       skip
       clear hB HM4 HM5
       go_wp2
       refine bodyPost_ret (v := .tuple #[.agg #[.slice (some ⟨b, off, none⟩) t.nodes.length cap, .int .i64 t.next], .agg #[.int .i64 0, .int .i64 0, .int .i64 0, .int .i64 0, .int .i64 0, .slice none 0 0, .slice none 0 0, .slice none 0 0], .int .i64 12]) (by simp [results, Tryz.results52, go_sem, *]) rfl ?_
       rw [HR.out]
       exact ⟨_, _, rfl, HT.out.below (out_below _ _ _ _ _ _ _ _ _ _ HB4.out.2.2.2.2), replyAt_no _, out_below _ _ _ _ _ _ _ _ _ _ HB4.out.2.2.2.2⟩
     · have hAd : decide (o.off < 0) = false := decide_eq_false hA
       by_cases hN : o.n < 0
       · have hNd : decide (o.n < 0) = true := decide_eq_true hN
         skip
         have HR : Hid (fileB t o = (t, noReply, 12)) := by show _ = _; rw [HM5.out, if_pos (.inr hN)]
         have hB := HB4.out
         obtain ⟨c0, c1⟩ := hB.1.c
         obtain ⟨r0, r1⟩ := hB.2.2.1.c
         have z0 := hB.2.2.1.fz 0
         have z1 := hB.2.2.1.fz 1
         obtain ⟨s0, s1, s2, s3, s4, s5, s6, s7, sz⟩ := hB.re
         skip
         clear hB HM4 HM5
         go_wp2
         refine bodyPost_ret (v := .tuple #[.agg #[.slice (some ⟨b, off, none⟩) t.nodes.length cap, .int .i64 t.next], .agg #[.int .i64 0, .int .i64 0, .int .i64 0, .int .i64 0, .int .i64 0, .slice none 0 0, .slice none 0 0, .slice none 0 0], .int .i64 12]) (by simp [results, Tryz.results52, go_sem, *]) rfl ?_
         rw [HR.out]
         exact ⟨_, _, rfl, HT.out.below (out_below _ _ _ _ _ _ _ _ _ _ HB4.out.2.2.2.2), replyAt_no _, out_below _ _ _ _ _ _ _ _ _ _ HB4.out.2.2.2.2⟩
       · have hNd : decide (o.n < 0) = false := decide_eq_false hN
         obtain ⟨A, hAe⟩ : ∃ A : Nat, (A : Int) = min o.off (L : Int) := ⟨(min o.off (L : Int)).toNat, by omega⟩
         obtain ⟨LA, hLA⟩ : ∃ LA : Nat, L = A + LA := ⟨L - A, by omega⟩
         obtain ⟨M, hMe⟩ : ∃ M : Nat, (M : Int) = min o.n (LA : Int) := ⟨(min o.n (LA : Int)).toNat, by omega⟩
         have HQ : Hid (((nodeAt t k).data.drop o.off.toNat).take o.n.toNat = ((nodeAt t k).data.drop A).take M) := by
          have hll := HL.out
          show _ = _
          by_cases c1 : o.off ≤ (L : Int)
          · have e1 : o.off.toNat = A := by omega
            rw [e1]
            by_cases c2 : o.n ≤ (LA : Int)
            · have e2 : o.n.toNat = M := by omega
              rw [e2]
            · rw [List.take_of_length_le (by rw [List.length_drop]; omega), List.take_of_length_le (by rw [List.length_drop]; omega)]
          · have e2 : (nodeAt t k).data.drop o.off.toNat = [] := List.drop_of_length_le (by omega)
            have e3 : (nodeAt t k).data.drop A = [] := List.drop_of_length_le (by omega)
            rw [e2, e3]; simp
         obtain ⟨D, hDe⟩ : ∃ D, ((nodeAt t k).data.drop A).take M = D := ⟨_, rfl⟩
         have HD : Hid (D.length = M) := by show _ = _; rw [← hDe, List.length_take, List.length_drop, HL.out]; omega
         have HR : Hid (fileB t o = (t, { noReply with data := D }, 0)) := by
          show _ = _
          rw [HM5.out, if_neg (by omega), HQ.out, hDe]
         have HSe : Hid (((intsV .u8 (nodeAt t k).data).drop A).take M = intsV .u8 D) := by show _ = _; rw [← hDe]; unfold intsV; rw [List.map_take, List.map_drop]
         have HAM : Hid (A + M ≤ L) := by show _ ≤ _; omega
         have hk2 : min o.off (L : Int) = (A : Int) := hAe.symm
         have hm2 : min o.n (LA : Int) = (M : Int) := hMe.symm
         have hws : IntKind.i64.wrap ((L : Int) - (A : Int)) = (LA : Int) := by rw [IntKind.wrap_i64]; omega
         have M2 : M ≤ 2000 := by omega
         have Ai : (A : Int) ≤ 2000 := by omega
         have Mi : (M : Int) ≤ 2000 := by omega
         have hwa : IntKind.i64.wrap ((A : Int) + (M : Int)) = (A : Int) + (M : Int) := by rw [IntKind.wrap_i64]; omega
         have HSD4 : Hid (Sees w4 (.slice do2 L dc2) (intsV .u8 (nodeAt t k).data)) := HSD.out.below HX4.out.bel
         have hcd : L ≤ dc2 := by
          obtain ⟨a9, c9, e9, q1, _⟩ := HSD4.out
          injection e9 with _ _ e93
          rw [intsV_len, HL.out] at q1
          omega
         clear HQ hDe HM4 HM5 hAe hMe HSD hA hN
         cases hdo : do2 with
         | none =>
           have hd0 : dc2 = 0 := by
            obtain ⟨a9, c9, e9, _, _, q3, _⟩ := HSD4.out
            injection e9 with e91 _ e93
            rw [e93]
            exact q3 (by rw [← e91]; exact hdo)
           have hL0 : L = 0 := by omega
           have hA0 : A = 0 := by omega
           have hM0 : M = 0 := by omega
           have hLA0 : LA = 0 := by omega
           subst hdo hd0 hL0 hA0 hM0 hLA0
           have hw0 : IntKind.i64.wrap 0 = 0 := by rw [IntKind.wrap_i64]; omega
           have hk3 : min o.off 0 = 0 := by simpa using hk2
           have hm3 : min o.n 0 = 0 := by simpa using hm2
           have HS : Hid (Sees w4 (.slice none 0 0) (intsV .u8 D)) := sees_nil0 _ _ (List.eq_nil_of_length_eq_zero (by rw [intsV_len]; exact HD.out))
           clear HSD4 HSe HAM hcd hLA hk2 hm2 hwa hws Ai Mi M2
           have HO : Hid (RowV (w4.alloc (.cells #[] 5)).drew w4.heap.size 5 (.slice (some ⟨w4.heap.size, 0, none⟩) 0 0) []) := by
            have h9 := rowV_lit w4 w4.heap.size 5 [] (Nat.le_refl _) (by simp)
            exact h9
           have HVy : Hid (Sees (w4.alloc (.cells #[] 5)).drew (.slice none 0 0) (intsV .u8 D)) := Sees.below HS.out ((Below.refl w4.heap.size w4).alloc (Nat.le_refl _) _).drew
           have HLn : Hid ((([] : List Value).length + (intsV .u8 D).length) * 16 ≤ 140737488355328) := by show _ ≤ _; rw [intsV_len, HD.out]; simp <;> omega
           have HOn : Hid (∀ u ∈ intsV .u8 D, u.oneCell' = true) := ints_one .u8 D
           have HBa : Hid (Below w4.heap.size w4 (w4.alloc (.cells #[] 5)).drew) := ((Below.refl w4.heap.size w4).alloc (Nat.le_refl _) _).drew
           obtain ⟨c0, c1⟩ := HB4.out.1.c
           have cd0 : w4.drew.cell? ⟨w.heap.size, 0, none⟩ = some (.slice (some ⟨b, off, none⟩) t.nodes.length cap) := c0
           have cd1 : w4.drew.cell? ⟨w.heap.size, 1, none⟩ = some (.int .i64 t.next) := c1
           have ca0 : ((w4.alloc (.cells #[] 5)).drew).cell? ⟨w.heap.size, 0, none⟩ = some (.slice (some ⟨b, off, none⟩) t.nodes.length cap) := cell_oldR HBa.out c0
           have ca1 : ((w4.alloc (.cells #[] 5)).drew).cell? ⟨w.heap.size, 1, none⟩ = some (.int .i64 t.next) := cell_oldR HBa.out c1
           have tl : w.heap.size < w4.heap.size := HB4.out.1.lt
           have hy2 : w.heap.size + 1 + 1 ≠ w.heap.size := by omega
           have hy3 : w.heap.size + 1 + 1 + 1 ≠ w.heap.size := by omega
           have HKP : Hid (∀ W9, Below w4.heap.size ((w4.alloc (.cells #[] 5)).drew) W9 → Bx w W9 (.slice (some ⟨b, off, none⟩) t.nodes.length cap) (.int .i64 t.next) o (.slice do' dn dc)) := fun W9 h9 => HB4.out.below (HBa.out.trans h9)
           clear HS p1 p2 p5
           go_wp2
           clear p0 p3 p4
           go_region_held3 (fun W => W.cell? ⟨w.heap.size, 0, none⟩ = some (.slice (some ⟨b, off, none⟩) t.nodes.length cap) ∧ W.cell? ⟨w.heap.size, 1, none⟩ = some (.int .i64 t.next)) (first | with_reducible exact ⟨cd0, cd1⟩ | with_reducible exact ⟨ca0, ca1⟩ | with_reducible exact ⟨e0, e1⟩ | with_reducible exact ⟨keep2R e0 hy2, keep2R e1 hy2⟩ | with_reducible exact ⟨keep8R (keep2R e0 hy2) hy3, keep8R (keep2R e1 hy2) hy3⟩) (first | (refine step_appV Tryz.underlying33 infoU8 rfl (by omega) rfl (.tmp 70) (.tmp 76) rfl w4.heap.size (.slice (some ⟨w4.heap.size, 0, none⟩) 0 0) [] (by simp [Act.eval]) HO.out (.slice none 0 0) (intsV .u8 D) (by simp [Act.eval] <;> omega) HVy.out HOn.out HLn.out (by simp) ?_; intro v9 w9 k1 k2; obtain ⟨va, vc, hv9, _⟩ := id (RowV.sees k1); rw [List.nil_append, intsV_len, HD.out] at hv9; subst hv9; have HK9 : Hid (_ ∧ _) := ⟨k1, k2⟩; have HB9 := HKP.out w9 k2; obtain ⟨e0, e1⟩ := HB9.1.c; obtain ⟨r0, r1⟩ := HB9.2.2.1.c; have z0 := HB9.2.2.1.fz 0; have z1 := HB9.2.2.1.fz 1; obtain ⟨s0, s1, s2, s3, s4, s5, s6, s7, sz⟩ := HB9.re; have HB9h : Hid (Bx w w9 (.slice (some ⟨b, off, none⟩) t.nodes.length cap) (.int .i64 t.next) o (.slice do' dn dc)) := HB9; clear k1 k2 HB9))
           all_goals (
            have hrp : ReplyAt w9 (.agg #[.int .i64 0, .int .i64 0, .int .i64 0, .int .i64 0, .int .i64 0, .slice va 0 vc, .slice none 0 0, .slice none 0 0]) { noReply with data := D } := ⟨_, _, _, rfl, by have h9 := RowV.sees HK9.out.1; rw [List.nil_append] at h9; exact h9, sees_nil0 _ _ rfl, sees_nil0 _ _ rfl⟩
            have HEn : Hid (TreeAt (outW w9 w.heap.size (.slice (some ⟨b, off, none⟩) t.nodes.length cap) (.int .i64 t.next) (.int .i64 0) (.int .i64 0) (.int .i64 0) (.int .i64 0) (.int .i64 0) (.slice va 0 vc) (.slice none 0 0) (.slice none 0 0)) (.agg #[.slice (some ⟨b, off, none⟩) t.nodes.length cap, .int .i64 t.next]) t ∧ ReplyAt (outW w9 w.heap.size (.slice (some ⟨b, off, none⟩) t.nodes.length cap) (.int .i64 t.next) (.int .i64 0) (.int .i64 0) (.int .i64 0) (.int .i64 0) (.int .i64 0) (.slice va 0 vc) (.slice none 0 0) (.slice none 0 0)) (.agg #[.int .i64 0, .int .i64 0, .int .i64 0, .int .i64 0, .int .i64 0, .slice va 0 vc, .slice none 0 0, .slice none 0 0]) { noReply with data := D } ∧ Below w.heap.size w (outW w9 w.heap.size (.slice (some ⟨b, off, none⟩) t.nodes.length cap) (.int .i64 t.next) (.int .i64 0) (.int .i64 0) (.int .i64 0) (.int .i64 0) (.int .i64 0) (.slice va 0 vc) (.slice none 0 0) (.slice none 0 0))) := ⟨HT.out.below (out_below _ _ _ _ _ _ _ _ _ _ HB9h.out.2.2.2.2), ReplyAt.outW _ _ _ _ _ _ _ _ _ _ HB9h.out hrp rfl, out_below _ _ _ _ _ _ _ _ _ _ HB9h.out.2.2.2.2⟩
            clear hrp
            go_wp2
            refine bodyPost_ret (v := .tuple #[.agg #[.slice (some ⟨b, off, none⟩) t.nodes.length cap, .int .i64 t.next], .agg #[.int .i64 0, .int .i64 0, .int .i64 0, .int .i64 0, .int .i64 0, .slice va 0 vc, .slice none 0 0, .slice none 0 0], .int .i64 0]) (by simp [results, Tryz.results52, go_sem, *]) rfl ?_
            rw [HR.out]
            unfold outW at HEn
            exact ⟨_, _, rfl, HEn.out.1, HEn.out.2.1, HEn.out.2.2⟩)
         | some ad =>
           subst hdo
           obtain ⟨ab, aoff, asp⟩ := ad
           have Hsp : Hid (A + M ≤ L ∧ (A : Int) + (M : Int) ≤ (dc2 : Int)) := ⟨HAM.out, by have := HAM.out; omega⟩
           have hcap : (A : Int) + (M : Int) ≤ (dc2 : Int) := Hsp.out.2
           have hle : (A : Int) ≤ (A : Int) + (M : Int) := by omega
           by_cases hck : dc2 = A
           · have hM0 : M = 0 := by have := HAM.out; omega
             subst hM0
             have HS : Hid (Sees w4 (.slice (some ⟨ab, aoff, asp⟩) 0 0) (intsV .u8 D)) := by
              have e : intsV .u8 D = [] := List.eq_nil_of_length_eq_zero (by rw [intsV_len]; exact HD.out)
              rw [e]
              exact sees_emptyR _ _
             have hL0 : L = A := by have := HAM.out; omega
             have hLA0 : LA = 0 := by omega
             have hA1 : IntKind.i64.wrap (A : Int) = (A : Int) := by rw [IntKind.wrap_i64]; omega
             have hm3 : min o.n 0 = 0 := by simpa [hLA0] using hm2
             have hk3 : min o.off (A : Int) = (A : Int) := by rw [hL0] at hk2; exact hk2
             have A0 : (0 : Int) ≤ (A : Int) := by omega
             subst hLA0 hL0 hck
             clear HSD4 HSe HAM hcd hLA Hsp hm2 hk2 hwa hws hcap hle Mi M2
             have HO : Hid (RowV (w4.alloc (.cells #[] 5)).drew w4.heap.size 5 (.slice (some ⟨w4.heap.size, 0, none⟩) 0 0) []) := by
              have h9 := rowV_lit w4 w4.heap.size 5 [] (Nat.le_refl _) (by simp)
              exact h9
             have HVy : Hid (Sees (w4.alloc (.cells #[] 5)).drew (.slice (some ⟨ab, aoff, asp⟩) 0 0) (intsV .u8 D)) := Sees.below HS.out ((Below.refl w4.heap.size w4).alloc (Nat.le_refl _) _).drew
             have HLn : Hid ((([] : List Value).length + (intsV .u8 D).length) * 16 ≤ 140737488355328) := by show _ ≤ _; rw [intsV_len, HD.out]; simp <;> omega
             have HOn : Hid (∀ u ∈ intsV .u8 D, u.oneCell' = true) := ints_one .u8 D
             have HBa : Hid (Below w4.heap.size w4 (w4.alloc (.cells #[] 5)).drew) := ((Below.refl w4.heap.size w4).alloc (Nat.le_refl _) _).drew
             obtain ⟨c0, c1⟩ := HB4.out.1.c
             have cd0 : w4.drew.cell? ⟨w.heap.size, 0, none⟩ = some (.slice (some ⟨b, off, none⟩) t.nodes.length cap) := c0
             have cd1 : w4.drew.cell? ⟨w.heap.size, 1, none⟩ = some (.int .i64 t.next) := c1
             have ca0 : ((w4.alloc (.cells #[] 5)).drew).cell? ⟨w.heap.size, 0, none⟩ = some (.slice (some ⟨b, off, none⟩) t.nodes.length cap) := cell_oldR HBa.out c0
             have ca1 : ((w4.alloc (.cells #[] 5)).drew).cell? ⟨w.heap.size, 1, none⟩ = some (.int .i64 t.next) := cell_oldR HBa.out c1
             have tl : w.heap.size < w4.heap.size := HB4.out.1.lt
             have hy2 : w.heap.size + 1 + 1 ≠ w.heap.size := by omega
             have hy3 : w.heap.size + 1 + 1 + 1 ≠ w.heap.size := by omega
             have HKP : Hid (∀ W9, Below w4.heap.size ((w4.alloc (.cells #[] 5)).drew) W9 → Bx w W9 (.slice (some ⟨b, off, none⟩) t.nodes.length cap) (.int .i64 t.next) o (.slice do' dn dc)) := fun W9 h9 => HB4.out.below (HBa.out.trans h9)
             clear HS p1 p2 p5
             go_wp2
             clear p0 p3 p4
             go_region_held3 (fun W => W.cell? ⟨w.heap.size, 0, none⟩ = some (.slice (some ⟨b, off, none⟩) t.nodes.length cap) ∧ W.cell? ⟨w.heap.size, 1, none⟩ = some (.int .i64 t.next)) (first | with_reducible exact ⟨cd0, cd1⟩ | with_reducible exact ⟨ca0, ca1⟩ | with_reducible exact ⟨e0, e1⟩ | with_reducible exact ⟨keep2R e0 hy2, keep2R e1 hy2⟩ | with_reducible exact ⟨keep8R (keep2R e0 hy2) hy3, keep8R (keep2R e1 hy2) hy3⟩) (first | (refine step_appV Tryz.underlying33 infoU8 rfl (by omega) rfl (.tmp 70) (.tmp 76) rfl w4.heap.size (.slice (some ⟨w4.heap.size, 0, none⟩) 0 0) [] (by simp [Act.eval]) HO.out (.slice (some ⟨ab, aoff, asp⟩) 0 0) (intsV .u8 D) (by simp [Act.eval] <;> omega) HVy.out HOn.out HLn.out (by simp) ?_; intro v9 w9 k1 k2; obtain ⟨va, vc, hv9, _⟩ := id (RowV.sees k1); rw [List.nil_append, intsV_len, HD.out] at hv9; subst hv9; have HK9 : Hid (_ ∧ _) := ⟨k1, k2⟩; have HB9 := HKP.out w9 k2; obtain ⟨e0, e1⟩ := HB9.1.c; obtain ⟨r0, r1⟩ := HB9.2.2.1.c; have z0 := HB9.2.2.1.fz 0; have z1 := HB9.2.2.1.fz 1; obtain ⟨s0, s1, s2, s3, s4, s5, s6, s7, sz⟩ := HB9.re; have HB9h : Hid (Bx w w9 (.slice (some ⟨b, off, none⟩) t.nodes.length cap) (.int .i64 t.next) o (.slice do' dn dc)) := HB9; clear k1 k2 HB9))
             all_goals (
              have hrp : ReplyAt w9 (.agg #[.int .i64 0, .int .i64 0, .int .i64 0, .int .i64 0, .int .i64 0, .slice va 0 vc, .slice none 0 0, .slice none 0 0]) { noReply with data := D } := ⟨_, _, _, rfl, by have h9 := RowV.sees HK9.out.1; rw [List.nil_append] at h9; exact h9, sees_nil0 _ _ rfl, sees_nil0 _ _ rfl⟩
              have HEn : Hid (TreeAt (outW w9 w.heap.size (.slice (some ⟨b, off, none⟩) t.nodes.length cap) (.int .i64 t.next) (.int .i64 0) (.int .i64 0) (.int .i64 0) (.int .i64 0) (.int .i64 0) (.slice va 0 vc) (.slice none 0 0) (.slice none 0 0)) (.agg #[.slice (some ⟨b, off, none⟩) t.nodes.length cap, .int .i64 t.next]) t ∧ ReplyAt (outW w9 w.heap.size (.slice (some ⟨b, off, none⟩) t.nodes.length cap) (.int .i64 t.next) (.int .i64 0) (.int .i64 0) (.int .i64 0) (.int .i64 0) (.int .i64 0) (.slice va 0 vc) (.slice none 0 0) (.slice none 0 0)) (.agg #[.int .i64 0, .int .i64 0, .int .i64 0, .int .i64 0, .int .i64 0, .slice va 0 vc, .slice none 0 0, .slice none 0 0]) { noReply with data := D } ∧ Below w.heap.size w (outW w9 w.heap.size (.slice (some ⟨b, off, none⟩) t.nodes.length cap) (.int .i64 t.next) (.int .i64 0) (.int .i64 0) (.int .i64 0) (.int .i64 0) (.int .i64 0) (.slice va 0 vc) (.slice none 0 0) (.slice none 0 0))) := ⟨HT.out.below (out_below _ _ _ _ _ _ _ _ _ _ HB9h.out.2.2.2.2), ReplyAt.outW _ _ _ _ _ _ _ _ _ _ HB9h.out hrp rfl, out_below _ _ _ _ _ _ _ _ _ _ HB9h.out.2.2.2.2⟩
              clear hrp
              go_wp2
              refine bodyPost_ret (v := .tuple #[.agg #[.slice (some ⟨b, off, none⟩) t.nodes.length cap, .int .i64 t.next], .agg #[.int .i64 0, .int .i64 0, .int .i64 0, .int .i64 0, .int .i64 0, .slice va 0 vc, .slice none 0 0, .slice none 0 0], .int .i64 0]) (by simp [results, Tryz.results52, go_sem, *]) rfl ?_
              rw [HR.out]
              unfold outW at HEn
              exact ⟨_, _, rfl, HEn.out.1, HEn.out.2.1, HEn.out.2.2⟩)
           · have HS : Hid (Sees w4 (.slice (some ((⟨ab, aoff, asp⟩ : Addr).add A)) M (dc2 - A)) (intsV .u8 D)) := by
              have h9 := sees_part HSD4.out A M HAM.out (some ((⟨ab, aoff, asp⟩ : Addr).add A)) (fun a h => by injection h with h; subst h; rfl) (fun h => by cases h)
              rw [HSe.out] at h9
              exact h9
             have hc0 : ¬ dc2 - A = 0 := by omega
             clear HSD4 HSe HAM hcd hLA Hsp
             have HO : Hid (RowV (w4.alloc (.cells #[] 5)).drew w4.heap.size 5 (.slice (some ⟨w4.heap.size, 0, none⟩) 0 0) []) := by
              have h9 := rowV_lit w4 w4.heap.size 5 [] (Nat.le_refl _) (by simp)
              exact h9
             have HVy : Hid (Sees (w4.alloc (.cells #[] 5)).drew (.slice (some ((⟨ab, aoff, asp⟩ : Addr).add A)) M (dc2 - A)) (intsV .u8 D)) := Sees.below HS.out ((Below.refl w4.heap.size w4).alloc (Nat.le_refl _) _).drew
             have HLn : Hid ((([] : List Value).length + (intsV .u8 D).length) * 16 ≤ 140737488355328) := by show _ ≤ _; rw [intsV_len, HD.out]; simp <;> omega
             have HOn : Hid (∀ u ∈ intsV .u8 D, u.oneCell' = true) := ints_one .u8 D
             have HBa : Hid (Below w4.heap.size w4 (w4.alloc (.cells #[] 5)).drew) := ((Below.refl w4.heap.size w4).alloc (Nat.le_refl _) _).drew
             obtain ⟨c0, c1⟩ := HB4.out.1.c
             have cd0 : w4.drew.cell? ⟨w.heap.size, 0, none⟩ = some (.slice (some ⟨b, off, none⟩) t.nodes.length cap) := c0
             have cd1 : w4.drew.cell? ⟨w.heap.size, 1, none⟩ = some (.int .i64 t.next) := c1
             have ca0 : ((w4.alloc (.cells #[] 5)).drew).cell? ⟨w.heap.size, 0, none⟩ = some (.slice (some ⟨b, off, none⟩) t.nodes.length cap) := cell_oldR HBa.out c0
             have ca1 : ((w4.alloc (.cells #[] 5)).drew).cell? ⟨w.heap.size, 1, none⟩ = some (.int .i64 t.next) := cell_oldR HBa.out c1
             have tl : w.heap.size < w4.heap.size := HB4.out.1.lt
             have hy2 : w.heap.size + 1 + 1 ≠ w.heap.size := by omega
             have hy3 : w.heap.size + 1 + 1 + 1 ≠ w.heap.size := by omega
             have HKP : Hid (∀ W9, Below w4.heap.size ((w4.alloc (.cells #[] 5)).drew) W9 → Bx w W9 (.slice (some ⟨b, off, none⟩) t.nodes.length cap) (.int .i64 t.next) o (.slice do' dn dc)) := fun W9 h9 => HB4.out.below (HBa.out.trans h9)
             clear HS p1 p2 p5
             go_wp2
             clear p0 p3 p4
             go_region_held3 (fun W => W.cell? ⟨w.heap.size, 0, none⟩ = some (.slice (some ⟨b, off, none⟩) t.nodes.length cap) ∧ W.cell? ⟨w.heap.size, 1, none⟩ = some (.int .i64 t.next)) (first | with_reducible exact ⟨cd0, cd1⟩ | with_reducible exact ⟨ca0, ca1⟩ | with_reducible exact ⟨e0, e1⟩ | with_reducible exact ⟨keep2R e0 hy2, keep2R e1 hy2⟩ | with_reducible exact ⟨keep8R (keep2R e0 hy2) hy3, keep8R (keep2R e1 hy2) hy3⟩) (first | (refine step_appV Tryz.underlying33 infoU8 rfl (by omega) rfl (.tmp 70) (.tmp 76) rfl w4.heap.size (.slice (some ⟨w4.heap.size, 0, none⟩) 0 0) [] (by simp [Act.eval]) HO.out (.slice (some ((⟨ab, aoff, asp⟩ : Addr).add A)) M (dc2 - A)) (intsV .u8 D) (by simp [Act.eval] <;> omega) HVy.out HOn.out HLn.out (by simp) ?_; intro v9 w9 k1 k2; obtain ⟨va, vc, hv9, _⟩ := id (RowV.sees k1); rw [List.nil_append, intsV_len, HD.out] at hv9; subst hv9; have HK9 : Hid (_ ∧ _) := ⟨k1, k2⟩; have HB9 := HKP.out w9 k2; obtain ⟨e0, e1⟩ := HB9.1.c; obtain ⟨r0, r1⟩ := HB9.2.2.1.c; have z0 := HB9.2.2.1.fz 0; have z1 := HB9.2.2.1.fz 1; obtain ⟨s0, s1, s2, s3, s4, s5, s6, s7, sz⟩ := HB9.re; have HB9h : Hid (Bx w w9 (.slice (some ⟨b, off, none⟩) t.nodes.length cap) (.int .i64 t.next) o (.slice do' dn dc)) := HB9; clear k1 k2 HB9))
             all_goals (
              have hrp : ReplyAt w9 (.agg #[.int .i64 0, .int .i64 0, .int .i64 0, .int .i64 0, .int .i64 0, .slice va M vc, .slice none 0 0, .slice none 0 0]) { noReply with data := D } := ⟨_, _, _, rfl, by have h9 := RowV.sees HK9.out.1; rw [List.nil_append] at h9; exact h9, sees_nil0 _ _ rfl, sees_nil0 _ _ rfl⟩
              have HEn : Hid (TreeAt (outW w9 w.heap.size (.slice (some ⟨b, off, none⟩) t.nodes.length cap) (.int .i64 t.next) (.int .i64 0) (.int .i64 0) (.int .i64 0) (.int .i64 0) (.int .i64 0) (.slice va M vc) (.slice none 0 0) (.slice none 0 0)) (.agg #[.slice (some ⟨b, off, none⟩) t.nodes.length cap, .int .i64 t.next]) t ∧ ReplyAt (outW w9 w.heap.size (.slice (some ⟨b, off, none⟩) t.nodes.length cap) (.int .i64 t.next) (.int .i64 0) (.int .i64 0) (.int .i64 0) (.int .i64 0) (.int .i64 0) (.slice va M vc) (.slice none 0 0) (.slice none 0 0)) (.agg #[.int .i64 0, .int .i64 0, .int .i64 0, .int .i64 0, .int .i64 0, .slice va M vc, .slice none 0 0, .slice none 0 0]) { noReply with data := D } ∧ Below w.heap.size w (outW w9 w.heap.size (.slice (some ⟨b, off, none⟩) t.nodes.length cap) (.int .i64 t.next) (.int .i64 0) (.int .i64 0) (.int .i64 0) (.int .i64 0) (.int .i64 0) (.slice va M vc) (.slice none 0 0) (.slice none 0 0))) := ⟨HT.out.below (out_below _ _ _ _ _ _ _ _ _ _ HB9h.out.2.2.2.2), ReplyAt.outW _ _ _ _ _ _ _ _ _ _ HB9h.out hrp rfl, out_below _ _ _ _ _ _ _ _ _ _ HB9h.out.2.2.2.2⟩
              clear hrp
              go_wp2
              refine bodyPost_ret (v := .tuple #[.agg #[.slice (some ⟨b, off, none⟩) t.nodes.length cap, .int .i64 t.next], .agg #[.int .i64 0, .int .i64 0, .int .i64 0, .int .i64 0, .int .i64 0, .slice va M vc, .slice none 0 0, .slice none 0 0], .int .i64 0]) (by simp [results, Tryz.results52, go_sem, *]) rfl ?_
              rw [HR.out]
              unfold outW at HEn
              exact ⟨_, _, rfl, HEn.out.1, HEn.out.2.1, HEn.out.2.2⟩)
end Go.Proofs.YtbebgobboccjcaaGreatDoor
