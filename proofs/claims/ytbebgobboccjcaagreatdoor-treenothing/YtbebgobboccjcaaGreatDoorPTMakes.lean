/- dolmenref5.makes: what one call answers. UNDER WAY (builds with two open ways): region 12 (the drawn store of what with answers) goes by go_region_with with the facts of the with-contract laid at w4.drew: 138 s, fifteen orders, all with one and the same world (set5 w5 g (d * 5) of the new node): CUT AROUND IT (go_upto_region 12, go_cut). Then: w6 = set5 .. (XT.set5, FreshN.upper by set5_upper), region 13 by wpList_appS (infoN, XT.grow), next (XT.next), region 15 by go_region, the end by out_row, out_upper, out_below, seesN_of. The other way is o.kind ≠ 2: the same with 1. -/
import Derived.Test.YtbebgobboccjcaaGreatDoorH4
import Derived.Test.YtbebgobboccjcaaGreatDoorPTWith
import Derived.Test.YtbebgobboccjcaaGreatDoorH5
import Derived.Deep.RegionHeld3
import Derived.Test.YtbebgobboccjcaaGreatDoorPDAll
import Derived.Deep.DeepCutAuto
import Derived.Deep.CutRange
namespace Go.Proofs.YtbebgobboccjcaaGreatDoor
open Go.RowKit Kit
set_option linter.unusedVariables false

set_option maxRecDepth 4000 in
set_option maxHeartbeats 16000000 in
theorem makes_any (v ov : Value) (t : TreeB) (o : OpB) (w : World) (hT : TreeAt w v t) (hg : Good t) (ho : OpAt w ov o) :
 Calls Tryz.prog 48 #[v, ov] w fun e w' => ∃ tv rv, e = .returned (.tuple #[tv, rv, .int .i64 (makesB t o).2.2]) ∧ TreeN w.heap.size w' t.next tv (makesB t o).1 ∧ ReplyAt w' rv (makesB t o).2.1 ∧ Below w.heap.size w w' := by
 have HT : Hid (TreeAt w v t) := hT
 obtain ⟨fs, hF⟩ : ∃ fs, TreeG w v t fs := by obtain ⟨sv, fs, h⟩ := hT; exact ⟨fs, sv, h⟩
 have HTF : Hid (TreeG w v t fs) := hF
 obtain ⟨ao, cap, rfl, q1, q2, q3, q4, q5⟩ := hF.opened
 obtain ⟨dv, rfl, ho1, ho2, ho3, ho4⟩ := ho
 obtain ⟨b, off, rfl, hb, hc⟩ := q5 hg.e.root0.1
 have hl := fs_len q3
 have lm : (t.nodes.length : Int) ≤ 60 := by have := hg.e.size; omega
 obtain ⟨do', dc, hdv, _⟩ := ho1
 obtain ⟨dn, hdn⟩ : ∃ n, (intsV .u8 o.data).length = n := ⟨_, rfl⟩
 rw [hdn] at hdv
 subst hdv
 have HG : Hid (Good t ∧ fs.map FN.n = t.nodes ∧ (∀ f ∈ fs, f.is w) ∧ b < w.heap.size ∧ ∀ k (hk : k < fs.length), At5 w b (off + k * 5) fs[k]) := ⟨hg, q3, q4, hb, hc⟩
 have HH : Hid (∀ W, Below w.heap.size w W → Calls Tryz.prog 83 #[.agg #[.slice (some ⟨b, off, none⟩) t.nodes.length cap, .int .i64 t.next], .string o.path] W fun e w' => e = .returned (resH (homeB t o.path)) ∧ Below W.heap.size W w') := fun W hb => home_any _ t o.path W (HT.out.below hb) hg ho2
 clear q1 q2 q3 q4 q5 hT hF hb hc hg ho2 ho3 ho4 hdn
 unfold opV
 obtain ⟨w0, hw0⟩ : ∃ w0, w0 = ((((w.alloc (.cells #[.slice (some ⟨b, off, none⟩) t.nodes.length cap, .int .i64 t.next] 29)).alloc (.cells #[.int .i64 o.kind, .string o.path, .string o.to, .int .i64 o.off, .int .i64 o.n, .slice do' dn dc, .int .i64 o.snap] 35)).alloc (.cells #[.slice none 0 0, .int .i64 0] 29)).alloc (.cells #[.int .i64 0, .int .i64 0, .int .i64 0, .int .i64 0, .int .i64 0, .slice none 0 0, .slice none 0 0, .slice none 0 0] 40)) := ⟨_, rfl⟩
 have HB0 : Hid (Bx w w0 (.slice (some ⟨b, off, none⟩) t.nodes.length cap) (.int .i64 t.next) o (.slice do' dn dc)) := by rw [hw0]; exact bx_new w _ _ _ o
 have HM : Hid (makesB t o = match homeB t o.path with
  | .error e => (t, noReply, e)
  | .ok (d, s) => if nameB (nodeAt t d) s ≠ 0 then (t, noReply, 6) else if 60 ≤ t.nodes.length ∨ 1099511627776 ≤ t.next then (t, noReply, 16)
    else (⟨t.nodes.set d (withB (nodeAt t d) s t.next) ++ [⟨t.next, if o.kind = 2 then 2 else 1, [], [], []⟩], t.next + 1⟩, { noReply with ino := t.next }, 0)) := rfl
 have hok := fun d s => home_ok HG.out.1.e (p := o.path) (d := d) (s := s)
 have hne : ∀ x, homeB t o.path = .error x → x ≠ 0 := fun x h => home_codeT h
 go_enter Tryz.func48, Tryz.ntmps48
 go_wp2_with fail
 go_at_call 83
 rw [← hw0]
 refine (HH.out w0 HB0.out.2.2.2.2).mono ?_
 rintro e1 w1 ⟨rfl, hb1⟩
 have HB1 : Hid (Bx w w1 (.slice (some ⟨b, off, none⟩) t.nodes.length cap) (.int .i64 t.next) o (.slice do' dn dc)) := HB0.out.below hb1
 clear HB0 hw0 hb1 HH
 obtain ⟨hm, hhm⟩ : ∃ x, homeB t o.path = x := ⟨_, rfl⟩
 rw [hhm] at HM hok hne
 rw [hhm]
 cases hm with
 | error x =>
   have hx0 := hne x rfl
   have hxe : (x == 0) = false := beq_eq_false_iff_ne.2 hx0
   have hxe2 : (x != 0) = true := by simp [hx0]
   have HR : Hid (makesB t o = (t, noReply, x)) := HM.out
   have hB := HB1.out
   obtain ⟨c0, c1⟩ := hB.1.c
   obtain ⟨r0, r1⟩ := hB.2.2.1.c
   have z0 := hB.2.2.1.fz 0
   have z1 := hB.2.2.1.fz 1
   obtain ⟨s0, s1, s2, s3, s4, s5, s6, s7, sz⟩ := hB.re
   unfold resH
   clear HM hhm hok hne hx0 hB
   go_wp2
   refine bodyPost_ret (v := .tuple #[.agg #[.slice (some ⟨b, off, none⟩) t.nodes.length cap, .int .i64 t.next], .agg #[.int .i64 0, .int .i64 0, .int .i64 0, .int .i64 0, .int .i64 0, .slice none 0 0, .slice none 0 0, .slice none 0 0], .int .i64 x]) (by simp [results, Tryz.results48, go_sem, *]) rfl ?_
   rw [HR.out]
   exact ⟨_, _, rfl, treeN_old (HT.out.below (out_below _ _ _ _ _ _ _ _ _ _ HB1.out.2.2.2.2)) HG.out.1 rfl, replyAt_no _, out_below _ _ _ _ _ _ _ _ _ _ HB1.out.2.2.2.2⟩
 | ok ds =>
   obtain ⟨d, s⟩ := ds
   obtain ⟨hd, hk2, _⟩ := hok d s rfl
   have hfd : d < fs.length := by omega
   have a5 := At5.below (HG.out.2.2.2.2 d hfd) HG.out.2.2.2.1 HB1.out.2.2.2.2
   have hn : nodeAt t d = fs[d].n := fs_at HG.out.2.1 hfd
   have hfis : fs[d].is w1 := (HG.out.2.2.1 _ (List.getElem_mem hfd)).below HB1.out.2.2.2.2
   have hmem : fs[d].n ∈ t.nodes := by rw [← HG.out.2.1]; exact List.mem_map.2 ⟨_, List.getElem_mem hfd, rfl⟩
   have HLN : Hid (fs[d].n.names.length = fs[d].n.inos.length ∧ fs[d].n.names.length ≤ 1000000) := ⟨(HG.out.1.e.each _ hmem).len, by have := (names_smallT HG.out.1.e hmem).1; omega⟩
   have HNC : Hid (Calls Tryz.prog 84 #[fs[d].val, .string s] w1 _) := name_any fs[d] s w1 hfis HLN.out.1
   have HM2 : Hid (makesB t o = if nameB (nodeAt t d) s ≠ 0 then (t, noReply, 6) else if 60 ≤ t.nodes.length ∨ 1099511627776 ≤ t.next then (t, noReply, 16)
    else (⟨t.nodes.set d (withB (nodeAt t d) s t.next) ++ [⟨t.next, if o.kind = 2 then 2 else 1, [], [], []⟩], t.next + 1⟩, { noReply with ino := t.next }, 0)) := HM.out
   rw [hn] at HM2
   obtain ⟨f, hf⟩ : ∃ f, fs[d] = f := ⟨_, rfl⟩
   rw [hf] at HM2 HNC HLN a5 hfis
   have HFE : Hid (∃ h : d < fs.length, fs[d] = f) := ⟨hfd, hf⟩
   obtain ⟨s0, s1, s2, s3, s4⟩ := a5
   obtain ⟨⟨do2, dc2, hd', _⟩, ⟨mo', mc', hm', _⟩, ⟨io', ic', hi', _⟩⟩ := hfis
   obtain ⟨nd, hnd⟩ : ∃ n, (intsV .u8 f.n.data).length = n := ⟨_, rfl⟩
   obtain ⟨nm, hnm⟩ : ∃ n, (strs f.n.names).length = n := ⟨_, rfl⟩
   obtain ⟨ni, hni⟩ : ∃ n, (intsV .i64 f.n.inos).length = n := ⟨_, rfl⟩
   rw [hnd] at hd'
   rw [hnm] at hm'
   rw [hni] at hi'
   rw [hd'] at s2
   rw [hm'] at s3
   rw [hi'] at s4
   have HV : Hid (f.d = .slice do2 nd dc2 ∧ f.m = .slice mo' nm mc' ∧ f.i = .slice io' ni ic') := ⟨hd', hm', hi'⟩
   have HNC2 : Hid (Calls Tryz.prog 84 #[.agg #[.int .i64 f.n.ino, .int .i64 f.n.kind, .slice do2 nd dc2, .slice mo' nm mc', .slice io' ni ic'], .string s] w1 fun e w' => e = .returned (.int .i64 (nameB f.n s)) ∧ Below w1.heap.size w1 w') := by
    have h9 := HNC.out
    unfold FN.val at h9
    rw [hd', hm', hi'] at h9
    exact h9
   have j0 : (d : Int) < (t.nodes.length : Int) := by omega
   have j1 : (0 : Int) ≤ (d : Int) := by omega
   have c0 := HB1.out.1.c.1
   unfold resH
   clear HM hok hne hhm hn hmem HNC hf hd' hm' hi' hnd hnm hni hk2
   go_wp2_with fail
   go_at_call 84
   refine HNC2.out.mono ?_
   rintro e2 w2 ⟨rfl, hb2⟩
   have HB2 : Hid (Bx w w2 (.slice (some ⟨b, off, none⟩) t.nodes.length cap) (.int .i64 t.next) o (.slice do' dn dc)) := HB1.out.below hb2
   clear HB1 hb2 HNC2 c0 s0 s1 s2 s3 s4
   obtain ⟨x, hx⟩ : ∃ x, nameB f.n s = x := ⟨_, rfl⟩
   rw [hx] at HM2
   rw [hx]
   clear hx
   by_cases hx0 : x = 0
   · subst hx0
     have HM3 : Hid (makesB t o = if 60 ≤ t.nodes.length ∨ 1099511627776 ≤ t.next then (t, noReply, 16)
      else (⟨t.nodes.set d (withB f.n s t.next) ++ [⟨t.next, if o.kind = 2 then 2 else 1, [], [], []⟩], t.next + 1⟩, { noReply with ino := t.next }, 0)) := by show _ = _; rw [HM2.out, if_neg (by simp)]
     clear HM2
     by_cases hA : 60 ≤ t.nodes.length
     · have hA' : (60 : Int) ≤ (t.nodes.length : Int) := by omega
       have HR : Hid (makesB t o = (t, noReply, 16)) := by show _ = _; rw [HM3.out, if_pos (.inl hA)]
       have hB := HB2.out
       obtain ⟨c0, c1⟩ := hB.1.c
       obtain ⟨r0, r1⟩ := hB.2.2.1.c
       have z0 := hB.2.2.1.fz 0
       have z1 := hB.2.2.1.fz 1
       obtain ⟨s0, s1, s2, s3, s4, s5, s6, s7, sz⟩ := hB.re
       clear HM3 hB
       go_wp2
       refine bodyPost_ret (v := .tuple #[.agg #[.slice (some ⟨b, off, none⟩) t.nodes.length cap, .int .i64 t.next], .agg #[.int .i64 0, .int .i64 0, .int .i64 0, .int .i64 0, .int .i64 0, .slice none 0 0, .slice none 0 0, .slice none 0 0], .int .i64 16]) (by simp [results, Tryz.results48, go_sem, *]) rfl ?_
       rw [HR.out]
       exact ⟨_, _, rfl, treeN_old (HT.out.below (out_below _ _ _ _ _ _ _ _ _ _ HB2.out.2.2.2.2)) HG.out.1 rfl, replyAt_no _, out_below _ _ _ _ _ _ _ _ _ _ HB2.out.2.2.2.2⟩
     · have hA' : ¬ (60 : Int) ≤ (t.nodes.length : Int) := by omega
       by_cases hN : 1099511627776 ≤ t.next
       · have HR : Hid (makesB t o = (t, noReply, 16)) := by show _ = _; rw [HM3.out, if_pos (.inr hN)]
         have hB := HB2.out
         obtain ⟨c0, c1⟩ := hB.1.c
         obtain ⟨r0, r1⟩ := hB.2.2.1.c
         have z0 := hB.2.2.1.fz 0
         have z1 := hB.2.2.1.fz 1
         obtain ⟨s0, s1, s2, s3, s4, s5, s6, s7, sz⟩ := hB.re
         clear HM3 hB
         go_wp2
         refine bodyPost_ret (v := .tuple #[.agg #[.slice (some ⟨b, off, none⟩) t.nodes.length cap, .int .i64 t.next], .agg #[.int .i64 0, .int .i64 0, .int .i64 0, .int .i64 0, .int .i64 0, .slice none 0 0, .slice none 0 0, .slice none 0 0], .int .i64 16]) (by simp [results, Tryz.results48, go_sem, *]) rfl ?_
         rw [HR.out]
         exact ⟨_, _, rfl, treeN_old (HT.out.below (out_below _ _ _ _ _ _ _ _ _ _ HB2.out.2.2.2.2)) HG.out.1 rfl, replyAt_no _, out_below _ _ _ _ _ _ _ _ _ _ HB2.out.2.2.2.2⟩
       · have HR : Hid (makesB t o = (⟨t.nodes.set d (withB f.n s t.next) ++ [⟨t.next, if o.kind = 2 then 2 else 1, [], [], []⟩], t.next + 1⟩, { noReply with ino := t.next }, 0)) := by show _ = _; rw [HM3.out, if_neg (by omega)]
         have HCP : Hid (Calls Tryz.prog 85 #[.agg #[.slice (some ⟨b, off, none⟩) t.nodes.length cap, .int .i64 t.next]] w2 _) := copied_any _ t fs w2 (HTF.out.below HB2.out.2.2.2.2) (by omega) (by omega)
         have hB := HB2.out
         obtain ⟨c0, c1⟩ := hB.1.c
         clear HM3 hB
         go_wp2_with fail
         go_at_call 85
         refine HCP.out.mono ?_
         rintro e3 w3 ⟨u, rfl, ⟨sv, hsv, hrow, hfn, hfi⟩, hb3⟩
         obtain ⟨g, cp, hsv2⟩ := own_some hrow (by omega)
         rw [hl] at hsv2
         subst hsv2
         subst hsv
         have hgl := hrow.lt g rfl
         have HB4 : Hid (Bx w (w3.alloc (.cells #[.slice (some ⟨g, 0, none⟩) t.nodes.length cp, .int .i64 t.next] 29)) (.slice (some ⟨b, off, none⟩) t.nodes.length cap) (.int .i64 t.next) o (.slice do' dn dc)) := (HB2.out.below hb3).below ((Below.refl _ _).alloc (Nat.le_refl _) _)
         have HX4 : Hid (XT w2.heap.size (w3.alloc (.cells #[.slice (some ⟨g, 0, none⟩) t.nodes.length cp, .int .i64 t.next] 29)) w3.heap.size g t.nodes.length cp (.int .i64 t.next) fs) := by
          exact XT.mk' (heap_alloc_new _ _) (by have := hrow.alloc (.cells #[.slice (some ⟨g, 0, none⟩) t.nodes.length cp, .int .i64 t.next] 29); rw [hl] at this; exact this) hl.symm
         have HLO : Hid (w.heap.size + 4 ≤ w2.heap.size ∧ g < w3.heap.size ∧ w2.heap.size ≤ g ∧ w2.heap.size ≤ w3.heap.size) := ⟨(Array.getElem?_eq_some_iff.1 HB2.out.2.2.2.1).1, hgl.2, hgl.1, hb3.size⟩
         obtain ⟨xb, hxb⟩ : ∃ xb, w3.heap.size = xb := ⟨_, rfl⟩
         clear HCP c0 c1 hrow hfn hfi hb3 hgl HB2
         obtain ⟨w4, hw4⟩ : ∃ z, z = (w3.alloc (.cells #[.slice (some ⟨g, 0, none⟩) t.nodes.length cp, .int .i64 t.next] 29)) := ⟨_, rfl⟩
         rw [← hw4] at HB4 HX4
         have HSZ : Hid (w4.heap.size = xb + 1) := by show _ = _; rw [hw4]; simp [hxb]
         rw [hxb] at HX4 HLO
         have hko := HB4.out.op.1
         by_cases hk : o.kind = 2
         · have HKK : Hid ((2 : Int) = if o.kind = 2 then 2 else 1) := by show _ = _; rw [if_pos hk]
           rw [hk] at hko
           rw [hw4] at hko
           go_upto_region 12 with fail
           rw [← hw4]
           clear hw4 hko
           obtain ⟨hfd', hfe⟩ := HFE.out
           have a5 := row_at5 HX4.out.2.1 hfd'
           rw [hfe] at a5
           obtain ⟨hv1, hv2, hv3⟩ := HV.out
           obtain ⟨s0, s1, s2, s3, s4⟩ := a5
           rw [hv1] at s2
           rw [hv2] at s3
           rw [hv3] at s4
           have x0 := HX4.out.1.c.1
           have c1 := HB4.out.1.c.2
           have HWC : Hid (Calls Tryz.prog 86 #[.agg #[.int .i64 f.n.ino, .int .i64 f.n.kind, .slice do2 nd dc2, .slice mo' nm mc', .slice io' ni ic'], .string s, .int .i64 t.next] w4.drew fun e w' => ∃ xo xn xc yo yn yc, e = .returned (.agg #[.int .i64 f.n.ino, .int .i64 f.n.kind, .slice none 0 0, .slice xo xn xc, .slice yo yn yc]) ∧ Hid (FreshN w4.heap.size w' ⟨withB f.n s t.next, .slice none 0 0, .slice xo xn xc, .slice yo yn yc⟩ ∧ Below w4.heap.size w4 w') ∧
            w'.cell? ⟨xb, 0, none⟩ = some (.slice (some ⟨g, 0, none⟩) t.nodes.length cp) ∧ w'.cell? ⟨g, d * 5, none⟩ = some (.int .i64 f.n.ino) ∧ w'.cell? ⟨g, d * 5 + 1, none⟩ = some (.int .i64 f.n.kind) ∧ w'.cell? ⟨g, d * 5 + 2, none⟩ = some (.slice do2 nd dc2) ∧ w'.cell? ⟨g, d * 5 + 3, none⟩ = some (.slice mo' nm mc') ∧ w'.cell? ⟨g, d * 5 + 4, none⟩ = some (.slice io' ni ic') ∧ ∀ j, w'.frozen? ⟨g, j, none⟩ = false) := by
            have hfw : f.is w4.drew := by rw [← hfe]; exact (HG.out.2.2.1 _ (List.getElem_mem hfd')).below HB4.out.2.2.2.2.drew
            have h9 := with_any f s t.next w4.drew hfw HLN.out.1 HLN.out.2
            unfold FN.val at h9
            rw [hv1, hv2, hv3] at h9
            refine h9.mono ?_
            rintro e5 w5 ⟨X, Y, rfl, hi5, hx5, hy5, hb5'⟩
            have hb5 : Below w4.heap.size w4 w5 := bel2v (Below.refl _ _).drew hb5'
            have hX5 := HX4.out.below hb5
            have b5 := row_at5 hX5.2.1 hfd'
            rw [hfe] at b5
            obtain ⟨u0, u1, u2, u3, u4⟩ := b5
            rw [hv1] at u2
            rw [hv2] at u3
            rw [hv3] at u4
            obtain ⟨xo, xc, hX, _⟩ := hi5.2.1
            obtain ⟨yo, yc, hY, _⟩ := hi5.2.2
            exact ⟨xo, _, xc, yo, _, yc, by rw [← hX, ← hY], ⟨⟨by rw [← hX, ← hY]; exact hi5, fresh_nil _ _ _, by rw [← hX]; exact hx5, by rw [← hY]; exact hy5⟩, hb5⟩, hX5.1.c.1, u0, u1, u2, u3, u4, fun j => hX5.2.1.frozenAt j⟩
           clear hv1 hv2 hv3 hfe
           go_cut [] (fun wx => ∃ xo xn xc yo yn yc w5, wx = set5 w5 g (d * 5) ⟨withB f.n s t.next, .slice none 0 0, .slice xo xn xc, .slice yo yn yc⟩ ∧ Hid (FreshN w4.heap.size w5 ⟨withB f.n s t.next, .slice none 0 0, .slice xo xn xc, .slice yo yn yc⟩ ∧ Below w4.heap.size w4 w5))
           case first =>
            go_region_with (go_at_call 86; refine HWC.out.mono ?_; rintro e5 w5 ⟨xo, xn, xc, yo, yn, yc, rfl, H5, k0, k1, k2, k3, k4, k5, kz⟩)
            all_goals (
             go_wp2_with fail
             go_meet
             case rel => exact ⟨xo, xn, xc, yo, yn, yc, w5, rfl, H5⟩)
           case rest =>
            obtain ⟨xo, xn, xc, yo, yn, yc, w5, rfl, H5⟩ := hcut
            have hnd' : d < fs.length := hfd'
            obtain ⟨f', hf'⟩ : ∃ f' : FN, f' = ⟨withB f.n s t.next, .slice none 0 0, .slice xo xn xc, .slice yo yn yc⟩ := ⟨_, rfl⟩
            rw [← hf'] at H5 ⊢
            obtain ⟨w6, hw6⟩ : ∃ z, z = set5 w5 g (d * 5) f' := ⟨_, rfl⟩
            have hgx : g < xb := HLO.out.2.1
            have HX6 : Hid (XT w2.heap.size w6 xb g t.nodes.length cp (.int .i64 t.next) (fs.set d f')) := by rw [hw6]; exact (HX4.out.below H5.out.2).set5 hnd' f'
            have HU6 : Hid (Upper w4.heap.size w5 w6) := by rw [hw6]; exact set5_upper w5 (by have := HSZ.out; omega) _ _
            have HB6 : Hid (Bx w w6 (.slice (some ⟨b, off, none⟩) t.nodes.length cap) (.int .i64 t.next) o (.slice do' dn dc)) := by
             have h5 := HB4.out.below H5.out.2
             have hl4 := HLO.out.1
             have hg2 := HLO.out.2.2.1
             rw [hw6]
             exact ⟨(set5_heap _ _ _ _ (by omega)).trans h5.1, (set5_heap _ _ _ _ (by omega)).trans h5.2.1, (set5_heap _ _ _ _ (by omega)).trans h5.2.2.1, (set5_heap _ _ _ _ (by omega)).trans h5.2.2.2.1, set5_below h5.2.2.2.2 (by omega) _ _⟩
            have HS6 : Hid (w5.heap.size = w6.heap.size ∧ w4.heap.size ≤ w5.heap.size) := ⟨by rw [hw6, set5_size], H5.out.2.size⟩
            have HF6 : Hid (FreshN w4.heap.size w6 f' ∧ f'.n = withB f.n s t.next) := ⟨H5.out.1.upper HU6.out, by rw [hf']⟩
            rw [← hw6]
            clear hw6 hf' H5 HU6 HB4 HX4 HWC hnd' s0 s1 s2 s3 s4 x0 c1
            have x0 := HX6.out.1.c.1
            have x1 := HX6.out.1.c.2
            have xz := HX6.out.1.fz
            have xl := HX6.out.1.lt
            have c1 := HB6.out.1.c.2
            have cl := HB6.out.1.lt
            have HLT : Hid (w2.heap.size ≤ w6.heap.size) := by have h1 := HS6.out; have h2 := HSZ.out; have h3 := HLO.out; show _ ≤ _; omega
            have HOW : Hid ((w6.alloc (.cells #[.int .i64 t.next, .int .i64 2, .slice none 0 0, .slice none 0 0, .slice none 0 0] 60)).ownsRow w2.heap.size 60 5 (.slice (some ⟨g, 0, none⟩) t.nodes.length cp) t.nodes.length (flat (fs.set d f'))) := HX6.out.2.1.alloc _
            have HCL : Hid (∀ (j : Nat) u, [Value.int .i64 t.next, .int .i64 2, .slice none 0 0, .slice none 0 0, .slice none 0 0][j]? = some u → (w6.alloc (.cells #[.int .i64 t.next, .int .i64 2, .slice none 0 0, .slice none 0 0, .slice none 0 0] 60)).cell? ((⟨w6.heap.size, 0, none⟩ : Addr).add j) = some u) := lit5 w6 _ _ _ _ _
            go_wp2_with (at_builtin; refine wpList_appS Tryz.underlying27 infoN rfl (by decide) (by rfl) _ _ (by rfl) w2.heap.size (.slice (some ⟨g, 0, none⟩) t.nodes.length cp) t.nodes.length (flat (fs.set d f')) (by rfl) HOW.out ⟨w6.heap.size, 0, none⟩ 1 1 [.int .i64 t.next, .int .i64 2, .slice none 0 0, .slice none 0 0, .slice none 0 0] (by rfl) (by rfl) HCL.out (one5 _ _ _ _ _ _ _ _ _ _ _) (by unfold maxLen; omega) (by omega) (by have := HLT.out; simp; omega) ?_)
            intro v7 w7 hr7 hg7
            obtain ⟨g2, cp2, rfl⟩ := own_some hr7 (by omega)
            have hXa := HX6.out.below ((Below.refl _ _).alloc (Nat.le_refl _) (.cells #[.int .i64 t.next, .int .i64 2, .slice none 0 0, .slice none 0 0, .slice none 0 0] 60))
            have hm7 := hXa.1.grown hg7 (by intro e; injection e with e; exact hXa.2.2.1 e.symm)
            have hX7 := XT.grow (f := bareF t.next 2) hXa hg7 hr7
            have HB7 : Hid (Below (w.heap.size + 4) w6 w7) := ((Below.refl _ _).alloc (by have h1 := HLO.out.1; have h2 := HLT.out; omega) _).grown hg7 (by have h1 := HLO.out.1; have h2 := HLT.out; simp; omega) (fun k e => by
             have e3 : g = k := by simpa [Value.ownBlock] using e
             have h1 := HLO.out
             omega)
            have HU7 : Hid (Upper w4.heap.size w6 w7) := (upper_below ((Below.refl _ _).alloc (Nat.le_refl _) _)).trans (upper_grown hg7 hg7.size (fun k e => by
             have e3 : g = k := by simpa [Value.ownBlock] using e
             have h1 := HSZ.out
             omega))
            have x0' := hm7.c.1
            have x1' := hm7.c.2
            have xz' := hm7.fz
            have xl' := hm7.lt
            have nxb : t.next ≤ 1099511627775 := by omega
            have nx0 : 0 ≤ t.next := by have := HG.out.1.e.pos _ (nodeAt_mem HG.out.1.e.root0.1); have := HG.out.1.e.below _ (nodeAt_mem HG.out.1.e.root0.1); omega
            have HX8 : Hid (XT w2.heap.size ((w7.setCell ⟨xb, 0, none⟩ (.slice (some ⟨g2, 0, none⟩) (t.nodes.length + 1) cp2)).setCell ⟨xb, 1, none⟩ (.int .i64 (t.next + 1))) xb g2 (t.nodes.length + 1) cp2 (.int .i64 (t.next + 1)) (fs.set d f' ++ [bareF t.next 2])) := hX7.next _
            obtain ⟨W8, hW8⟩ : ∃ z, z = (w7.setCell ⟨xb, 0, none⟩ (.slice (some ⟨g2, 0, none⟩) (t.nodes.length + 1) cp2)).setCell ⟨xb, 1, none⟩ (.int .i64 (t.next + 1)) := ⟨_, rfl⟩
            have HB8 : Hid (Below (w.heap.size + 4) w6 W8) := by
             have h1 : w.heap.size + 4 ≤ xb := by have h1 := HLO.out; omega
             rw [hW8]; exact (HB7.out.setCell (by exact h1) _).setCell (by exact h1) _
            have HU8 : Hid (Upper w4.heap.size w6 W8) := by
             have h1 : xb < w4.heap.size := by have h1 := HSZ.out; omega
             rw [hW8]; exact (HU7.out.trans (upper_set _ h1 _)).trans (upper_set _ h1 _)
            rw [← hW8] at HX8
            have HBX : Hid (Bx w W8 (.slice (some ⟨b, off, none⟩) t.nodes.length cap) (.int .i64 t.next) o (.slice do' dn dc)) := ⟨(HB8.out.block _ (by omega)).trans HB6.out.1, (HB8.out.block _ (by omega)).trans HB6.out.2.1, (HB8.out.block _ (by omega)).trans HB6.out.2.2.1, (HB8.out.block _ (by omega)).trans HB6.out.2.2.2.1, HB6.out.2.2.2.2.trans (HB8.out.mono (by omega))⟩
            clear x0 x1 xz xl c1 cl HOW HCL hr7 hg7 hXa hX7 HB7 HU7
            go_upto_region 15 with fail
            rw [← hW8]
            clear hW8 x0' x1' xz' xl' hm7
            have hB := HBX.out
            obtain ⟨c0, c1⟩ := hB.1.c
            obtain ⟨r0, r1⟩ := hB.2.2.1.c
            have z0 := hB.2.2.1.fz 0
            have z1 := hB.2.2.1.fz 1
            obtain ⟨s0, s1, s2, s3, s4, s5, s6, s7, sz⟩ := hB.re
            obtain ⟨y0, y1⟩ := HX8.out.1.c
            clear hB
            go_region
            go_wp2
            refine bodyPost_ret (v := .tuple #[.agg #[.slice (some ⟨g2, 0, none⟩) (t.nodes.length + 1) cp2, .int .i64 (t.next + 1)], .agg #[.int .i64 t.next, .int .i64 0, .int .i64 0, .int .i64 0, .int .i64 0, .slice none 0 0, .slice none 0 0, .slice none 0 0], .int .i64 0]) (by simp [results, Tryz.results48, go_sem, *]) rfl ?_
            obtain ⟨WF, hWF⟩ : ∃ z, z = (outW W8 w.heap.size (.slice (some ⟨g2, 0, none⟩) (t.nodes.length + 1) cp2) (.int .i64 (t.next + 1)) (.int .i64 t.next) (.int .i64 0) (.int .i64 0) (.int .i64 0) (.int .i64 0) (.slice none 0 0) (.slice none 0 0) (.slice none 0 0)).drew := ⟨_, rfl⟩
            have HFF : Hid (Below w.heap.size w WF ∧ Upper w4.heap.size W8 WF ∧ WF.ownsRow w2.heap.size 60 5 (.slice (some ⟨g2, 0, none⟩) (t.nodes.length + 1) cp2) (t.nodes.length + 1) (flat (fs.set d f' ++ [bareF t.next 2]))) := by
             rw [hWF]
             exact makes_out (.slice (some ⟨g2, 0, none⟩) (t.nodes.length + 1) cp2) (.int .i64 (t.next + 1)) (.int .i64 t.next) (.int .i64 0) (.int .i64 0) (.int .i64 0) (.int .i64 0) (.slice none 0 0) (.slice none 0 0) (.slice none 0 0) HBX.out.2.2.2.2 (by have h1 := HLO.out; have h2 := HSZ.out; omega) HLO.out.1 HX8.out.2.1
            have HR2 : Hid (makesB t o = (⟨t.nodes.set d f'.n ++ [⟨t.next, 2, [], [], []⟩], t.next + 1⟩, ⟨t.next, 0, 0, 0, 0, [], [], []⟩, 0)) := by
             show _ = _
             rw [HR.out, HF6.out.2, ← HKK.out]
             rfl
            unfold outW at hWF
            rw [← hWF, HR2.out]
            clear hWF
            exact ⟨_, _, rfl, makes_end hl HG.out.2.1 HG.out.1.e.size HG.out.2.2.1 ((HF6.out.1.upper HU8.out).upper HFF.out.2.1).1 (fresh_le ((HF6.out.1.upper HU8.out).upper HFF.out.2.1).2.2.2 (by have h1 := HLO.out; have h2 := HSZ.out; omega)) (good_fresh HG.out.1) HFF.out.1 HFF.out.2.2, replyAt_no' _ t.next 0 0 0 0, HFF.out.1⟩
         · have HKK : Hid ((1 : Int) = if o.kind = 2 then 2 else 1) := by show _ = _; rw [if_neg hk]
           have hke : (o.kind == 2) = false := beq_eq_false_iff_ne.2 hk
           rw [hw4] at hko
           go_upto_region 12 with fail
           rw [← hw4]
           clear hw4 hko
           obtain ⟨hfd', hfe⟩ := HFE.out
           have a5 := row_at5 HX4.out.2.1 hfd'
           rw [hfe] at a5
           obtain ⟨hv1, hv2, hv3⟩ := HV.out
           obtain ⟨s0, s1, s2, s3, s4⟩ := a5
           rw [hv1] at s2
           rw [hv2] at s3
           rw [hv3] at s4
           have x0 := HX4.out.1.c.1
           have c1 := HB4.out.1.c.2
           have HWC : Hid (Calls Tryz.prog 86 #[.agg #[.int .i64 f.n.ino, .int .i64 f.n.kind, .slice do2 nd dc2, .slice mo' nm mc', .slice io' ni ic'], .string s, .int .i64 t.next] w4.drew fun e w' => ∃ xo xn xc yo yn yc, e = .returned (.agg #[.int .i64 f.n.ino, .int .i64 f.n.kind, .slice none 0 0, .slice xo xn xc, .slice yo yn yc]) ∧ Hid (FreshN w4.heap.size w' ⟨withB f.n s t.next, .slice none 0 0, .slice xo xn xc, .slice yo yn yc⟩ ∧ Below w4.heap.size w4 w') ∧
            w'.cell? ⟨xb, 0, none⟩ = some (.slice (some ⟨g, 0, none⟩) t.nodes.length cp) ∧ w'.cell? ⟨g, d * 5, none⟩ = some (.int .i64 f.n.ino) ∧ w'.cell? ⟨g, d * 5 + 1, none⟩ = some (.int .i64 f.n.kind) ∧ w'.cell? ⟨g, d * 5 + 2, none⟩ = some (.slice do2 nd dc2) ∧ w'.cell? ⟨g, d * 5 + 3, none⟩ = some (.slice mo' nm mc') ∧ w'.cell? ⟨g, d * 5 + 4, none⟩ = some (.slice io' ni ic') ∧ ∀ j, w'.frozen? ⟨g, j, none⟩ = false) := by
            have hfw : f.is w4.drew := by rw [← hfe]; exact (HG.out.2.2.1 _ (List.getElem_mem hfd')).below HB4.out.2.2.2.2.drew
            have h9 := with_any f s t.next w4.drew hfw HLN.out.1 HLN.out.2
            unfold FN.val at h9
            rw [hv1, hv2, hv3] at h9
            refine h9.mono ?_
            rintro e5 w5 ⟨X, Y, rfl, hi5, hx5, hy5, hb5'⟩
            have hb5 : Below w4.heap.size w4 w5 := bel2v (Below.refl _ _).drew hb5'
            have hX5 := HX4.out.below hb5
            have b5 := row_at5 hX5.2.1 hfd'
            rw [hfe] at b5
            obtain ⟨u0, u1, u2, u3, u4⟩ := b5
            rw [hv1] at u2
            rw [hv2] at u3
            rw [hv3] at u4
            obtain ⟨xo, xc, hX, _⟩ := hi5.2.1
            obtain ⟨yo, yc, hY, _⟩ := hi5.2.2
            exact ⟨xo, _, xc, yo, _, yc, by rw [← hX, ← hY], ⟨⟨by rw [← hX, ← hY]; exact hi5, fresh_nil _ _ _, by rw [← hX]; exact hx5, by rw [← hY]; exact hy5⟩, hb5⟩, hX5.1.c.1, u0, u1, u2, u3, u4, fun j => hX5.2.1.frozenAt j⟩
           clear hv1 hv2 hv3 hfe
           go_cut [] (fun wx => ∃ xo xn xc yo yn yc w5, wx = set5 w5 g (d * 5) ⟨withB f.n s t.next, .slice none 0 0, .slice xo xn xc, .slice yo yn yc⟩ ∧ Hid (FreshN w4.heap.size w5 ⟨withB f.n s t.next, .slice none 0 0, .slice xo xn xc, .slice yo yn yc⟩ ∧ Below w4.heap.size w4 w5))
           case first =>
            go_region_with (go_at_call 86; refine HWC.out.mono ?_; rintro e5 w5 ⟨xo, xn, xc, yo, yn, yc, rfl, H5, k0, k1, k2, k3, k4, k5, kz⟩)
            all_goals (
             go_wp2_with fail
             go_meet
             case rel => exact ⟨xo, xn, xc, yo, yn, yc, w5, rfl, H5⟩)
           case rest =>
            obtain ⟨xo, xn, xc, yo, yn, yc, w5, rfl, H5⟩ := hcut
            have hnd' : d < fs.length := hfd'
            obtain ⟨f', hf'⟩ : ∃ f' : FN, f' = ⟨withB f.n s t.next, .slice none 0 0, .slice xo xn xc, .slice yo yn yc⟩ := ⟨_, rfl⟩
            rw [← hf'] at H5 ⊢
            obtain ⟨w6, hw6⟩ : ∃ z, z = set5 w5 g (d * 5) f' := ⟨_, rfl⟩
            have hgx : g < xb := HLO.out.2.1
            have HX6 : Hid (XT w2.heap.size w6 xb g t.nodes.length cp (.int .i64 t.next) (fs.set d f')) := by rw [hw6]; exact (HX4.out.below H5.out.2).set5 hnd' f'
            have HU6 : Hid (Upper w4.heap.size w5 w6) := by rw [hw6]; exact set5_upper w5 (by have := HSZ.out; omega) _ _
            have HB6 : Hid (Bx w w6 (.slice (some ⟨b, off, none⟩) t.nodes.length cap) (.int .i64 t.next) o (.slice do' dn dc)) := by
             have h5 := HB4.out.below H5.out.2
             have hl4 := HLO.out.1
             have hg2 := HLO.out.2.2.1
             rw [hw6]
             exact ⟨(set5_heap _ _ _ _ (by omega)).trans h5.1, (set5_heap _ _ _ _ (by omega)).trans h5.2.1, (set5_heap _ _ _ _ (by omega)).trans h5.2.2.1, (set5_heap _ _ _ _ (by omega)).trans h5.2.2.2.1, set5_below h5.2.2.2.2 (by omega) _ _⟩
            have HS6 : Hid (w5.heap.size = w6.heap.size ∧ w4.heap.size ≤ w5.heap.size) := ⟨by rw [hw6, set5_size], H5.out.2.size⟩
            have HF6 : Hid (FreshN w4.heap.size w6 f' ∧ f'.n = withB f.n s t.next) := ⟨H5.out.1.upper HU6.out, by rw [hf']⟩
            rw [← hw6]
            clear hw6 hf' H5 HU6 HB4 HX4 HWC hnd' s0 s1 s2 s3 s4 x0 c1
            have x0 := HX6.out.1.c.1
            have x1 := HX6.out.1.c.2
            have xz := HX6.out.1.fz
            have xl := HX6.out.1.lt
            have c1 := HB6.out.1.c.2
            have cl := HB6.out.1.lt
            have HLT : Hid (w2.heap.size ≤ w6.heap.size) := by have h1 := HS6.out; have h2 := HSZ.out; have h3 := HLO.out; show _ ≤ _; omega
            have HOW : Hid ((w6.alloc (.cells #[.int .i64 t.next, .int .i64 1, .slice none 0 0, .slice none 0 0, .slice none 0 0] 60)).ownsRow w2.heap.size 60 5 (.slice (some ⟨g, 0, none⟩) t.nodes.length cp) t.nodes.length (flat (fs.set d f'))) := HX6.out.2.1.alloc _
            have HCL : Hid (∀ (j : Nat) u, [Value.int .i64 t.next, .int .i64 1, .slice none 0 0, .slice none 0 0, .slice none 0 0][j]? = some u → (w6.alloc (.cells #[.int .i64 t.next, .int .i64 1, .slice none 0 0, .slice none 0 0, .slice none 0 0] 60)).cell? ((⟨w6.heap.size, 0, none⟩ : Addr).add j) = some u) := lit5 w6 _ _ _ _ _
            go_wp2_with (at_builtin; refine wpList_appS Tryz.underlying27 infoN rfl (by decide) (by rfl) _ _ (by rfl) w2.heap.size (.slice (some ⟨g, 0, none⟩) t.nodes.length cp) t.nodes.length (flat (fs.set d f')) (by rfl) HOW.out ⟨w6.heap.size, 0, none⟩ 1 1 [.int .i64 t.next, .int .i64 1, .slice none 0 0, .slice none 0 0, .slice none 0 0] (by rfl) (by rfl) HCL.out (one5 _ _ _ _ _ _ _ _ _ _ _) (by unfold maxLen; omega) (by omega) (by have := HLT.out; simp; omega) ?_)
            intro v7 w7 hr7 hg7
            obtain ⟨g2, cp2, rfl⟩ := own_some hr7 (by omega)
            have hXa := HX6.out.below ((Below.refl _ _).alloc (Nat.le_refl _) (.cells #[.int .i64 t.next, .int .i64 1, .slice none 0 0, .slice none 0 0, .slice none 0 0] 60))
            have hm7 := hXa.1.grown hg7 (by intro e; injection e with e; exact hXa.2.2.1 e.symm)
            have hX7 := XT.grow (f := bareF t.next 1) hXa hg7 hr7
            have HB7 : Hid (Below (w.heap.size + 4) w6 w7) := ((Below.refl _ _).alloc (by have h1 := HLO.out.1; have h2 := HLT.out; omega) _).grown hg7 (by have h1 := HLO.out.1; have h2 := HLT.out; simp; omega) (fun k e => by
             have e3 : g = k := by simpa [Value.ownBlock] using e
             have h1 := HLO.out
             omega)
            have HU7 : Hid (Upper w4.heap.size w6 w7) := (upper_below ((Below.refl _ _).alloc (Nat.le_refl _) _)).trans (upper_grown hg7 hg7.size (fun k e => by
             have e3 : g = k := by simpa [Value.ownBlock] using e
             have h1 := HSZ.out
             omega))
            have x0' := hm7.c.1
            have x1' := hm7.c.2
            have xz' := hm7.fz
            have xl' := hm7.lt
            have nxb : t.next ≤ 1099511627775 := by omega
            have nx0 : 0 ≤ t.next := by have := HG.out.1.e.pos _ (nodeAt_mem HG.out.1.e.root0.1); have := HG.out.1.e.below _ (nodeAt_mem HG.out.1.e.root0.1); omega
            have HX8 : Hid (XT w2.heap.size ((w7.setCell ⟨xb, 0, none⟩ (.slice (some ⟨g2, 0, none⟩) (t.nodes.length + 1) cp2)).setCell ⟨xb, 1, none⟩ (.int .i64 (t.next + 1))) xb g2 (t.nodes.length + 1) cp2 (.int .i64 (t.next + 1)) (fs.set d f' ++ [bareF t.next 1])) := hX7.next _
            obtain ⟨W8, hW8⟩ : ∃ z, z = (w7.setCell ⟨xb, 0, none⟩ (.slice (some ⟨g2, 0, none⟩) (t.nodes.length + 1) cp2)).setCell ⟨xb, 1, none⟩ (.int .i64 (t.next + 1)) := ⟨_, rfl⟩
            have HB8 : Hid (Below (w.heap.size + 4) w6 W8) := by
             have h1 : w.heap.size + 4 ≤ xb := by have h1 := HLO.out; omega
             rw [hW8]; exact (HB7.out.setCell (by exact h1) _).setCell (by exact h1) _
            have HU8 : Hid (Upper w4.heap.size w6 W8) := by
             have h1 : xb < w4.heap.size := by have h1 := HSZ.out; omega
             rw [hW8]; exact (HU7.out.trans (upper_set _ h1 _)).trans (upper_set _ h1 _)
            rw [← hW8] at HX8
            have HBX : Hid (Bx w W8 (.slice (some ⟨b, off, none⟩) t.nodes.length cap) (.int .i64 t.next) o (.slice do' dn dc)) := ⟨(HB8.out.block _ (by omega)).trans HB6.out.1, (HB8.out.block _ (by omega)).trans HB6.out.2.1, (HB8.out.block _ (by omega)).trans HB6.out.2.2.1, (HB8.out.block _ (by omega)).trans HB6.out.2.2.2.1, HB6.out.2.2.2.2.trans (HB8.out.mono (by omega))⟩
            clear x0 x1 xz xl c1 cl HOW HCL hr7 hg7 hXa hX7 HB7 HU7
            go_upto_region 15 with fail
            rw [← hW8]
            clear hW8 x0' x1' xz' xl' hm7
            have hB := HBX.out
            obtain ⟨c0, c1⟩ := hB.1.c
            obtain ⟨r0, r1⟩ := hB.2.2.1.c
            have z0 := hB.2.2.1.fz 0
            have z1 := hB.2.2.1.fz 1
            obtain ⟨s0, s1, s2, s3, s4, s5, s6, s7, sz⟩ := hB.re
            obtain ⟨y0, y1⟩ := HX8.out.1.c
            clear hB
            go_region
            go_wp2
            refine bodyPost_ret (v := .tuple #[.agg #[.slice (some ⟨g2, 0, none⟩) (t.nodes.length + 1) cp2, .int .i64 (t.next + 1)], .agg #[.int .i64 t.next, .int .i64 0, .int .i64 0, .int .i64 0, .int .i64 0, .slice none 0 0, .slice none 0 0, .slice none 0 0], .int .i64 0]) (by simp [results, Tryz.results48, go_sem, *]) rfl ?_
            obtain ⟨WF, hWF⟩ : ∃ z, z = (outW W8 w.heap.size (.slice (some ⟨g2, 0, none⟩) (t.nodes.length + 1) cp2) (.int .i64 (t.next + 1)) (.int .i64 t.next) (.int .i64 0) (.int .i64 0) (.int .i64 0) (.int .i64 0) (.slice none 0 0) (.slice none 0 0) (.slice none 0 0)).drew := ⟨_, rfl⟩
            have HFF : Hid (Below w.heap.size w WF ∧ Upper w4.heap.size W8 WF ∧ WF.ownsRow w2.heap.size 60 5 (.slice (some ⟨g2, 0, none⟩) (t.nodes.length + 1) cp2) (t.nodes.length + 1) (flat (fs.set d f' ++ [bareF t.next 1]))) := by
             rw [hWF]
             exact makes_out (.slice (some ⟨g2, 0, none⟩) (t.nodes.length + 1) cp2) (.int .i64 (t.next + 1)) (.int .i64 t.next) (.int .i64 0) (.int .i64 0) (.int .i64 0) (.int .i64 0) (.slice none 0 0) (.slice none 0 0) (.slice none 0 0) HBX.out.2.2.2.2 (by have h1 := HLO.out; have h2 := HSZ.out; omega) HLO.out.1 HX8.out.2.1
            have HR2 : Hid (makesB t o = (⟨t.nodes.set d f'.n ++ [⟨t.next, 1, [], [], []⟩], t.next + 1⟩, ⟨t.next, 0, 0, 0, 0, [], [], []⟩, 0)) := by
             show _ = _
             rw [HR.out, HF6.out.2, ← HKK.out]
             rfl
            unfold outW at hWF
            rw [← hWF, HR2.out]
            clear hWF
            exact ⟨_, _, rfl, makes_end hl HG.out.2.1 HG.out.1.e.size HG.out.2.2.1 ((HF6.out.1.upper HU8.out).upper HFF.out.2.1).1 (fresh_le ((HF6.out.1.upper HU8.out).upper HFF.out.2.1).2.2.2 (by have h1 := HLO.out; have h2 := HSZ.out; omega)) (good_fresh HG.out.1) HFF.out.1 HFF.out.2.2, replyAt_no' _ t.next 0 0 0 0, HFF.out.1⟩
   · have hxe : (x == 0) = false := beq_eq_false_iff_ne.2 hx0
     have hxe2 : (x != 0) = true := by simp [hx0]
     have HR : Hid (makesB t o = (t, noReply, 6)) := by show _ = _; rw [HM2.out, if_pos hx0]
     have hB := HB2.out
     obtain ⟨c0, c1⟩ := hB.1.c
     obtain ⟨r0, r1⟩ := hB.2.2.1.c
     have z0 := hB.2.2.1.fz 0
     have z1 := hB.2.2.1.fz 1
     obtain ⟨s0, s1, s2, s3, s4, s5, s6, s7, sz⟩ := hB.re
     clear HM2 hx0 hB
     go_wp2
     refine bodyPost_ret (v := .tuple #[.agg #[.slice (some ⟨b, off, none⟩) t.nodes.length cap, .int .i64 t.next], .agg #[.int .i64 0, .int .i64 0, .int .i64 0, .int .i64 0, .int .i64 0, .slice none 0 0, .slice none 0 0, .slice none 0 0], .int .i64 6]) (by simp [results, Tryz.results48, go_sem, *]) rfl ?_
     rw [HR.out]
     exact ⟨_, _, rfl, treeN_old (HT.out.below (out_below _ _ _ _ _ _ _ _ _ _ HB2.out.2.2.2.2)) HG.out.1 rfl, replyAt_no _, out_below _ _ _ _ _ _ _ _ _ _ HB2.out.2.2.2.2⟩
end Go.Proofs.YtbebgobboccjcaaGreatDoor
