/- dolmenref5.removes: what one call answers. -/
import Derived.Test.YtbebgobboccjcaaGreatDoorH5
import Derived.Test.YtbebgobboccjcaaGreatDoorH1
import Derived.Test.YtbebgobboccjcaaGreatDoorH2
import Derived.Deep.DeepCutAuto
import Derived.Deep.CutRange
namespace Go.Proofs.YtbebgobboccjcaaGreatDoor
open Go.RowKit Kit
set_option linter.unusedVariables false

theorem fair_sum {x : TreeB} (h : Fair x) (i : Int) : (x.nodes.map fun n => countB n i).sum = kidsB x i := by
 unfold kidsB
 congr 1
 exact List.map_congr_left fun n hn => countB_eq (h.each n hn) i
set_option maxRecDepth 4000 in
set_option maxHeartbeats 40000000 in
theorem removes_any (v ov : Value) (t : TreeB) (o : OpB) (w : World) (hT : TreeAt w v t) (hg : Good t) (ho : OpAt w ov o) (hk : o.kind = 3 ∨ o.kind = 4) :
 Calls Tryz.prog 49 #[v, ov] w fun e w' => ∃ tv rv, e = .returned (.tuple #[tv, rv, .int .i64 (removesB t o).2.2]) ∧ TreeAt w' tv (removesB t o).1 ∧ ReplyAt w' rv (removesB t o).2.1 ∧ Below w.heap.size w w' := by
 have HT : Hid (TreeAt w v t) := hT
 obtain ⟨fs, hF⟩ : ∃ fs, TreeG w v t fs := by obtain ⟨sv, fs, h⟩ := hT; exact ⟨fs, sv, h⟩
 have HTF : Hid (TreeG w v t fs) := hF
 obtain ⟨ao, cap, rfl, q1, q2, q3, q4, q5⟩ := hF.opened
 obtain ⟨dv, rfl, ho1, ho2, ho3, ho4⟩ := ho
 obtain ⟨b, off, rfl, hb, hc⟩ := q5 hg.e.root0.1
 have hl := fs_len q3
 have lm : (t.nodes.length : Int) ≤ 60 := by have := hg.e.size; omega
 obtain ⟨do', dc, hdv, _⟩ := ho1
 obtain ⟨dn, hdn⟩ : ∃ n, (intsV .u8 o.data).length = n := ⟨_, rfl⟩
 rw [hdn] at hdv
 subst hdv
 have HG : Hid (Good t ∧ fs.map FN.n = t.nodes ∧ (∀ f ∈ fs, f.is w) ∧ b < w.heap.size ∧ ∀ k (hk : k < fs.length), At5 w b (off + k * 5) fs[k]) := ⟨hg, q3, q4, hb, hc⟩
 have HH : Hid (∀ W, Below w.heap.size w W → Calls Tryz.prog 83 #[.agg #[.slice (some ⟨b, off, none⟩) t.nodes.length cap, .int .i64 t.next], .string o.path] W fun e w' => e = .returned (resH (homeB t o.path)) ∧ Below W.heap.size W w') := fun W hb => home_any _ t o.path W (HT.out.below hb) hg ho2
 have HPa : Hid (∀ W, Calls Tryz.prog 87 #[.string o.path] W fun e w' => e = .returned (.tuple #[.string (parentB o.path).1, .string (parentB o.path).2.1, .int .i64 (parentB o.path).2.2]) ∧ Below W.heap.size W w') := fun W => parent_any o.path W ho2
 have HFd : Hid (∀ W, Below w.heap.size w W → Calls Tryz.prog 53 #[.agg #[.slice (some ⟨b, off, none⟩) t.nodes.length cap, .int .i64 t.next], .string o.path] W fun e w' => e = .returned (resV (findB t o.path)) ∧ Below W.heap.size W w') := fun W hb => find_any _ t o.path W (HT.out.below hb) hg ho2
 clear q1 q2 q3 q4 q5 hT hF hb hc hg ho2 ho3 ho4 hdn
 unfold opV
 obtain ⟨w0, hw0⟩ : ∃ w0, w0 = ((((w.alloc (.cells #[.slice (some ⟨b, off, none⟩) t.nodes.length cap, .int .i64 t.next] 29)).alloc (.cells #[.int .i64 o.kind, .string o.path, .string o.to, .int .i64 o.off, .int .i64 o.n, .slice do' dn dc, .int .i64 o.snap] 35)).alloc (.cells #[.slice none 0 0, .int .i64 0] 29)).alloc (.cells #[.int .i64 0, .int .i64 0, .int .i64 0, .int .i64 0, .int .i64 0, .slice none 0 0, .slice none 0 0, .slice none 0 0] 40)) := ⟨_, rfl⟩
 have HB0 : Hid (Bx w w0 (.slice (some ⟨b, off, none⟩) t.nodes.length cap) (.int .i64 t.next) o (.slice do' dn dc)) := by rw [hw0]; exact bx_new w _ _ _ o
 have HM : Hid (removesB t o = if (parentB o.path).2.2 ≠ 0 then (t, noReply, (parentB o.path).2.2) else match findB t o.path with
  | .error e => (t, noReply, e)
  | .ok k => if o.kind = 3 ∧ (nodeAt t k).kind = 2 then (t, noReply, 7) else if o.kind = 4 ∧ (nodeAt t k).kind = 1 then (t, noReply, 8) else if o.kind = 4 ∧ 0 < (nodeAt t k).names.length then (t, noReply, 9)
    else match homeB t o.path with
    | .error _ => (t, noReply, 0)
    | .ok (d, s) => (sweptB (setB t d (withoutB (nodeAt t d) s)), noReply, 0)) := rfl
 go_enter Tryz.func49, Tryz.ntmps49
 go_wp2_with fail
 go_at_call 87
 rw [← hw0]
 refine (HPa.out w0).mono ?_
 rintro e w1 ⟨rfl, hb1⟩
 have HB1 : Hid (Bx w w1 (.slice (some ⟨b, off, none⟩) t.nodes.length cap) (.int .i64 t.next) o (.slice do' dn dc)) := HB0.out.below hb1
 clear HB0 hw0 hb1 HPa
 obtain ⟨x, hx⟩ : ∃ x, (parentB o.path).2.2 = x := ⟨_, rfl⟩
 obtain ⟨x1, hx1⟩ : ∃ x, (parentB o.path).1 = x := ⟨_, rfl⟩
 obtain ⟨x2, hx2⟩ : ∃ x, (parentB o.path).2.1 = x := ⟨_, rfl⟩
 have HP0 : Hid ((parentB o.path).2.2 = x) := hx
 rw [hx] at HM ⊢
 rw [hx1, hx2]
 clear hx hx1 hx2
 by_cases hx0 : x = 0
 · subst hx0
   have HM2 : Hid (removesB t o = match findB t o.path with
    | .error e => (t, noReply, e)
    | .ok k => if o.kind = 3 ∧ (nodeAt t k).kind = 2 then (t, noReply, 7) else if o.kind = 4 ∧ (nodeAt t k).kind = 1 then (t, noReply, 8) else if o.kind = 4 ∧ 0 < (nodeAt t k).names.length then (t, noReply, 9)
      else match homeB t o.path with
      | .error _ => (t, noReply, 0)
      | .ok (d, s) => (sweptB (setB t d (withoutB (nodeAt t d) s)), noReply, 0)) := by show _ = _; rw [HM.out, if_neg (by simp)]
   clear HM
   obtain ⟨c0, c1⟩ := HB1.out.1.c
   obtain ⟨p0, p1, p2, p3, p4, p5⟩ := HB1.out.op
   go_wp2_with fail
   go_at_call 53
   refine (HFd.out w1 HB1.out.2.2.2.2).mono ?_
   rintro e w2 ⟨rfl, hbw2⟩
   have HB2 : Hid (Bx w w2 (.slice (some ⟨b, off, none⟩) t.nodes.length cap) (.int .i64 t.next) o (.slice do' dn dc)) := HB1.out.below hbw2
   clear hbw2
   clear HB1 HFd c0 c1 p0 p1 p2 p3 p4 p5
   have hfc := fun x => find_code (t := t) (p := o.path) (x := x)
   have hfh := fun k => find_home HG.out.1.e HP0.out (k := k)
   obtain ⟨fm, hfm⟩ : ∃ z, findB t o.path = z := ⟨_, rfl⟩
   rw [hfm] at HM2 hfc hfh
   rw [hfm]
   cases fm with
   | error x =>
     have hx0 := hfc x rfl
     have hxn : x ≠ 0 := by omega
     have hxe : (x == 0) = false := beq_eq_false_iff_ne.2 hxn
     have hxe2 : (x != 0) = true := by simp [hxn]
     have HR : Hid (removesB t o = (t, noReply, x)) := HM2.out
     unfold resV
     have hB := HB2.out
     obtain ⟨c0, c1⟩ := hB.1.c
     obtain ⟨r0, r1⟩ := hB.2.2.1.c
     have z0 := hB.2.2.1.fz 0
     have z1 := hB.2.2.1.fz 1
     obtain ⟨s0, s1, s2, s3, s4, s5, s6, s7, sz⟩ := hB.re
     obtain ⟨p0, p1, p2, p3, p4, p5⟩ := hB.op
     clear hB HM2 hfm hfc hfh hx0 hxn
     go_wp2
     refine bodyPost_ret (v := .tuple #[.agg #[.slice (some ⟨b, off, none⟩) t.nodes.length cap, .int .i64 t.next], .agg #[.int .i64 0, .int .i64 0, .int .i64 0, .int .i64 0, .int .i64 0, .slice none 0 0, .slice none 0 0, .slice none 0 0], .int .i64 x]) (by simp [results, Tryz.results49, go_sem, *]) rfl ?_
     rw [HR.out]
     exact ⟨_, _, rfl, HT.out.below (out_below _ _ _ _ _ _ _ _ _ _ HB2.out.2.2.2.2), replyAt_no _, out_below _ _ _ _ _ _ _ _ _ _ HB2.out.2.2.2.2⟩
   | ok k =>
     have hkl : k < t.nodes.length := (find_ok HG.out.1.e hfm).2.2
     obtain ⟨d, s, l, hh, hsl, hwl, hdl, hdk, hni, hn0⟩ := hfh k rfl
     have HM3 : Hid (removesB t o = if o.kind = 3 ∧ (nodeAt t k).kind = 2 then (t, noReply, 7) else if o.kind = 4 ∧ (nodeAt t k).kind = 1 then (t, noReply, 8) else if o.kind = 4 ∧ 0 < (nodeAt t k).names.length then (t, noReply, 9)
      else (sweptB (setB t d (withoutB (nodeAt t d) s)), noReply, 0)) := by
      show _ = _
      have h9 := HM2.out
      rw [hh] at h9
      exact h9
     have HHM : Hid (homeB t o.path = .ok (d, s) ∧ d < t.nodes.length ∧ (nodeAt t d).kind = 2 ∧ nameB (nodeAt t d) s ≠ 0) := ⟨hh, hdl, hdk, hn0⟩
     have hfk : k < fs.length := by omega
     have a5 := At5.below (HG.out.2.2.2.2 k hfk) HG.out.2.2.2.1 HB2.out.2.2.2.2
     have hnk : nodeAt t k = fs[k].n := fs_at HG.out.2.1 hfk
     have hfis : fs[k].is w := HG.out.2.2.1 _ (List.getElem_mem hfk)
     obtain ⟨kd, hkd⟩ : ∃ z, (nodeAt t k).kind = z := ⟨_, rfl⟩
     obtain ⟨nl, hnl⟩ : ∃ z, (nodeAt t k).names.length = z := ⟨_, rfl⟩
     have HKD : Hid (kd = 1 ∨ kd = 2) := by rw [← hkd]; exact HG.out.1.e.fair.kind (nodeAt_mem hkl)
     have nl1 : nl ≤ 1200 := by rw [← hnl]; exact (names_smallT HG.out.1.e (nodeAt_mem hkl)).1
     rw [hkd, hnl] at HM3
     obtain ⟨_, y1, _, y3, _⟩ := a5
     rw [← hnk, hkd] at y1
     obtain ⟨mo, mc, hmv, _⟩ := hfis.2.1
     rw [hmv] at y3
     rw [strs_len, ← hnk, hnl] at y3
     have j0 : (k : Int) < (t.nodes.length : Int) := by omega
     have j1 : (0 : Int) ≤ (k : Int) := by omega
     have bl : b < w2.heap.size := Nat.lt_of_lt_of_le HG.out.2.2.2.1 HB2.out.2.2.2.2.size
     have hko := HB2.out.op.1
     obtain ⟨c0, c1⟩ := HB2.out.1.c
     unfold resV
     clear HM2 hfc hfh hh hsl hwl hdl hdk hni hn0 hnk hfis hmv hfm hkl
     have HGO : Hid (¬ (o.kind = 3 ∧ kd = 2) → ¬ (o.kind = 4 ∧ kd = 1) → ¬ (o.kind = 4 ∧ 0 < nl) → removesB t o = (sweptB (setB t d (withoutB (nodeAt t d) s)), noReply, 0)) := fun h1 h2 h3 => by rw [HM3.out, if_neg h1, if_neg h2, if_neg h3]
     rcases hk with hk3 | hk4
     · rw [hk3] at hko
       by_cases hd2 : kd = 2
       · subst hd2
         have HR : Hid (removesB t o = (t, noReply, 7)) := by show _ = _; rw [HM3.out, if_pos ⟨hk3, rfl⟩]
         clear hk3
         have hB := HB2.out
         obtain ⟨r0, r1⟩ := hB.2.2.1.c
         have z0 := hB.2.2.1.fz 0
         have z1 := hB.2.2.1.fz 1
         obtain ⟨s0, s1, s2, s3, s4, s5, s6, s7, sz⟩ := hB.re
         clear hB HM3 HGO
         go_wp2
         refine bodyPost_ret (v := .tuple #[.agg #[.slice (some ⟨b, off, none⟩) t.nodes.length cap, .int .i64 t.next], .agg #[.int .i64 0, .int .i64 0, .int .i64 0, .int .i64 0, .int .i64 0, .slice none 0 0, .slice none 0 0, .slice none 0 0], .int .i64 7]) (by simp [results, Tryz.results49, go_sem, *]) rfl ?_
         rw [HR.out]
         exact ⟨_, _, rfl, HT.out.below (out_below _ _ _ _ _ _ _ _ _ _ HB2.out.2.2.2.2), replyAt_no _, out_below _ _ _ _ _ _ _ _ _ _ HB2.out.2.2.2.2⟩
       · have hde : (kd == 2) = false := beq_eq_false_iff_ne.2 hd2
         have HR : Hid (removesB t o = (sweptB (setB t d (withoutB (nodeAt t d) s)), noReply, 0)) := HGO.out (fun h => hd2 h.2) (fun h => by omega) (fun h => by omega)
         clear hk3 HM3 HGO
         have HCP : Hid (Calls Tryz.prog 85 #[.agg #[.slice (some ⟨b, off, none⟩) t.nodes.length cap, .int .i64 t.next]] w2 _) := copied_any _ t fs w2 (HTF.out.below HB2.out.2.2.2.2) (by omega) (by omega)
         go_wp2_with fail
         go_at_call 85
         refine HCP.out.mono ?_
         rintro e3 w3 ⟨u, rfl, ⟨sv, hsv, hrow, hfn, hfi⟩, hb3⟩
         obtain ⟨g, cp, hsv2⟩ := own_some hrow (by omega)
         rw [hl] at hsv2
         subst hsv2
         subst hsv
         rw [hl] at hrow
         obtain ⟨w4, hw4⟩ : ∃ z, z = w3.alloc (.cells #[.slice (some ⟨g, 0, none⟩) t.nodes.length cp, .int .i64 t.next] 29) := ⟨_, rfl⟩
         have HX4 : Hid (XI w w4 w2.heap.size (w3.heap.size + 1) w3.heap.size g cp t fs) := by rw [hw4]; exact xi_new hrow HG.out.2.1 HG.out.2.2.1 HB2.out.2.2.2.2 hb3 (Array.getElem?_eq_some_iff.1 HB2.out.2.2.2.1).1
         have HB4 : Hid (Bx w w4 (.slice (some ⟨b, off, none⟩) t.nodes.length cap) (.int .i64 t.next) o (.slice do' dn dc)) := by rw [hw4]; exact (HB2.out.below hb3).below ((Below.refl _ _).alloc (Nat.le_refl _) _)
         have HH4 : Hid (Calls Tryz.prog 83 #[.agg #[.slice (some ⟨b, off, none⟩) t.nodes.length cap, .int .i64 t.next], .string o.path] w4 fun e w' => e = .returned (.tuple #[.int .i64 (d : Int), .string s, .int .i64 0]) ∧ Below w4.heap.size w4 w') := by
          have h9 := HH.out w4 HB4.out.2.2.2.2
          rw [HHM.out.1] at h9
          exact h9
         obtain ⟨xb, hxb⟩ : ∃ z, z = w3.heap.size := ⟨_, rfl⟩
         rw [← hxb] at HX4
         obtain ⟨K, hK⟩ : ∃ z, z = xb + 1 := ⟨_, rfl⟩
         rw [← hK] at HX4
         clear HCP hrow hfn hfi hb3 HB2 hK c0 c1 y1 y3 hko
         obtain ⟨c0, c1⟩ := HB4.out.1.c
         have p1 := HB4.out.op.2.1
         go_upto_region 14 with fail
         rw [← hw4, ← hxb]
         clear hw4 hxb
         go_wp2_with fail
         go_at_call 83
         refine HH4.out.mono ?_
         rintro e5 w5 ⟨rfl, hb5⟩
         have HX5 : Hid (XI w w5 w2.heap.size K xb g cp t fs) := HX4.out.below hb5
         have HB5 : Hid (Bx w w5 (.slice (some ⟨b, off, none⟩) t.nodes.length cap) (.int .i64 t.next) o (.slice do' dn dc)) := HB4.out.below hb5
         clear HH4 hb5 HX4 HB4 c0 c1 p1
         obtain ⟨f, hfn5, hfi5, ha5⟩ := HX5.out.node HHM.out.2.1
         obtain ⟨nn, dd, mm, ii⟩ := f
         simp only at hfn5
         subst hfn5
         have HFI : Hid (FN.is w5 ⟨nodeAt t d, dd, mm, ii⟩) := hfi5
         obtain ⟨q0, q1, q2, q3, q4⟩ := ha5
         simp only at q0 q1 q2 q3 q4
         obtain ⟨do2, dc2, hdd, _⟩ := hfi5.1
         obtain ⟨mo2, mc2, hmm, _⟩ := hfi5.2.1
         obtain ⟨io2, ic2, hii, _⟩ := hfi5.2.2
         simp only at hdd hmm hii
         obtain ⟨nd, hnd⟩ : ∃ n, (intsV .u8 (nodeAt t d).data).length = n := ⟨_, rfl⟩
         obtain ⟨nm, hnm⟩ : ∃ n, (strs (nodeAt t d).names).length = n := ⟨_, rfl⟩
         obtain ⟨ni, hni⟩ : ∃ n, (intsV .i64 (nodeAt t d).inos).length = n := ⟨_, rfl⟩
         rw [hnd] at hdd
         rw [hnm] at hmm
         rw [hni] at hii
         subst hdd hmm hii
         obtain ⟨x0, x1, x2, x3, x4⟩ := HX5.out.cells
         have HDN : Hid ((nodeAt t d).names.length = (nodeAt t d).inos.length ∧ (nodeAt t d).names.length ≤ 1000000) := ⟨(HG.out.1.e.each _ (nodeAt_mem HHM.out.2.1)).len, by have := (names_smallT HG.out.1.e (nodeAt_mem HHM.out.2.1)).1; omega⟩
         have HWC : Hid (∀ U, Below w5.heap.size w5 U → Calls Tryz.prog 88 #[.agg #[.int .i64 (nodeAt t d).ino, .int .i64 (nodeAt t d).kind, .slice do2 nd dc2, .slice mo2 nm mc2, .slice io2 ni ic2], .string s] U fun e w' => ∃ xo xn xc yo yn yc, e = .returned (.agg #[.int .i64 (nodeAt t d).ino, .int .i64 (nodeAt t d).kind, .slice none 0 0, .slice xo xn xc, .slice yo yn yc]) ∧ Hid (FreshN K w' ⟨withoutB (nodeAt t d) s, .slice none 0 0, .slice xo xn xc, .slice yo yn yc⟩ ∧ Below w5.heap.size w5 w') ∧ w'.cell? ⟨xb, 0, none⟩ = some (.slice (some ⟨g, 0, none⟩) t.nodes.length cp) ∧ xb < w'.heap.size ∧ g < w'.heap.size ∧ (∀ j, w'.frozen? ⟨g, j, none⟩ = false) ∧ w'.cell? ⟨g, d * 5, none⟩ = some (.int .i64 (nodeAt t d).ino) ∧ w'.cell? ⟨g, d * 5 + 1, none⟩ = some (.int .i64 (nodeAt t d).kind) ∧ w'.cell? ⟨g, d * 5 + 2, none⟩ = some (.slice do2 nd dc2) ∧ w'.cell? ⟨g, d * 5 + 3, none⟩ = some (.slice mo2 nm mc2) ∧ w'.cell? ⟨g, d * 5 + 4, none⟩ = some (.slice io2 ni ic2)) := fun U hU => by
          refine (without_any ⟨nodeAt t d, .slice do2 nd dc2, .slice mo2 nm mc2, .slice io2 ni ic2⟩ s U (HFI.out.below hU) HDN.out.1 HDN.out.2).mono ?_
          rintro e w' ⟨X, Y, rfl, hi5, hx5, hy5, hb'⟩
          have hbw := bel2v hU hb'
          have hX := HX5.out.below hbw
          obtain ⟨z0, z1, z2, z3, z4⟩ := hX.cells
          obtain ⟨xo, xc, hXe, _⟩ := hi5.2.1
          obtain ⟨yo, yc, hYe, _⟩ := hi5.2.2
          have hfr := freshN_of (K := K) hi5 hx5 hy5 (Nat.le_trans HX5.out.KW hU.size)
          simp only at hXe hYe
          rw [hXe, hYe] at hfr
          exact ⟨xo, _, xc, yo, _, yc, by rw [← hXe, ← hYe], ⟨hfr, hbw⟩, z0, z2, z3, z4, (hbw.cell (by exact x3)).trans q0, (hbw.cell (by exact x3)).trans q1, (hbw.cell (by exact x3)).trans q2, (hbw.cell (by exact x3)).trans q3, (hbw.cell (by exact x3)).trans q4⟩
         have dl : (d : Int) < (t.nodes.length : Int) := by have := HHM.out.2.1; omega
         have dz : (0 : Int) ≤ (d : Int) := by omega
         clear hfi5 hnd hnm hni
         go_upto_region 15 with fail
         go_cut [] (fun wx => ∃ xo xn xc yo yn yc w6, wx = set5 w6 g (d * 5) ⟨withoutB (nodeAt t d) s, .slice none 0 0, .slice xo xn xc, .slice yo yn yc⟩ ∧ Hid (FreshN K w6 ⟨withoutB (nodeAt t d) s, .slice none 0 0, .slice xo xn xc, .slice yo yn yc⟩ ∧ Below w5.heap.size w5 w6))
         case first =>
          go_region_with (go_at_call 88; refine (HWC.out _ (by first | exact Below.refl _ _ | exact (Below.refl _ _).drew)).mono ?_; rintro e6 w6 ⟨xo, xn, xc, yo, yn, yc, rfl, H6, k0, k1, k2, kz, k3, k4, k5, k6, k7⟩)
          all_goals (
           go_wp2_with fail
           go_meet
           case rel => exact ⟨xo, xn, xc, yo, yn, yc, w6, rfl, H6⟩)
         case rest =>
          obtain ⟨xo, xn, xc, yo, yn, yc, w6, hwc, H6⟩ := hcut
          obtain ⟨f', hf'⟩ : ∃ f' : FN, f' = ⟨withoutB (nodeAt t d) s, .slice none 0 0, .slice xo xn xc, .slice yo yn yc⟩ := ⟨_, rfl⟩
          rw [← hf'] at H6 hwc
          have hfl : d < fs.length := by have := HHM.out.2.1; omega
          have HX7 : Hid (XI w wc w2.heap.size K xb g cp (setB t d (withoutB (nodeAt t d) s)) (fs.set d f')) := by
           have h9 := (HX5.out.below H6.out.2).put hfl H6.out.1
           rw [hwc]
           have e9 : f'.n = withoutB (nodeAt t d) s := by rw [hf']
           rw [e9] at h9
           exact h9
          have HB7 : Hid (Bx w wc (.slice (some ⟨b, off, none⟩) t.nodes.length cap) (.int .i64 t.next) o (.slice do' dn dc)) := by rw [hwc]; exact (HB5.out.below H6.out.2).set5 (Nat.le_trans HX5.out.lo4 HX5.out.glo) _ _
          clear hwc hf' H6 HWC HX5 HB5 HFI x0 x1 x2 x3 x4 q0 q1 q2 q3 q4
          obtain ⟨X, hX⟩ : ∃ X, setB t d (withoutB (nodeAt t d) s) = X := ⟨_, rfl⟩
          have HXL : Hid (X.nodes.length ≤ 60 ∧ ∀ i, (X.nodes.map fun n => countB n i).sum ≤ 100000) := by
           have hfx : Fair X := by rw [← hX]; exact fair_without HG.out.1.e.fair HHM.out.2.1 HHM.out.2.2.1 s
           refine ⟨by rw [← hX, set_len]; exact HG.out.1.e.size, fun i => ?_⟩
           rw [fair_sum hfx]
           have h9 := kids_unname HG.out.1.e.fair HHM.out.2.1 HHM.out.2.2.2 i
           rw [hX] at h9
           have := HG.out.1.e.many i
           omega
          rw [hX] at HX7 HR
          have HXN : Hid (X.next = t.next ∧ X.nodes.length = t.nodes.length) := by rw [← hX]; exact ⟨rfl, set_len _ _ _⟩
          clear hX
          have HSW : Hid (Calls Tryz.prog 89 _ wc _) := swept_own _ X (fs.set d f') wc (HX7.out.g (by have := HXL.out.1; unfold maxLen; omega)) (by have := HXL.out.1; omega) HXL.out.2
          obtain ⟨x0, x1, x2, x3, x4⟩ := HX7.out.cells
          obtain ⟨XN, hXN⟩ : ∃ z, X.nodes.length = z := ⟨_, rfl⟩
          obtain ⟨XX, hXX⟩ : ∃ z, X.next = z := ⟨_, rfl⟩
          rw [hXN] at x0 HSW
          rw [hXX] at x1 HSW
          go_wp2_with fail
          go_at_call 89
          refine HSW.out.mono ?_
          rintro e8 w8 ⟨so, sc, rfl, hr8, hb8⟩
          have HB8 : Hid (Bx w w8 (.slice (some ⟨b, off, none⟩) t.nodes.length cap) (.int .i64 t.next) o (.slice do' dn dc)) := HB7.out.below hb8
          obtain ⟨SN, hSN⟩ : ∃ z, (keptN X (fs.set d f')).length = z := ⟨_, rfl⟩
          rw [hSN] at hr8 ⊢
          have HEn : Hid (TreeAt (outW w8 w.heap.size (.slice so SN sc) (.int .i64 XX) (.int .i64 0) (.int .i64 0) (.int .i64 0) (.int .i64 0) (.int .i64 0) (.slice none 0 0) (.slice none 0 0) (.slice none 0 0)) (.agg #[.slice so SN sc, .int .i64 XX]) (sweptB X) ∧ Below w.heap.size w (outW w8 w.heap.size (.slice so SN sc) (.int .i64 XX) (.int .i64 0) (.int .i64 0) (.int .i64 0) (.int .i64 0) (.int .i64 0) (.slice none 0 0) (.slice none 0 0) (.slice none 0 0))) := by
           have h9 := HX7.out.swept_end HXL.out.1 hb8 hSN.symm hr8 (.slice so SN sc) (.int .i64 XX) (.int .i64 0) (.int .i64 0) (.int .i64 0) (.int .i64 0) (.int .i64 0) (.slice none 0 0) (.slice none 0 0) (.slice none 0 0)
           rw [hXX] at h9
           exact h9
          clear hr8 hb8 HSW HX7 HB7 x0 x1 x2 x3 x4 hSN hXN hXX
          obtain ⟨r0, r1⟩ := HB8.out.2.2.1.c
          have z0 := HB8.out.2.2.1.fz 0
          have z1 := HB8.out.2.2.1.fz 1
          obtain ⟨s0, s1, s2, s3, s4, s5, s6, s7, sz⟩ := HB8.out.re
          go_wp2
          refine bodyPost_ret (v := .tuple #[.agg #[.slice so SN sc, .int .i64 XX], .agg #[.int .i64 0, .int .i64 0, .int .i64 0, .int .i64 0, .int .i64 0, .slice none 0 0, .slice none 0 0, .slice none 0 0], .int .i64 0]) (by simp [results, Tryz.results49, go_sem, *]) rfl ?_
          rw [HR.out]
          unfold outW at HEn
          exact ⟨_, _, rfl, HEn.out.1, replyAt_no _, HEn.out.2⟩
     · rw [hk4] at hko
       by_cases hd1 : kd = 1
       · subst hd1
         have HR : Hid (removesB t o = (t, noReply, 8)) := by show _ = _; rw [HM3.out, if_neg (fun h => by omega), if_pos ⟨hk4, rfl⟩]
         clear hk4
         have hB := HB2.out
         obtain ⟨r0, r1⟩ := hB.2.2.1.c
         have z0 := hB.2.2.1.fz 0
         have z1 := hB.2.2.1.fz 1
         obtain ⟨s0, s1, s2, s3, s4, s5, s6, s7, sz⟩ := hB.re
         clear hB HM3 HGO
         go_wp2
         refine bodyPost_ret (v := .tuple #[.agg #[.slice (some ⟨b, off, none⟩) t.nodes.length cap, .int .i64 t.next], .agg #[.int .i64 0, .int .i64 0, .int .i64 0, .int .i64 0, .int .i64 0, .slice none 0 0, .slice none 0 0, .slice none 0 0], .int .i64 8]) (by simp [results, Tryz.results49, go_sem, *]) rfl ?_
         rw [HR.out]
         exact ⟨_, _, rfl, HT.out.below (out_below _ _ _ _ _ _ _ _ _ _ HB2.out.2.2.2.2), replyAt_no _, out_below _ _ _ _ _ _ _ _ _ _ HB2.out.2.2.2.2⟩
       · have hde : (kd == 1) = false := beq_eq_false_iff_ne.2 hd1
         by_cases hn : 0 < nl
         · have hn' : (0 : Int) < (nl : Int) := by omega
           have HR : Hid (removesB t o = (t, noReply, 9)) := by show _ = _; rw [HM3.out, if_neg (fun h => by omega), if_neg (fun h => hd1 h.2), if_pos ⟨hk4, hn⟩]
           clear hk4
           have hB := HB2.out
           obtain ⟨r0, r1⟩ := hB.2.2.1.c
           have z0 := hB.2.2.1.fz 0
           have z1 := hB.2.2.1.fz 1
           obtain ⟨s0, s1, s2, s3, s4, s5, s6, s7, sz⟩ := hB.re
           clear hB HM3 HGO
           go_wp2
           refine bodyPost_ret (v := .tuple #[.agg #[.slice (some ⟨b, off, none⟩) t.nodes.length cap, .int .i64 t.next], .agg #[.int .i64 0, .int .i64 0, .int .i64 0, .int .i64 0, .int .i64 0, .slice none 0 0, .slice none 0 0, .slice none 0 0], .int .i64 9]) (by simp [results, Tryz.results49, go_sem, *]) rfl ?_
           rw [HR.out]
           exact ⟨_, _, rfl, HT.out.below (out_below _ _ _ _ _ _ _ _ _ _ HB2.out.2.2.2.2), replyAt_no _, out_below _ _ _ _ _ _ _ _ _ _ HB2.out.2.2.2.2⟩
         · have hn' : ¬ (0 : Int) < (nl : Int) := by omega
           have HR : Hid (removesB t o = (sweptB (setB t d (withoutB (nodeAt t d) s)), noReply, 0)) := HGO.out (fun h => by omega) (fun h => hd1 h.2) (fun h => hn h.2)
           clear hk4 HM3 HGO
           have HCP : Hid (Calls Tryz.prog 85 #[.agg #[.slice (some ⟨b, off, none⟩) t.nodes.length cap, .int .i64 t.next]] w2 _) := copied_any _ t fs w2 (HTF.out.below HB2.out.2.2.2.2) (by omega) (by omega)
           go_wp2_with fail
           go_at_call 85
           refine HCP.out.mono ?_
           rintro e3 w3 ⟨u, rfl, ⟨sv, hsv, hrow, hfn, hfi⟩, hb3⟩
           obtain ⟨g, cp, hsv2⟩ := own_some hrow (by omega)
           rw [hl] at hsv2
           subst hsv2
           subst hsv
           rw [hl] at hrow
           obtain ⟨w4, hw4⟩ : ∃ z, z = w3.alloc (.cells #[.slice (some ⟨g, 0, none⟩) t.nodes.length cp, .int .i64 t.next] 29) := ⟨_, rfl⟩
           have HX4 : Hid (XI w w4 w2.heap.size (w3.heap.size + 1) w3.heap.size g cp t fs) := by rw [hw4]; exact xi_new hrow HG.out.2.1 HG.out.2.2.1 HB2.out.2.2.2.2 hb3 (Array.getElem?_eq_some_iff.1 HB2.out.2.2.2.1).1
           have HB4 : Hid (Bx w w4 (.slice (some ⟨b, off, none⟩) t.nodes.length cap) (.int .i64 t.next) o (.slice do' dn dc)) := by rw [hw4]; exact (HB2.out.below hb3).below ((Below.refl _ _).alloc (Nat.le_refl _) _)
           have HH4 : Hid (Calls Tryz.prog 83 #[.agg #[.slice (some ⟨b, off, none⟩) t.nodes.length cap, .int .i64 t.next], .string o.path] w4 fun e w' => e = .returned (.tuple #[.int .i64 (d : Int), .string s, .int .i64 0]) ∧ Below w4.heap.size w4 w') := by
            have h9 := HH.out w4 HB4.out.2.2.2.2
            rw [HHM.out.1] at h9
            exact h9
           obtain ⟨xb, hxb⟩ : ∃ z, z = w3.heap.size := ⟨_, rfl⟩
           rw [← hxb] at HX4
           obtain ⟨K, hK⟩ : ∃ z, z = xb + 1 := ⟨_, rfl⟩
           rw [← hK] at HX4
           clear HCP hrow hfn hfi hb3 HB2 hK c0 c1 y1 y3 hko
           obtain ⟨c0, c1⟩ := HB4.out.1.c
           have p1 := HB4.out.op.2.1
           go_upto_region 14 with fail
           rw [← hw4, ← hxb]
           clear hw4 hxb
           go_wp2_with fail
           go_at_call 83
           refine HH4.out.mono ?_
           rintro e5 w5 ⟨rfl, hb5⟩
           have HX5 : Hid (XI w w5 w2.heap.size K xb g cp t fs) := HX4.out.below hb5
           have HB5 : Hid (Bx w w5 (.slice (some ⟨b, off, none⟩) t.nodes.length cap) (.int .i64 t.next) o (.slice do' dn dc)) := HB4.out.below hb5
           clear HH4 hb5 HX4 HB4 c0 c1 p1
           obtain ⟨f, hfn5, hfi5, ha5⟩ := HX5.out.node HHM.out.2.1
           obtain ⟨nn, dd, mm, ii⟩ := f
           simp only at hfn5
           subst hfn5
           have HFI : Hid (FN.is w5 ⟨nodeAt t d, dd, mm, ii⟩) := hfi5
           obtain ⟨q0, q1, q2, q3, q4⟩ := ha5
           simp only at q0 q1 q2 q3 q4
           obtain ⟨do2, dc2, hdd, _⟩ := hfi5.1
           obtain ⟨mo2, mc2, hmm, _⟩ := hfi5.2.1
           obtain ⟨io2, ic2, hii, _⟩ := hfi5.2.2
           simp only at hdd hmm hii
           obtain ⟨nd, hnd⟩ : ∃ n, (intsV .u8 (nodeAt t d).data).length = n := ⟨_, rfl⟩
           obtain ⟨nm, hnm⟩ : ∃ n, (strs (nodeAt t d).names).length = n := ⟨_, rfl⟩
           obtain ⟨ni, hni⟩ : ∃ n, (intsV .i64 (nodeAt t d).inos).length = n := ⟨_, rfl⟩
           rw [hnd] at hdd
           rw [hnm] at hmm
           rw [hni] at hii
           subst hdd hmm hii
           obtain ⟨x0, x1, x2, x3, x4⟩ := HX5.out.cells
           have HDN : Hid ((nodeAt t d).names.length = (nodeAt t d).inos.length ∧ (nodeAt t d).names.length ≤ 1000000) := ⟨(HG.out.1.e.each _ (nodeAt_mem HHM.out.2.1)).len, by have := (names_smallT HG.out.1.e (nodeAt_mem HHM.out.2.1)).1; omega⟩
           have HWC : Hid (∀ U, Below w5.heap.size w5 U → Calls Tryz.prog 88 #[.agg #[.int .i64 (nodeAt t d).ino, .int .i64 (nodeAt t d).kind, .slice do2 nd dc2, .slice mo2 nm mc2, .slice io2 ni ic2], .string s] U fun e w' => ∃ xo xn xc yo yn yc, e = .returned (.agg #[.int .i64 (nodeAt t d).ino, .int .i64 (nodeAt t d).kind, .slice none 0 0, .slice xo xn xc, .slice yo yn yc]) ∧ Hid (FreshN K w' ⟨withoutB (nodeAt t d) s, .slice none 0 0, .slice xo xn xc, .slice yo yn yc⟩ ∧ Below w5.heap.size w5 w') ∧ w'.cell? ⟨xb, 0, none⟩ = some (.slice (some ⟨g, 0, none⟩) t.nodes.length cp) ∧ xb < w'.heap.size ∧ g < w'.heap.size ∧ (∀ j, w'.frozen? ⟨g, j, none⟩ = false) ∧ w'.cell? ⟨g, d * 5, none⟩ = some (.int .i64 (nodeAt t d).ino) ∧ w'.cell? ⟨g, d * 5 + 1, none⟩ = some (.int .i64 (nodeAt t d).kind) ∧ w'.cell? ⟨g, d * 5 + 2, none⟩ = some (.slice do2 nd dc2) ∧ w'.cell? ⟨g, d * 5 + 3, none⟩ = some (.slice mo2 nm mc2) ∧ w'.cell? ⟨g, d * 5 + 4, none⟩ = some (.slice io2 ni ic2)) := fun U hU => by
            refine (without_any ⟨nodeAt t d, .slice do2 nd dc2, .slice mo2 nm mc2, .slice io2 ni ic2⟩ s U (HFI.out.below hU) HDN.out.1 HDN.out.2).mono ?_
            rintro e w' ⟨X, Y, rfl, hi5, hx5, hy5, hb'⟩
            have hbw := bel2v hU hb'
            have hX := HX5.out.below hbw
            obtain ⟨z0, z1, z2, z3, z4⟩ := hX.cells
            obtain ⟨xo, xc, hXe, _⟩ := hi5.2.1
            obtain ⟨yo, yc, hYe, _⟩ := hi5.2.2
            have hfr := freshN_of (K := K) hi5 hx5 hy5 (Nat.le_trans HX5.out.KW hU.size)
            simp only at hXe hYe
            rw [hXe, hYe] at hfr
            exact ⟨xo, _, xc, yo, _, yc, by rw [← hXe, ← hYe], ⟨hfr, hbw⟩, z0, z2, z3, z4, (hbw.cell (by exact x3)).trans q0, (hbw.cell (by exact x3)).trans q1, (hbw.cell (by exact x3)).trans q2, (hbw.cell (by exact x3)).trans q3, (hbw.cell (by exact x3)).trans q4⟩
           have dl : (d : Int) < (t.nodes.length : Int) := by have := HHM.out.2.1; omega
           have dz : (0 : Int) ≤ (d : Int) := by omega
           clear hfi5 hnd hnm hni
           go_upto_region 15 with fail
           go_cut [] (fun wx => ∃ xo xn xc yo yn yc w6, wx = set5 w6 g (d * 5) ⟨withoutB (nodeAt t d) s, .slice none 0 0, .slice xo xn xc, .slice yo yn yc⟩ ∧ Hid (FreshN K w6 ⟨withoutB (nodeAt t d) s, .slice none 0 0, .slice xo xn xc, .slice yo yn yc⟩ ∧ Below w5.heap.size w5 w6))
           case first =>
            go_region_with (go_at_call 88; refine (HWC.out _ (by first | exact Below.refl _ _ | exact (Below.refl _ _).drew)).mono ?_; rintro e6 w6 ⟨xo, xn, xc, yo, yn, yc, rfl, H6, k0, k1, k2, kz, k3, k4, k5, k6, k7⟩)
            all_goals (
             go_wp2_with fail
             go_meet
             case rel => exact ⟨xo, xn, xc, yo, yn, yc, w6, rfl, H6⟩)
           case rest =>
            obtain ⟨xo, xn, xc, yo, yn, yc, w6, hwc, H6⟩ := hcut
            obtain ⟨f', hf'⟩ : ∃ f' : FN, f' = ⟨withoutB (nodeAt t d) s, .slice none 0 0, .slice xo xn xc, .slice yo yn yc⟩ := ⟨_, rfl⟩
            rw [← hf'] at H6 hwc
            have hfl : d < fs.length := by have := HHM.out.2.1; omega
            have HX7 : Hid (XI w wc w2.heap.size K xb g cp (setB t d (withoutB (nodeAt t d) s)) (fs.set d f')) := by
             have h9 := (HX5.out.below H6.out.2).put hfl H6.out.1
             rw [hwc]
             have e9 : f'.n = withoutB (nodeAt t d) s := by rw [hf']
             rw [e9] at h9
             exact h9
            have HB7 : Hid (Bx w wc (.slice (some ⟨b, off, none⟩) t.nodes.length cap) (.int .i64 t.next) o (.slice do' dn dc)) := by rw [hwc]; exact (HB5.out.below H6.out.2).set5 (Nat.le_trans HX5.out.lo4 HX5.out.glo) _ _
            clear hwc hf' H6 HWC HX5 HB5 HFI x0 x1 x2 x3 x4 q0 q1 q2 q3 q4
            obtain ⟨X, hX⟩ : ∃ X, setB t d (withoutB (nodeAt t d) s) = X := ⟨_, rfl⟩
            have HXL : Hid (X.nodes.length ≤ 60 ∧ ∀ i, (X.nodes.map fun n => countB n i).sum ≤ 100000) := by
             have hfx : Fair X := by rw [← hX]; exact fair_without HG.out.1.e.fair HHM.out.2.1 HHM.out.2.2.1 s
             refine ⟨by rw [← hX, set_len]; exact HG.out.1.e.size, fun i => ?_⟩
             rw [fair_sum hfx]
             have h9 := kids_unname HG.out.1.e.fair HHM.out.2.1 HHM.out.2.2.2 i
             rw [hX] at h9
             have := HG.out.1.e.many i
             omega
            rw [hX] at HX7 HR
            have HXN : Hid (X.next = t.next ∧ X.nodes.length = t.nodes.length) := by rw [← hX]; exact ⟨rfl, set_len _ _ _⟩
            clear hX
            have HSW : Hid (Calls Tryz.prog 89 _ wc _) := swept_own _ X (fs.set d f') wc (HX7.out.g (by have := HXL.out.1; unfold maxLen; omega)) (by have := HXL.out.1; omega) HXL.out.2
            obtain ⟨x0, x1, x2, x3, x4⟩ := HX7.out.cells
            obtain ⟨XN, hXN⟩ : ∃ z, X.nodes.length = z := ⟨_, rfl⟩
            obtain ⟨XX, hXX⟩ : ∃ z, X.next = z := ⟨_, rfl⟩
            rw [hXN] at x0 HSW
            rw [hXX] at x1 HSW
            go_wp2_with fail
            go_at_call 89
            refine HSW.out.mono ?_
            rintro e8 w8 ⟨so, sc, rfl, hr8, hb8⟩
            have HB8 : Hid (Bx w w8 (.slice (some ⟨b, off, none⟩) t.nodes.length cap) (.int .i64 t.next) o (.slice do' dn dc)) := HB7.out.below hb8
            obtain ⟨SN, hSN⟩ : ∃ z, (keptN X (fs.set d f')).length = z := ⟨_, rfl⟩
            rw [hSN] at hr8 ⊢
            have HEn : Hid (TreeAt (outW w8 w.heap.size (.slice so SN sc) (.int .i64 XX) (.int .i64 0) (.int .i64 0) (.int .i64 0) (.int .i64 0) (.int .i64 0) (.slice none 0 0) (.slice none 0 0) (.slice none 0 0)) (.agg #[.slice so SN sc, .int .i64 XX]) (sweptB X) ∧ Below w.heap.size w (outW w8 w.heap.size (.slice so SN sc) (.int .i64 XX) (.int .i64 0) (.int .i64 0) (.int .i64 0) (.int .i64 0) (.int .i64 0) (.slice none 0 0) (.slice none 0 0) (.slice none 0 0))) := by
             have h9 := HX7.out.swept_end HXL.out.1 hb8 hSN.symm hr8 (.slice so SN sc) (.int .i64 XX) (.int .i64 0) (.int .i64 0) (.int .i64 0) (.int .i64 0) (.int .i64 0) (.slice none 0 0) (.slice none 0 0) (.slice none 0 0)
             rw [hXX] at h9
             exact h9
            clear hr8 hb8 HSW HX7 HB7 x0 x1 x2 x3 x4 hSN hXN hXX
            obtain ⟨r0, r1⟩ := HB8.out.2.2.1.c
            have z0 := HB8.out.2.2.1.fz 0
            have z1 := HB8.out.2.2.1.fz 1
            obtain ⟨s0, s1, s2, s3, s4, s5, s6, s7, sz⟩ := HB8.out.re
            go_wp2
            refine bodyPost_ret (v := .tuple #[.agg #[.slice so SN sc, .int .i64 XX], .agg #[.int .i64 0, .int .i64 0, .int .i64 0, .int .i64 0, .int .i64 0, .slice none 0 0, .slice none 0 0, .slice none 0 0], .int .i64 0]) (by simp [results, Tryz.results49, go_sem, *]) rfl ?_
            rw [HR.out]
            unfold outW at HEn
            exact ⟨_, _, rfl, HEn.out.1, replyAt_no _, HEn.out.2⟩
 · have hxe : (x == 0) = false := beq_eq_false_iff_ne.2 hx0
   have hxe2 : (x != 0) = true := by simp [hx0]
   have HR : Hid (removesB t o = (t, noReply, x)) := by show _ = _; rw [HM.out, if_pos hx0]
   have hB := HB1.out
   obtain ⟨c0, c1⟩ := hB.1.c
   obtain ⟨r0, r1⟩ := hB.2.2.1.c
   have z0 := hB.2.2.1.fz 0
   have z1 := hB.2.2.1.fz 1
   obtain ⟨s0, s1, s2, s3, s4, s5, s6, s7, sz⟩ := hB.re
   obtain ⟨p0, p1, p2, p3, p4, p5⟩ := hB.op
   clear hB HM hx0 HP0
   go_wp2
   refine bodyPost_ret (v := .tuple #[.agg #[.slice (some ⟨b, off, none⟩) t.nodes.length cap, .int .i64 t.next], .agg #[.int .i64 0, .int .i64 0, .int .i64 0, .int .i64 0, .int .i64 0, .slice none 0 0, .slice none 0 0, .slice none 0 0], .int .i64 x]) (by simp [results, Tryz.results49, go_sem, *]) rfl ?_
   rw [HR.out]
   exact ⟨_, _, rfl, HT.out.below (out_below _ _ _ _ _ _ _ _ _ _ HB1.out.2.2.2.2), replyAt_no _, out_below _ _ _ _ _ _ _ _ _ _ HB1.out.2.2.2.2⟩
end Go.Proofs.YtbebgobboccjcaaGreatDoor
