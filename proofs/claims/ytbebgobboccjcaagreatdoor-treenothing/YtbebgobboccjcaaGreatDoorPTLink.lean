/- dolmenref5.link: what one call answers. -/
import Derived.Test.YtbebgobboccjcaaGreatDoorH5
import Derived.Test.YtbebgobboccjcaaGreatDoorPTRemoves
import Derived.Test.YtbebgobboccjcaaGreatDoorH1
import Derived.Deep.DeepCutAuto
import Derived.Deep.CutRange
namespace Go.Proofs.YtbebgobboccjcaaGreatDoor
open Go.RowKit Kit
set_option linter.unusedVariables false

theorem kids_leT {t : TreeB} (h : Good t) (i : Int) : (t.nodes.map fun n => countB n i).sum ≤ 20 := by rw [fair_sum h.e.fair]; exact h.e.many i
set_option maxRecDepth 4000 in
set_option maxHeartbeats 40000000 in
theorem link_any5 (v ov : Value) (t : TreeB) (o : OpB) (w : World) (hT : TreeAt w v t) (hg : Good t) (ho : OpAt w ov o) :
 Calls Tryz.prog 51 #[v, ov] w fun e w' => ∃ tv rv, e = .returned (.tuple #[tv, rv, .int .i64 (linkB t o).2.2]) ∧ TreeAt w' tv (linkB t o).1 ∧ ReplyAt w' rv (linkB t o).2.1 ∧ Below w.heap.size w w' := by
 have HT : Hid (TreeAt w v t) := hT
 obtain ⟨fs, hF⟩ : ∃ fs, TreeG w v t fs := by obtain ⟨sv, fs, h⟩ := hT; exact ⟨fs, sv, h⟩
 have HTF : Hid (TreeG w v t fs) := hF
 obtain ⟨ao, cap, rfl, q1, q2, q3, q4, q5⟩ := hF.opened
 obtain ⟨dv, rfl, ho1, ho2, ho3, ho4⟩ := ho
 obtain ⟨b, off, rfl, hb, hc⟩ := q5 hg.e.root0.1
 have hl := fs_len q3
 have lm : (t.nodes.length : Int) ≤ 60 := by have := hg.e.size; omega
 obtain ⟨do', dc, hdv, _⟩ := ho1
 obtain ⟨dn, hdn⟩ : ∃ n, (intsV .u8 o.data).length = n := ⟨_, rfl⟩
 rw [hdn] at hdv
 subst hdv
 have HG : Hid (Good t ∧ fs.map FN.n = t.nodes ∧ (∀ f ∈ fs, f.is w) ∧ b < w.heap.size ∧ ∀ k (hk : k < fs.length), At5 w b (off + k * 5) fs[k]) := ⟨hg, q3, q4, hb, hc⟩
 have HH : Hid (∀ W, Below w.heap.size w W → Calls Tryz.prog 83 #[.agg #[.slice (some ⟨b, off, none⟩) t.nodes.length cap, .int .i64 t.next], .string o.path] W fun e w' => e = .returned (resH (homeB t o.path)) ∧ Below W.heap.size W w') := fun W hb => home_any _ t o.path W (HT.out.below hb) hg ho2
 have HPa : Hid (∀ W, Calls Tryz.prog 87 #[.string o.to] W fun e w' => e = .returned (.tuple #[.string (parentB o.to).1, .string (parentB o.to).2.1, .int .i64 (parentB o.to).2.2]) ∧ Below W.heap.size W w') := fun W => parent_any o.to W ho3
 have HFd : Hid (∀ W, Below w.heap.size w W → Calls Tryz.prog 53 #[.agg #[.slice (some ⟨b, off, none⟩) t.nodes.length cap, .int .i64 t.next], .string o.path] W fun e w' => e = .returned (resV (findB t o.path)) ∧ Below W.heap.size W w') := fun W hb => find_any _ t o.path W (HT.out.below hb) hg ho2
 have HHt : Hid (∀ W, Below w.heap.size w W → Calls Tryz.prog 83 #[.agg #[.slice (some ⟨b, off, none⟩) t.nodes.length cap, .int .i64 t.next], .string o.to] W fun e w' => e = .returned (resH (homeB t o.to)) ∧ Below W.heap.size W w') := fun W hb => home_any _ t o.to W (HT.out.below hb) hg ho3
 clear q1 q2 q3 q4 q5 hT hF hb hc hg ho2 ho3 ho4 hdn
 unfold opV
 obtain ⟨w0, hw0⟩ : ∃ w0, w0 = ((((w.alloc (.cells #[.slice (some ⟨b, off, none⟩) t.nodes.length cap, .int .i64 t.next] 29)).alloc (.cells #[.int .i64 o.kind, .string o.path, .string o.to, .int .i64 o.off, .int .i64 o.n, .slice do' dn dc, .int .i64 o.snap] 35)).alloc (.cells #[.slice none 0 0, .int .i64 0] 29)).alloc (.cells #[.int .i64 0, .int .i64 0, .int .i64 0, .int .i64 0, .int .i64 0, .slice none 0 0, .slice none 0 0, .slice none 0 0] 40)) := ⟨_, rfl⟩
 have HB0 : Hid (Bx w w0 (.slice (some ⟨b, off, none⟩) t.nodes.length cap) (.int .i64 t.next) o (.slice do' dn dc)) := by rw [hw0]; exact bx_new w _ _ _ o
 have HM : Hid (linkB t o = if (parentB o.to).2.2 ≠ 0 then (t, noReply, (parentB o.to).2.2) else match findB t o.path with
  | .error e => (t, noReply, e)
  | .ok k => if (nodeAt t k).kind = 2 then (t, noReply, 7) else match homeB t o.to with
    | .error e => (t, noReply, e)
    | .ok (d, s) => if nameB (nodeAt t d) s ≠ 0 then (t, noReply, 6) else if 20 ≤ linksB t (nodeAt t k).ino then (t, noReply, 16)
      else (setB t d (withB (nodeAt t d) s (nodeAt t k).ino), noReply, 0)) := rfl
 clear HH
 go_enter Tryz.func51, Tryz.ntmps51
 go_wp2_with fail
 go_at_call 87
 rw [← hw0]
 refine (HPa.out w0).mono ?_
 rintro e w1 ⟨rfl, hb1⟩
 have HB1 : Hid (Bx w w1 (.slice (some ⟨b, off, none⟩) t.nodes.length cap) (.int .i64 t.next) o (.slice do' dn dc)) := HB0.out.below hb1
 clear HB0 hw0 hb1 HPa
 obtain ⟨x, hx⟩ : ∃ x, (parentB o.to).2.2 = x := ⟨_, rfl⟩
 obtain ⟨x1, hx1⟩ : ∃ x, (parentB o.to).1 = x := ⟨_, rfl⟩
 obtain ⟨x2, hx2⟩ : ∃ x, (parentB o.to).2.1 = x := ⟨_, rfl⟩
 rw [hx] at HM ⊢
 rw [hx1, hx2]
 clear hx hx1 hx2
 by_cases hx0 : x = 0
 · subst hx0
   have HM2 : Hid (linkB t o = match findB t o.path with
   | .error e => (t, noReply, e)
   | .ok k => if (nodeAt t k).kind = 2 then (t, noReply, 7) else match homeB t o.to with
     | .error e => (t, noReply, e)
     | .ok (d, s) => if nameB (nodeAt t d) s ≠ 0 then (t, noReply, 6) else if 20 ≤ linksB t (nodeAt t k).ino then (t, noReply, 16)
       else (setB t d (withB (nodeAt t d) s (nodeAt t k).ino), noReply, 0)) := by show _ = _; rw [HM.out, if_neg (by simp)]
   clear HM
   obtain ⟨c0, c1⟩ := HB1.out.1.c
   obtain ⟨p0, p1, p2, p3, p4, p5⟩ := HB1.out.op
   go_wp2_with fail
   go_at_call 53
   refine (HFd.out w1 HB1.out.2.2.2.2).mono ?_
   rintro e w2 ⟨rfl, hbw2⟩
   have HB2 : Hid (Bx w w2 (.slice (some ⟨b, off, none⟩) t.nodes.length cap) (.int .i64 t.next) o (.slice do' dn dc)) := HB1.out.below hbw2
   clear hbw2
   clear HB1 HFd c0 c1 p0 p1 p2 p3 p4 p5
   have hfc := fun x => find_code (t := t) (p := o.path) (x := x)
   obtain ⟨fm, hfm⟩ : ∃ z, findB t o.path = z := ⟨_, rfl⟩
   rw [hfm] at HM2 hfc
   rw [hfm]
   cases fm with
   | error x =>
     have hx0 := hfc x rfl
     have hxn : x ≠ 0 := by omega
     have hxe : (x == 0) = false := beq_eq_false_iff_ne.2 hxn
     have hxe2 : (x != 0) = true := by simp [hxn]
     have HR : Hid (linkB t o = (t, noReply, x)) := HM2.out
     unfold resV
     have hB := HB2.out
     obtain ⟨c0, c1⟩ := hB.1.c
     obtain ⟨r0, r1⟩ := hB.2.2.1.c
     have z0 := hB.2.2.1.fz 0
     have z1 := hB.2.2.1.fz 1
     obtain ⟨s0, s1, s2, s3, s4, s5, s6, s7, sz⟩ := hB.re
     obtain ⟨p0, p1, p2, p3, p4, p5⟩ := hB.op
     clear hB HM2 hfm hfc hx0 hxn
     go_wp2
     refine bodyPost_ret (v := .tuple #[.agg #[.slice (some ⟨b, off, none⟩) t.nodes.length cap, .int .i64 t.next], .agg #[.int .i64 0, .int .i64 0, .int .i64 0, .int .i64 0, .int .i64 0, .slice none 0 0, .slice none 0 0, .slice none 0 0], .int .i64 x]) (by simp [results, Tryz.results51, go_sem, *]) rfl ?_
     rw [HR.out]
     exact ⟨_, _, rfl, HT.out.below (out_below _ _ _ _ _ _ _ _ _ _ HB2.out.2.2.2.2), replyAt_no _, out_below _ _ _ _ _ _ _ _ _ _ HB2.out.2.2.2.2⟩
   | ok k =>
     have hkl : k < t.nodes.length := (find_ok HG.out.1.e hfm).2.2
     have HM3 : Hid (linkB t o = if (nodeAt t k).kind = 2 then (t, noReply, 7) else match homeB t o.to with
     | .error e => (t, noReply, e)
     | .ok (d, s) => if nameB (nodeAt t d) s ≠ 0 then (t, noReply, 6) else if 20 ≤ linksB t (nodeAt t k).ino then (t, noReply, 16)
       else (setB t d (withB (nodeAt t d) s (nodeAt t k).ino), noReply, 0)) := HM2.out
     have hfk : k < fs.length := by omega
     have hnk : nodeAt t k = fs[k].n := fs_at HG.out.2.1 hfk
     obtain ⟨kd, hkd⟩ : ∃ z, (nodeAt t k).kind = z := ⟨_, rfl⟩
     obtain ⟨I, hI⟩ : ∃ z, (nodeAt t k).ino = z := ⟨_, rfl⟩
     have HKC : Hid (∀ U, Below w.heap.size w U → U.cell? ⟨b, off + k * 5, none⟩ = some (.int .i64 I) ∧ U.cell? ⟨b, off + k * 5 + 1, none⟩ = some (.int .i64 kd) ∧ b < U.heap.size) := fun U hU => by
      have a5 := At5.below (HG.out.2.2.2.2 k hfk) HG.out.2.2.2.1 hU
      rw [← hI, ← hkd, hnk]
      exact ⟨a5.1, a5.2.1, Nat.lt_of_lt_of_le HG.out.2.2.2.1 hU.size⟩
     rw [hkd, hI] at HM3
     obtain ⟨y0, y1, bl⟩ := HKC.out _ HB2.out.2.2.2.2
     have j0 : (k : Int) < (t.nodes.length : Int) := by omega
     have j1 : (0 : Int) ≤ (k : Int) := by omega
     obtain ⟨c0, c1⟩ := HB2.out.1.c
     unfold resV
     have HIk : Hid ((nodeAt t k).ino = I ∧ k < t.nodes.length) := ⟨hI, hkl⟩
     clear HM2 hfc hnk hfm hkl hkd hI
     by_cases hd2 : kd = 2
     · subst hd2
       have HR : Hid (linkB t o = (t, noReply, 7)) := by show _ = _; rw [HM3.out, if_pos rfl]
       have hB := HB2.out
       obtain ⟨r0, r1⟩ := hB.2.2.1.c
       have z0 := hB.2.2.1.fz 0
       have z1 := hB.2.2.1.fz 1
       obtain ⟨s0, s1, s2, s3, s4, s5, s6, s7, sz⟩ := hB.re
       clear hB HM3 HHt
       go_wp2
       refine bodyPost_ret (v := .tuple #[.agg #[.slice (some ⟨b, off, none⟩) t.nodes.length cap, .int .i64 t.next], .agg #[.int .i64 0, .int .i64 0, .int .i64 0, .int .i64 0, .int .i64 0, .slice none 0 0, .slice none 0 0, .slice none 0 0], .int .i64 7]) (by simp [results, Tryz.results51, go_sem, *]) rfl ?_
       rw [HR.out]
       exact ⟨_, _, rfl, HT.out.below (out_below _ _ _ _ _ _ _ _ _ _ HB2.out.2.2.2.2), replyAt_no _, out_below _ _ _ _ _ _ _ _ _ _ HB2.out.2.2.2.2⟩
     · have hde : (kd == 2) = false := beq_eq_false_iff_ne.2 hd2
       have HM4 : Hid (linkB t o = match homeB t o.to with
     | .error e => (t, noReply, e)
     | .ok (d, s) => if nameB (nodeAt t d) s ≠ 0 then (t, noReply, 6) else if 20 ≤ linksB t I then (t, noReply, 16)
       else (setB t d (withB (nodeAt t d) s I), noReply, 0)) := by show _ = _; rw [HM3.out, if_neg hd2]
       have p2 := HB2.out.op.2.2.1
       clear HM3
       go_wp2_with fail
       go_at_call 83
       refine (HHt.out w2 HB2.out.2.2.2.2).mono ?_
       rintro e w3 ⟨rfl, hbw3⟩
       have HB3 : Hid (Bx w w3 (.slice (some ⟨b, off, none⟩) t.nodes.length cap) (.int .i64 t.next) o (.slice do' dn dc)) := HB2.out.below hbw3
       clear hbw3
       clear HB2 HHt c0 c1 p2 y0 y1 bl
       have hhc := fun x => home_codeT (t := t) (p := o.to) (x := x)
       have hok := fun d s => home_ok HG.out.1.e (p := o.to) (d := d) (s := s)
       obtain ⟨hm, hhm⟩ : ∃ z, homeB t o.to = z := ⟨_, rfl⟩
       rw [hhm] at HM4 hhc hok
       rw [hhm]
       cases hm with
       | error x =>
         have hxn := hhc x rfl
         have hxe : (x == 0) = false := beq_eq_false_iff_ne.2 hxn
         have hxe2 : (x != 0) = true := by simp [hxn]
         have HR : Hid (linkB t o = (t, noReply, x)) := HM4.out
         unfold resH
         have hB := HB3.out
         obtain ⟨c0, c1⟩ := hB.1.c
         obtain ⟨r0, r1⟩ := hB.2.2.1.c
         have z0 := hB.2.2.1.fz 0
         have z1 := hB.2.2.1.fz 1
         obtain ⟨s0, s1, s2, s3, s4, s5, s6, s7, sz⟩ := hB.re
         obtain ⟨p0, p1, p2, p3, p4, p5⟩ := hB.op
         clear hB HM4 hhm hhc hok hxn
         go_wp2
         refine bodyPost_ret (v := .tuple #[.agg #[.slice (some ⟨b, off, none⟩) t.nodes.length cap, .int .i64 t.next], .agg #[.int .i64 0, .int .i64 0, .int .i64 0, .int .i64 0, .int .i64 0, .slice none 0 0, .slice none 0 0, .slice none 0 0], .int .i64 x]) (by simp [results, Tryz.results51, go_sem, *]) rfl ?_
         rw [HR.out]
         exact ⟨_, _, rfl, HT.out.below (out_below _ _ _ _ _ _ _ _ _ _ HB3.out.2.2.2.2), replyAt_no _, out_below _ _ _ _ _ _ _ _ _ _ HB3.out.2.2.2.2⟩
       | ok ds =>
         obtain ⟨d, s⟩ := ds
         obtain ⟨hdl, hdk, ho1, ho2, _⟩ := hok d s rfl
         have HM5 : Hid (linkB t o = if nameB (nodeAt t d) s ≠ 0 then (t, noReply, 6) else if 20 ≤ linksB t I then (t, noReply, 16) else (setB t d (withB (nodeAt t d) s I), noReply, 0)) := HM4.out
         have HDD : Hid (d < t.nodes.length ∧ (nodeAt t d).kind = 2 ∧ okB s = true ∧ s.size ≤ 12) := ⟨hdl, hdk, ho1, ho2⟩
         have hfd : d < fs.length := by omega
         have hnd0 : nodeAt t d = fs[d].n := fs_at HG.out.2.1 hfd
         obtain ⟨f, hf⟩ : ∃ f, fs[d] = f := ⟨_, rfl⟩
         have hfw : f.is w := by rw [← hf]; exact HG.out.2.2.1 _ (List.getElem_mem hfd)
         have a5 := HG.out.2.2.2.2 d hfd
         rw [hf] at hnd0 a5
         obtain ⟨nn, dd, mm, ii⟩ := f
         simp only at hnd0
         subst hnd0
         have HFI : Hid (FN.is w ⟨nodeAt t d, dd, mm, ii⟩) := hfw
         obtain ⟨do2, dc2, hdd, _⟩ := hfw.1
         obtain ⟨mo2, mc2, hmm, _⟩ := hfw.2.1
         obtain ⟨io2, ic2, hii, _⟩ := hfw.2.2
         simp only at hdd hmm hii
         obtain ⟨nd, hnd⟩ : ∃ n, (intsV .u8 (nodeAt t d).data).length = n := ⟨_, rfl⟩
         obtain ⟨nm, hnm⟩ : ∃ n, (strs (nodeAt t d).names).length = n := ⟨_, rfl⟩
         obtain ⟨ni, hni⟩ : ∃ n, (intsV .i64 (nodeAt t d).inos).length = n := ⟨_, rfl⟩
         rw [hnd] at hdd
         rw [hnm] at hmm
         rw [hni] at hii
         subst hdd hmm hii
         have HDN : Hid ((nodeAt t d).names.length = (nodeAt t d).inos.length ∧ (nodeAt t d).names.length ≤ 1000000) := ⟨(HG.out.1.e.each _ (nodeAt_mem HDD.out.1)).len, by have := (names_smallT HG.out.1.e (nodeAt_mem HDD.out.1)).1; omega⟩
         obtain ⟨q0, q1, q2, q3, q4⟩ := At5.below a5 HG.out.2.2.2.1 HB3.out.2.2.2.2
         simp only at q0 q1 q2 q3 q4
         obtain ⟨c0, c1⟩ := HB3.out.1.c
         have bl : b < w3.heap.size := Nat.lt_of_lt_of_le HG.out.2.2.2.1 HB3.out.2.2.2.2.size
         have dl : (d : Int) < (t.nodes.length : Int) := by have := HDD.out.1; omega
         have dz : (0 : Int) ≤ (d : Int) := by omega
         have HNC : Hid (Calls Tryz.prog 84 #[.agg #[.int .i64 (nodeAt t d).ino, .int .i64 (nodeAt t d).kind, .slice do2 nd dc2, .slice mo2 nm mc2, .slice io2 ni ic2], .string s] w3 fun e w' => e = .returned (.int .i64 (nameB (nodeAt t d) s)) ∧ Below w3.heap.size w3 w') := name_any ⟨nodeAt t d, .slice do2 nd dc2, .slice mo2 nm mc2, .slice io2 ni ic2⟩ s w3 (HFI.out.below HB3.out.2.2.2.2) HDN.out.1
         unfold resH
         clear HM4 hhc hok hhm hdl hdk ho1 ho2 hf hfw a5
         go_wp2_with fail
         go_at_call 84
         refine (HNC.out).mono ?_
         rintro e w4 ⟨rfl, hbw4⟩
         have HB4 : Hid (Bx w w4 (.slice (some ⟨b, off, none⟩) t.nodes.length cap) (.int .i64 t.next) o (.slice do' dn dc)) := HB3.out.below hbw4
         clear hbw4
         clear HB3 HNC c0 c1 q0 q1 q2 q3 q4 bl
         obtain ⟨z, hz⟩ : ∃ z, nameB (nodeAt t d) s = z := ⟨_, rfl⟩
         have HZN : Hid (nameB (nodeAt t d) s = z) := hz
         rw [hz] at HM5 ⊢
         clear hz
         by_cases hz0 : z = 0
         · subst hz0
           have HM6 : Hid (linkB t o = if 20 ≤ linksB t I then (t, noReply, 16) else (setB t d (withB (nodeAt t d) s I), noReply, 0)) := by show _ = _; rw [HM5.out, if_neg (by simp)]
           clear HM5
           have hne := ownW_nonempty w4
           obtain ⟨c0, c1⟩ := HB4.out.1.c
           obtain ⟨y0, y1, bl⟩ := HKC.out _ HB4.out.2.2.2.2
           have t0 : ∀ n : OwnW w4, n.1.cell? ⟨w.heap.size, 0, none⟩ = some (.slice (some ⟨b, off, none⟩) t.nodes.length cap) := fun n => (HB4.out.below n.2).1.c.1
           have t1 : ∀ n : OwnW w4, n.1.cell? ⟨w.heap.size, 1, none⟩ = some (.int .i64 t.next) := fun n => (HB4.out.below n.2).1.c.2
           have t2 : ∀ n : OwnW w4, n.1.cell? ⟨b, off + k * 5, none⟩ = some (.int .i64 I) := fun n => (HKC.out _ (HB4.out.below n.2).2.2.2.2).1
           have HLk : Hid (∀ n : OwnW w4, Calls Tryz.prog 55 #[.agg #[.slice (some ⟨b, off, none⟩) t.nodes.length cap, .int .i64 t.next], .int .i64 I] n.1 fun e w' => e = .returned (.int .i64 (linksB t I : Int)) ∧ ∃ m : OwnW w4, w' = m.1) := fun n => Calls.own_of (links_any _ t I n.1 (HT.out.below (HB4.out.below n.2).2.2.2.2) (by have := HG.out.1.e.size; omega) (by have := kids_leT HG.out.1 I; omega))
           obtain ⟨L, hL⟩ : ∃ L, linksB t I = L := ⟨_, rfl⟩
           rw [hL] at HLk HM6
           clear hL
           by_cases hL20 : 20 ≤ L
           · have hLd : decide ((20 : Int) ≤ (L : Int)) = true := decide_eq_true (by omega)
             have HR : Hid (linkB t o = (t, noReply, 16)) := by show _ = _; rw [HM6.out, if_pos hL20]
             go_wp2_with fail
             refine wp_region_own (by kernel_rfl) (by kernel_rfl) ?_
             repeat (go_big_quiet_step (exact HLk.out _))
             refine wpQuiet_nil ?_
             intro _ hw'
             obtain ⟨m9, hw''⟩ := hw'
             subst hw''
             have HB5 : Hid (Bx w m9.1 (.slice (some ⟨b, off, none⟩) t.nodes.length cap) (.int .i64 t.next) o (.slice do' dn dc)) := HB4.out.below m9.2
             clear c0 c1 t0 t1 t2 HLk HB4
             have hB := HB5.out
             obtain ⟨c0, c1⟩ := hB.1.c
             obtain ⟨r0, r1⟩ := hB.2.2.1.c
             have z0 := hB.2.2.1.fz 0
             have z1 := hB.2.2.1.fz 1
             obtain ⟨s0, s1, s2, s3, s4, s5, s6, s7, sz⟩ := hB.re
             obtain ⟨p0, p1, p2, p3, p4, p5⟩ := hB.op
             clear hB HM6
             go_wp2
             refine bodyPost_ret (v := .tuple #[.agg #[.slice (some ⟨b, off, none⟩) t.nodes.length cap, .int .i64 t.next], .agg #[.int .i64 0, .int .i64 0, .int .i64 0, .int .i64 0, .int .i64 0, .slice none 0 0, .slice none 0 0, .slice none 0 0], .int .i64 16]) (by simp [results, Tryz.results51, go_sem, *]) rfl ?_
             rw [HR.out]
             exact ⟨_, _, rfl, HT.out.below (out_below _ _ _ _ _ _ _ _ _ _ HB5.out.2.2.2.2), replyAt_no _, out_below _ _ _ _ _ _ _ _ _ _ HB5.out.2.2.2.2⟩
           · have hLd : decide ((20 : Int) ≤ (L : Int)) = false := decide_eq_false (by omega)
             have HR : Hid (linkB t o = (setB t d (withB (nodeAt t d) s I), noReply, 0)) := by show _ = _; rw [HM6.out, if_neg hL20]
             go_wp2_with fail
             refine wp_region_own (by kernel_rfl) (by kernel_rfl) ?_
             repeat (go_big_quiet_step (exact HLk.out _))
             refine wpQuiet_nil ?_
             intro _ hw'
             obtain ⟨m9, hw''⟩ := hw'
             subst hw''
             have HB5 : Hid (Bx w m9.1 (.slice (some ⟨b, off, none⟩) t.nodes.length cap) (.int .i64 t.next) o (.slice do' dn dc)) := HB4.out.below m9.2
             obtain ⟨w5, hw5⟩ : ∃ z, m9.1 = z := ⟨_, rfl⟩
             rw [hw5] at HB5 ⊢
             clear c0 c1 t0 t1 t2 HLk HB4 hw5 y0 y1 bl
             have HCP : Hid (Calls Tryz.prog 85 #[.agg #[.slice (some ⟨b, off, none⟩) t.nodes.length cap, .int .i64 t.next]] w5 _) := copied_any _ t fs w5 (HTF.out.below HB5.out.2.2.2.2) (by omega) (by omega)
             obtain ⟨c0, c1⟩ := HB5.out.1.c
             go_wp2_with fail
             go_at_call 85
             refine HCP.out.mono ?_
             rintro e3 w6 ⟨u, rfl, ⟨sv, hsv, hrow, hfn, hfi⟩, hb6⟩
             obtain ⟨g, cp, hsv2⟩ := own_some hrow (by omega)
             rw [hl] at hsv2
             subst hsv2
             subst hsv
             rw [hl] at hrow
             obtain ⟨w7, hw7⟩ : ∃ z, z = w6.alloc (.cells #[.slice (some ⟨g, 0, none⟩) t.nodes.length cp, .int .i64 t.next] 29) := ⟨_, rfl⟩
             have HX7 : Hid (XI w w7 w5.heap.size (w6.heap.size + 1) w6.heap.size g cp t fs) := by rw [hw7]; exact xi_new hrow HG.out.2.1 HG.out.2.2.1 HB5.out.2.2.2.2 hb6 (Array.getElem?_eq_some_iff.1 HB5.out.2.2.2.1).1
             have HB7 : Hid (Bx w w7 (.slice (some ⟨b, off, none⟩) t.nodes.length cap) (.int .i64 t.next) o (.slice do' dn dc)) := by rw [hw7]; exact (HB5.out.below hb6).below ((Below.refl _ _).alloc (Nat.le_refl _) _)
             obtain ⟨xb, hxb⟩ : ∃ z, z = w6.heap.size := ⟨_, rfl⟩
             rw [← hxb] at HX7
             obtain ⟨K, hK⟩ : ∃ z, z = xb + 1 := ⟨_, rfl⟩
             rw [← hK] at HX7
             clear HCP hrow hfn hfi hb6 HB5 hK c0 c1
             go_upto_region 17 with fail
             rw [← hw7, ← hxb]
             clear hw7 hxb
             obtain ⟨f2, hfn5, hfi5, ha5⟩ := HX7.out.node HDD.out.1
             clear HFI
             obtain ⟨nn2, dd2, mm2, ii2⟩ := f2
             simp only at hfn5
             subst hfn5
             have HFI : Hid (FN.is w7 ⟨nodeAt t d, dd2, mm2, ii2⟩) := hfi5
             obtain ⟨q0, q1, q2, q3, q4⟩ := ha5
             simp only at q0 q1 q2 q3 q4
             obtain ⟨do3, dc3, hdd, _⟩ := hfi5.1
             obtain ⟨mo3, mc3, hmm, _⟩ := hfi5.2.1
             obtain ⟨io3, ic3, hii, _⟩ := hfi5.2.2
             simp only at hdd hmm hii
             rw [hnd] at hdd
             rw [hnm] at hmm
             rw [hni] at hii
             subst hdd hmm hii
             obtain ⟨x0, x1, x2, x3, x4⟩ := HX7.out.cells
             obtain ⟨c0, c1⟩ := HB7.out.1.c
             obtain ⟨y0, y1, bl⟩ := HKC.out _ HB7.out.2.2.2.2
             have HWC : Hid (∀ U, Below w7.heap.size w7 U → Calls Tryz.prog 86 #[.agg #[.int .i64 (nodeAt t d).ino, .int .i64 (nodeAt t d).kind, .slice do3 nd dc3, .slice mo3 nm mc3, .slice io3 ni ic3], .string s, .int .i64 I] U fun e w' => ∃ xo xn xc yo yn yc, e = .returned (.agg #[.int .i64 (nodeAt t d).ino, .int .i64 (nodeAt t d).kind, .slice none 0 0, .slice xo xn xc, .slice yo yn yc]) ∧ Hid (FreshN K w' ⟨withB (nodeAt t d) s I, .slice none 0 0, .slice xo xn xc, .slice yo yn yc⟩ ∧ Below w7.heap.size w7 w') ∧ w'.cell? ⟨xb, 0, none⟩ = some (.slice (some ⟨g, 0, none⟩) t.nodes.length cp) ∧ xb < w'.heap.size ∧ g < w'.heap.size ∧ (∀ j, w'.frozen? ⟨g, j, none⟩ = false) ∧ w'.cell? ⟨g, d * 5, none⟩ = some (.int .i64 (nodeAt t d).ino) ∧ w'.cell? ⟨g, d * 5 + 1, none⟩ = some (.int .i64 (nodeAt t d).kind) ∧ w'.cell? ⟨g, d * 5 + 2, none⟩ = some (.slice do3 nd dc3) ∧ w'.cell? ⟨g, d * 5 + 3, none⟩ = some (.slice mo3 nm mc3) ∧ w'.cell? ⟨g, d * 5 + 4, none⟩ = some (.slice io3 ni ic3)) := fun U hU => by
              refine (with_any ⟨nodeAt t d, .slice do3 nd dc3, .slice mo3 nm mc3, .slice io3 ni ic3⟩ s I U (HFI.out.below hU) HDN.out.1 HDN.out.2).mono ?_
              rintro e w' ⟨X, Y, rfl, hi5, hx5, hy5, hb'⟩
              have hbw := bel2v hU hb'
              have hX := HX7.out.below hbw
              obtain ⟨z0, z1, z2, z3, z4⟩ := hX.cells
              obtain ⟨xo, xc, hXe, _⟩ := hi5.2.1
              obtain ⟨yo, yc, hYe, _⟩ := hi5.2.2
              have hfr := freshN_of (K := K) hi5 hx5 hy5 (Nat.le_trans HX7.out.KW hU.size)
              simp only at hXe hYe
              rw [hXe, hYe] at hfr
              exact ⟨xo, _, xc, yo, _, yc, by rw [← hXe, ← hYe], ⟨hfr, hbw⟩, z0, z2, z3, z4, (hbw.cell (by exact x3)).trans q0, (hbw.cell (by exact x3)).trans q1, (hbw.cell (by exact x3)).trans q2, (hbw.cell (by exact x3)).trans q3, (hbw.cell (by exact x3)).trans q4⟩
             clear hfi5
             go_cut [] (fun wx => ∃ xo xn xc yo yn yc w8, wx = set5 w8 g (d * 5) ⟨withB (nodeAt t d) s I, .slice none 0 0, .slice xo xn xc, .slice yo yn yc⟩ ∧ Hid (FreshN K w8 ⟨withB (nodeAt t d) s I, .slice none 0 0, .slice xo xn xc, .slice yo yn yc⟩ ∧ Below w7.heap.size w7 w8))
             case first =>
              go_region_with (go_at_call 86; refine (HWC.out _ (by first | exact Below.refl _ _ | exact (Below.refl _ _).drew)).mono ?_; rintro e6 w8 ⟨xo, xn, xc, yo, yn, yc, rfl, H6, k0, k1, k2, kz, k3, k4, k5, k6, k7⟩)
              all_goals (
               go_wp2_with fail
               go_meet
               case rel => exact ⟨xo, xn, xc, yo, yn, yc, w8, rfl, H6⟩)
             case rest =>
              obtain ⟨xo, xn, xc, yo, yn, yc, w8, hwc, H6⟩ := hcut
              obtain ⟨f', hf'⟩ : ∃ f' : FN, f' = ⟨withB (nodeAt t d) s I, .slice none 0 0, .slice xo xn xc, .slice yo yn yc⟩ := ⟨_, rfl⟩
              rw [← hf'] at H6 hwc
              have hfl : d < fs.length := by have := HDD.out.1; omega
              have HX9 : Hid (XI w wc w5.heap.size K xb g cp (setB t d (withB (nodeAt t d) s I)) (fs.set d f')) := by
               have h9 := (HX7.out.below H6.out.2).put hfl H6.out.1
               rw [hwc]
               have e9 : f'.n = withB (nodeAt t d) s I := by rw [hf']
               rw [e9] at h9
               exact h9
              have HB9 : Hid (Bx w wc (.slice (some ⟨b, off, none⟩) t.nodes.length cap) (.int .i64 t.next) o (.slice do' dn dc)) := by rw [hwc]; exact (HB7.out.below H6.out.2).set5 (Nat.le_trans HX7.out.lo4 HX7.out.glo) _ _
              clear hwc hf' H6 HWC HX7 HB7 HFI x0 x1 x2 x3 x4 q0 q1 q2 q3 q4 c0 c1 y0 y1 bl
              obtain ⟨X, hX⟩ : ∃ X, setB t d (withB (nodeAt t d) s I) = X := ⟨_, rfl⟩
              have HXL : Hid (X.nodes.length ≤ 60) := by rw [← hX, set_len]; exact HG.out.1.e.size
              rw [hX] at HX9 HR
              clear hX
              obtain ⟨x0, x1, x2, x3, x4⟩ := HX9.out.cells
              obtain ⟨XN, hXN⟩ : ∃ z, X.nodes.length = z := ⟨_, rfl⟩
              obtain ⟨XX, hXX⟩ : ∃ z, X.next = z := ⟨_, rfl⟩
              rw [hXN] at x0
              rw [hXX] at x1
              have HEn : Hid (TreeAt (outW wc w.heap.size (.slice (some ⟨g, 0, none⟩) XN cp) (.int .i64 XX) (.int .i64 0) (.int .i64 0) (.int .i64 0) (.int .i64 0) (.int .i64 0) (.slice none 0 0) (.slice none 0 0) (.slice none 0 0)) (.agg #[.slice (some ⟨g, 0, none⟩) XN cp, .int .i64 XX]) X ∧ Below w.heap.size w (outW wc w.heap.size (.slice (some ⟨g, 0, none⟩) XN cp) (.int .i64 XX) (.int .i64 0) (.int .i64 0) (.int .i64 0) (.int .i64 0) (.int .i64 0) (.slice none 0 0) (.slice none 0 0) (.slice none 0 0))) := by
               have h9 := HX9.out.out_end HXL.out (.slice (some ⟨g, 0, none⟩) XN cp) (.int .i64 XX) (.int .i64 0) (.int .i64 0) (.int .i64 0) (.int .i64 0) (.int .i64 0) (.slice none 0 0) (.slice none 0 0) (.slice none 0 0)
               rw [hXX, hXN] at h9
               exact h9
              clear HX9 hXN hXX
              obtain ⟨r0, r1⟩ := HB9.out.2.2.1.c
              have z0 := HB9.out.2.2.1.fz 0
              have z1 := HB9.out.2.2.1.fz 1
              obtain ⟨s0, s1, s2, s3, s4, s5, s6, s7, sz⟩ := HB9.out.re
              go_wp2
              refine bodyPost_ret (v := .tuple #[.agg #[.slice (some ⟨g, 0, none⟩) XN cp, .int .i64 XX], .agg #[.int .i64 0, .int .i64 0, .int .i64 0, .int .i64 0, .int .i64 0, .slice none 0 0, .slice none 0 0, .slice none 0 0], .int .i64 0]) (by simp [results, Tryz.results51, go_sem, *]) rfl ?_
              rw [HR.out]
              unfold outW at HEn
              exact ⟨_, _, rfl, HEn.out.1, replyAt_no _, HEn.out.2⟩
         · have hze : (z == 0) = false := beq_eq_false_iff_ne.2 hz0
           have hze2 : (z != 0) = true := by simp [hz0]
           have HR : Hid (linkB t o = (t, noReply, 6)) := by show _ = _; rw [HM5.out, if_pos hz0]
           have hB := HB4.out
           obtain ⟨c0, c1⟩ := hB.1.c
           obtain ⟨r0, r1⟩ := hB.2.2.1.c
           have z0 := hB.2.2.1.fz 0
           have z1 := hB.2.2.1.fz 1
           obtain ⟨s0, s1, s2, s3, s4, s5, s6, s7, sz⟩ := hB.re
           obtain ⟨p0, p1, p2, p3, p4, p5⟩ := hB.op
           clear hB HM5 hz0 HZN
           go_wp2
           refine bodyPost_ret (v := .tuple #[.agg #[.slice (some ⟨b, off, none⟩) t.nodes.length cap, .int .i64 t.next], .agg #[.int .i64 0, .int .i64 0, .int .i64 0, .int .i64 0, .int .i64 0, .slice none 0 0, .slice none 0 0, .slice none 0 0], .int .i64 6]) (by simp [results, Tryz.results51, go_sem, *]) rfl ?_
           rw [HR.out]
           exact ⟨_, _, rfl, HT.out.below (out_below _ _ _ _ _ _ _ _ _ _ HB4.out.2.2.2.2), replyAt_no _, out_below _ _ _ _ _ _ _ _ _ _ HB4.out.2.2.2.2⟩
 · have hxe : (x == 0) = false := beq_eq_false_iff_ne.2 hx0
   have hxe2 : (x != 0) = true := by simp [hx0]
   have HR : Hid (linkB t o = (t, noReply, x)) := by show _ = _; rw [HM.out, if_pos hx0]
   have hB := HB1.out
   obtain ⟨c0, c1⟩ := hB.1.c
   obtain ⟨r0, r1⟩ := hB.2.2.1.c
   have z0 := hB.2.2.1.fz 0
   have z1 := hB.2.2.1.fz 1
   obtain ⟨s0, s1, s2, s3, s4, s5, s6, s7, sz⟩ := hB.re
   obtain ⟨p0, p1, p2, p3, p4, p5⟩ := hB.op
   clear hB HM hx0
   go_wp2
   refine bodyPost_ret (v := .tuple #[.agg #[.slice (some ⟨b, off, none⟩) t.nodes.length cap, .int .i64 t.next], .agg #[.int .i64 0, .int .i64 0, .int .i64 0, .int .i64 0, .int .i64 0, .slice none 0 0, .slice none 0 0, .slice none 0 0], .int .i64 x]) (by simp [results, Tryz.results51, go_sem, *]) rfl ?_
   rw [HR.out]
   exact ⟨_, _, rfl, HT.out.below (out_below _ _ _ _ _ _ _ _ _ _ HB1.out.2.2.2.2), replyAt_no _, out_below _ _ _ _ _ _ _ _ _ _ HB1.out.2.2.2.2⟩
end Go.Proofs.YtbebgobboccjcaaGreatDoor
