/- dolmenref5.Do: what one call answers, where it only looks. -/
import Derived.Test.YtbebgobboccjcaaGreatDoorH4
import Derived.Test.YtbebgobboccjcaaGreatDoorPTLink
import Derived.Test.YtbebgobboccjcaaGreatDoorPTFileW
import Derived.Test.YtbebgobboccjcaaGreatDoorH1
import Derived.Test.YtbebgobboccjcaaGreatDoorPTRenR
namespace Go.Proofs.YtbebgobboccjcaaGreatDoor
open Go.RowKit Kit
set_option linter.unusedVariables false

set_option maxRecDepth 4000 in
theorem tsize_any (n : NodeB) (do1 mo1 io1 : Option Addr) (dc1 mc1 ni1 ic1 : Nat) (w : World) (hk : n.kind = 1 ∨ n.kind = 2) :
 Calls Tryz.prog 54 #[.agg #[.int .i64 n.ino, .int .i64 n.kind, .slice do1 n.data.length dc1, .slice mo1 n.names.length mc1, .slice io1 ni1 ic1]] w fun e w' => e = .returned (.int .i64 (sizeB n : Int)) ∧ Below w.heap.size w w' := by
 have HS : Hid (sizeB n = if n.kind = 1 then n.data.length else n.names.length) := rfl
 obtain ⟨kd, hkd⟩ : ∃ z, n.kind = z := ⟨_, rfl⟩
 rw [hkd] at hk HS ⊢
 obtain ⟨S, hS⟩ : ∃ z, sizeB n = z := ⟨_, rfl⟩
 rw [hS] at HS ⊢
 obtain ⟨L1, hL1⟩ : ∃ z, n.data.length = z := ⟨_, rfl⟩
 obtain ⟨L2, hL2⟩ : ∃ z, n.names.length = z := ⟨_, rfl⟩
 rw [hL1, hL2] at HS ⊢
 clear hS hL1 hL2 hkd
 rcases hk with hk | hk
 · subst hk
   have HE : Hid (S = L1) := by show _ = _; rw [HS.out, if_pos rfl]
   clear HS
   go_enter Tryz.func54, Tryz.ntmps54
   go_wp2
   go_ret
   rw [HE.out]
   exact ⟨rfl, bel_newP _ _⟩
 · subst hk
   have HE : Hid (S = L2) := by show _ = _; rw [HS.out, if_neg (by omega)]
   clear HS
   go_enter Tryz.func54, Tryz.ntmps54
   go_wp2
   go_ret
   rw [HE.out]
   exact ⟨rfl, bel_newP _ _⟩
set_option maxRecDepth 4000 in
set_option maxHeartbeats 40000000 in
theorem dref_looks (v ov : Value) (t : TreeB) (o : OpB) (w : World) (hT : TreeAt w v t) (hg : Good t) (ho : OpAt w ov o) (hk : o.kind = 10 ∨ o.kind = 11) :
 Calls Tryz.prog 30 #[v, ov] w fun e w' => ∃ tv rv, e = .returned (.tuple #[tv, rv, .int .i64 (doB t o).2.2]) ∧ TreeAt w' tv (doB t o).1 ∧ ReplyAt w' rv (doB t o).2.1 ∧ Below w.heap.size w w' := by
 have HT : Hid (TreeAt w v t) := hT
 obtain ⟨fs, hF⟩ : ∃ fs, TreeG w v t fs := by obtain ⟨sv, fs, h⟩ := hT; exact ⟨fs, sv, h⟩
 have HTF : Hid (TreeG w v t fs) := hF
 obtain ⟨ao, cap, rfl, q1, q2, q3, q4, q5⟩ := hF.opened
 obtain ⟨dv, rfl, ho1, ho2, ho3, ho4⟩ := ho
 obtain ⟨b, off, rfl, hb, hc⟩ := q5 hg.e.root0.1
 have hl := fs_len q3
 have lm : (t.nodes.length : Int) ≤ 60 := by have := hg.e.size; omega
 obtain ⟨do', dc, hdv, _⟩ := ho1
 obtain ⟨dn, hdn⟩ : ∃ n, (intsV .u8 o.data).length = n := ⟨_, rfl⟩
 rw [hdn] at hdv
 subst hdv
 have HG : Hid (Good t ∧ fs.map FN.n = t.nodes ∧ (∀ f ∈ fs, f.is w) ∧ b < w.heap.size ∧ ∀ k (hk : k < fs.length), At5 w b (off + k * 5) fs[k]) := ⟨hg, q3, q4, hb, hc⟩
 have HH : Hid (∀ W, Below w.heap.size w W → Calls Tryz.prog 83 #[.agg #[.slice (some ⟨b, off, none⟩) t.nodes.length cap, .int .i64 t.next], .string o.path] W fun e w' => e = .returned (resH (homeB t o.path)) ∧ Below W.heap.size W w') := fun W hb => home_any _ t o.path W (HT.out.below hb) hg ho2
 have HF0 : Hid (∀ W, Below w.heap.size w W → Calls Tryz.prog 53 #[.agg #[.slice (some ⟨b, off, none⟩) t.nodes.length cap, .int .i64 t.next], .string o.path] W fun e w' => e = .returned (resV (findB t o.path)) ∧ Below W.heap.size W w') := fun W hb => find_any _ t o.path W (HT.out.below hb) hg ho2
 have HLk : Hid (∀ W i, Below w.heap.size w W → Calls Tryz.prog 55 #[.agg #[.slice (some ⟨b, off, none⟩) t.nodes.length cap, .int .i64 t.next], .int .i64 i] W fun e w' => e = .returned (.int .i64 (linksB t i : Int)) ∧ Below W.heap.size W w') := fun W i hb => links_any _ t i W (HT.out.below hb) (by have := hg.e.size; omega) (by have := kids_leT hg i; omega)
 clear q1 q2 q3 q4 q5 hT hF hb hc hg ho2 ho3 ho4 hdn
 unfold opV
 obtain ⟨w0, hw0⟩ : ∃ w0, w0 = ((((w.alloc (.cells #[.slice (some ⟨b, off, none⟩) t.nodes.length cap, .int .i64 t.next] 29)).alloc (.cells #[.int .i64 o.kind, .string o.path, .string o.to, .int .i64 o.off, .int .i64 o.n, .slice do' dn dc, .int .i64 o.snap] 35)).alloc (.cells #[.slice none 0 0, .int .i64 0] 29)).alloc (.cells #[.int .i64 0, .int .i64 0, .int .i64 0, .int .i64 0, .int .i64 0, .slice none 0 0, .slice none 0 0, .slice none 0 0] 40)) := ⟨_, rfl⟩
 have HB0 : Hid (Bx w w0 (.slice (some ⟨b, off, none⟩) t.nodes.length cap) (.int .i64 t.next) o (.slice do' dn dc)) := by rw [hw0]; exact bx_new w _ _ _ o
 rcases hk with hk | hk
 · cases hf : findB t o.path with
   | error x =>
     have HFd : Hid (∀ W, Below w.heap.size w W → Calls Tryz.prog 53 #[.agg #[.slice (some ⟨b, off, none⟩) t.nodes.length cap, .int .i64 t.next], .string o.path] W fun e w' => e = .returned (.tuple #[.int .i64 (-1), .int .i64 x]) ∧ Below W.heap.size W w') := fun W hb => by
      have h9 := HF0.out W hb
      rw [hf] at h9
      exact h9
     clear HF0
     have e1 : (o.kind == 1) = false := by rw [hk]; rfl
     have e2 : (o.kind == 2) = false := by rw [hk]; rfl
     have e3 : (o.kind == 3) = false := by rw [hk]; rfl
     have e4 : (o.kind == 4) = false := by rw [hk]; rfl
     have e5 : (o.kind == 5) = false := by rw [hk]; rfl
     have e6 : (o.kind == 6) = false := by rw [hk]; rfl
     have e7 : (o.kind == 7) = false := by rw [hk]; rfl
     have e8 : (o.kind == 8) = false := by rw [hk]; rfl
     have e9 : (o.kind == 9) = false := by rw [hk]; rfl
     have e10 : (o.kind == 10) = true := by rw [hk]; rfl
     have HE : Hid (doB t o = looksB t o) := by show _ = _; simp [doB, hk]
     have HR : Hid (doB t o = (t, noReply, x)) := by show _ = _; rw [HE.out]; unfold looksB; rw [hf]
     have hx : x ≠ 0 := by have h9 := find_code hf; omega
     have hxe : (x == 0) = false := beq_eq_false_iff_ne.2 hx
     have hxe2 : (x != 0) = true := by simp [hx]
     clear HH HE hk hf hx HLk
     go_enter Tryz.func30, Tryz.ntmps30
     go_wp2_with fail
     go_at_call 53
     rw [← hw0]
     refine (HFd.out w0 HB0.out.2.2.2.2).mono ?_
     rintro e w1 ⟨rfl, hb1⟩
     have HB1 : Hid (Bx w w1 (.slice (some ⟨b, off, none⟩) t.nodes.length cap) (.int .i64 t.next) o (.slice do' dn dc)) := HB0.out.below hb1
     clear HB0 hw0 hb1 HFd
     have hB := HB1.out
     obtain ⟨c0, c1⟩ := hB.1.c
     obtain ⟨r0, r1⟩ := hB.2.2.1.c
     have z0 := hB.2.2.1.fz 0
     have z1 := hB.2.2.1.fz 1
     obtain ⟨s0, s1, s2, s3, s4, s5, s6, s7, sz⟩ := hB.re
     obtain ⟨p0, p1, p2, p3, p4, p5⟩ := hB.op
     clear hB 
     go_wp2
     refine bodyPost_ret (v := .tuple #[.agg #[.slice (some ⟨b, off, none⟩) t.nodes.length cap, .int .i64 t.next], .agg #[.int .i64 0, .int .i64 0, .int .i64 0, .int .i64 0, .int .i64 0, .slice none 0 0, .slice none 0 0, .slice none 0 0], .int .i64 x]) (by simp [results, Tryz.results30, go_sem, *]) rfl ?_
     rw [HR.out]
     exact ⟨_, _, rfl, HT.out.below (out_below _ _ _ _ _ _ _ _ _ _ HB1.out.2.2.2.2), replyAt_no _, out_below _ _ _ _ _ _ _ _ _ _ HB1.out.2.2.2.2⟩
   | ok k =>
     have HFd : Hid (∀ W, Below w.heap.size w W → Calls Tryz.prog 53 #[.agg #[.slice (some ⟨b, off, none⟩) t.nodes.length cap, .int .i64 t.next], .string o.path] W fun e w' => e = .returned (.tuple #[.int .i64 (k : Int), .int .i64 0]) ∧ Below W.heap.size W w') := fun W hb => by
      have h9 := HF0.out W hb
      rw [hf] at h9
      exact h9
     clear HF0
     have hkl : k < t.nodes.length := (find_ok HG.out.1.e hf).2.2
     have e1 : (o.kind == 1) = false := by rw [hk]; rfl
     have e2 : (o.kind == 2) = false := by rw [hk]; rfl
     have e3 : (o.kind == 3) = false := by rw [hk]; rfl
     have e4 : (o.kind == 4) = false := by rw [hk]; rfl
     have e5 : (o.kind == 5) = false := by rw [hk]; rfl
     have e6 : (o.kind == 6) = false := by rw [hk]; rfl
     have e7 : (o.kind == 7) = false := by rw [hk]; rfl
     have e8 : (o.kind == 8) = false := by rw [hk]; rfl
     have e9 : (o.kind == 9) = false := by rw [hk]; rfl
     have e10 : (o.kind == 10) = true := by rw [hk]; rfl
     have HE : Hid (doB t o = looksB t o) := by show _ = _; simp [doB, hk]
     obtain ⟨do1, nd1, dc1, mo1, mc1, io1, ni1, ic1, hfk5, hak⟩ := base5r HG.out.2.1 HG.out.2.2.1 HG.out.2.2.2.2 hkl
     have hnd : nd1 = (nodeAt t k).data.length := by
      obtain ⟨a9, c9, e9, _⟩ := hfk5.1
      injection e9 with _ e92 _
      rw [e92, intsV_len]
     obtain ⟨I, hI⟩ : ∃ z, (nodeAt t k).ino = z := ⟨_, rfl⟩
     obtain ⟨kd, hkd⟩ : ∃ z, (nodeAt t k).kind = z := ⟨_, rfl⟩
     obtain ⟨NK, hNK⟩ : ∃ z, (nodeAt t k).names.length = z := ⟨_, rfl⟩
     have HAK : Hid (At5 w b (off + k * 5) ⟨nodeAt t k, .slice do1 nd1 dc1, .slice mo1 NK mc1, .slice io1 ni1 ic1⟩) := by rw [← hNK]; exact hak
     have HFK : Hid (FN.is w ⟨nodeAt t k, .slice do1 nd1 dc1, .slice mo1 NK mc1, .slice io1 ni1 ic1⟩) := by rw [← hNK]; exact hfk5
     have HIK : Hid ((nodeAt t k).ino = I ∧ (nodeAt t k).kind = kd ∧ (nodeAt t k).names.length = NK ∧ k < t.nodes.length) := ⟨hI, hkd, hNK, hkl⟩
     have HKD : Hid (kd = 1 ∨ kd = 2) := by rw [← hkd]; exact HG.out.1.e.fair.kind (nodeAt_mem hkl)
     have j0 : (k : Int) < (t.nodes.length : Int) := by omega
     have j1 : (0 : Int) ≤ (k : Int) := by omega
     have HSz : Hid (∀ W, Calls Tryz.prog 54 #[.agg #[.int .i64 I, .int .i64 kd, .slice do1 nd1 dc1, .slice mo1 NK mc1, .slice io1 ni1 ic1]] W fun e w' => e = .returned (.int .i64 (sizeB (nodeAt t k) : Int)) ∧ Below W.heap.size W w') := fun W => by
      have h9 := tsize_any (nodeAt t k) do1 mo1 io1 dc1 mc1 ni1 ic1 W (HG.out.1.e.fair.kind (nodeAt_mem hkl))
      rw [hI, hkd, hNK, ← hnd] at h9
      exact h9
     have HR : Hid (doB t o = (t, { noReply with ino := (nodeAt t k).ino, kind := (nodeAt t k).kind, size := sizeB (nodeAt t k), links := linksB t (nodeAt t k).ino }, 0)) := by show _ = _; rw [HE.out]; unfold looksB; rw [hf]; dsimp only; rw [if_pos hk]
     obtain ⟨SZ, hSZ⟩ : ∃ z, sizeB (nodeAt t k) = z := ⟨_, rfl⟩
     obtain ⟨LK, hLK⟩ : ∃ z, linksB t I = z := ⟨_, rfl⟩
     rw [hI, hkd, hSZ, hLK] at HR
     rw [hSZ] at HSz
     have HLI : Hid (∀ W, Below w.heap.size w W → Calls Tryz.prog 55 #[.agg #[.slice (some ⟨b, off, none⟩) t.nodes.length cap, .int .i64 t.next], .int .i64 I] W fun e w' => e = .returned (.int .i64 (LK : Int)) ∧ Below W.heap.size W w') := fun W hb => by
      have h9 := HLk.out W I hb
      rw [hLK] at h9
      exact h9
     clear HH HE hk hf hkl hfk5 hak hnd hI hkd hNK hSZ hLK HLk HFK
     go_enter Tryz.func30, Tryz.ntmps30
     go_wp2_with fail
     go_at_call 53
     rw [← hw0]
     refine (HFd.out w0 HB0.out.2.2.2.2).mono ?_
     rintro e w1 ⟨rfl, hb1⟩
     have HB1 : Hid (Bx w w1 (.slice (some ⟨b, off, none⟩) t.nodes.length cap) (.int .i64 t.next) o (.slice do' dn dc)) := HB0.out.below hb1
     clear HB0 hw0 hb1 HFd
     obtain ⟨y0, y1', y2', y3, y4⟩ := At5.below HAK.out HG.out.2.2.2.1 HB1.out.2.2.2.2
     simp only at y0 y1' y2' y3 y4
     rw [HIK.out.1] at y0
     rw [HIK.out.2.1] at y1'
     have bl : b < w1.heap.size := Nat.lt_of_lt_of_le HG.out.2.2.2.1 HB1.out.2.2.2.2.size
     obtain ⟨c0, c1⟩ := HB1.out.1.c
     obtain ⟨w4, hw4⟩ : ∃ z, z = w1.alloc (.cells #[.int .i64 I, .int .i64 kd, .slice do1 nd1 dc1, .slice mo1 NK mc1, .slice io1 ni1 ic1] 60) := ⟨_, rfl⟩
     have HB4 : Hid (Bx w w4 (.slice (some ⟨b, off, none⟩) t.nodes.length cap) (.int .i64 t.next) o (.slice do' dn dc)) := by rw [hw4]; exact HB1.out.below (bel_newP _ _)
     have HN4 : Hid (w4.heap[w1.heap.size]? = some (.cells #[.int .i64 I, .int .i64 kd, .slice do1 nd1 dc1, .slice mo1 NK mc1, .slice io1 ni1 ic1] 60)) := by rw [hw4]; exact (MapKept.heap_alloc w1 _).1
     obtain ⟨nb, hnb⟩ : ∃ z, z = w1.heap.size := ⟨_, rfl⟩
     rw [← hnb] at HN4
     have HNB : Hid (w.heap.size + 4 ≤ nb) := by rw [hnb]; exact (Array.getElem?_eq_some_iff.1 HB1.out.2.2.2.1).1
     clear HB1
     go_upto_region 22 with fail
     rw [← hw4, ← hnb]
     clear hw4 hnb y0 y1' y2' y3 y4 c0 c1 bl j0 j1
     have p0 := HB4.out.op.1
     have n0 := cell_ofRr (j := 0) HN4.out rfl
     have n1 := cell_ofRr (j := 1) HN4.out rfl
     have nl := cell_lt n0
     have HKP : Hid (∀ W, Below w4.heap.size w4 W → W.cell? ⟨w.heap.size, 0, none⟩ = some (.slice (some ⟨b, off, none⟩) t.nodes.length cap) ∧ W.cell? ⟨w.heap.size, 1, none⟩ = some (.int .i64 t.next) ∧ W.cell? ⟨nb, 0, none⟩ = some (.int .i64 I) ∧ W.cell? ⟨nb, 1, none⟩ = some (.int .i64 kd) ∧ W.cell? ⟨nb, 2, none⟩ = some (.slice do1 nd1 dc1) ∧ W.cell? ⟨nb, 3, none⟩ = some (.slice mo1 NK mc1) ∧ W.cell? ⟨nb, 4, none⟩ = some (.slice io1 ni1 ic1) ∧ Hid (Below w4.heap.size w4 W)) := fun W h9 => ⟨cell_oldW h9 HB4.out.1.c.1, cell_oldW h9 HB4.out.1.c.2, cell_oldW h9 n0, cell_oldW h9 n1, cell_oldW h9 (cell_ofRr (j := 2) HN4.out rfl), cell_oldW h9 (cell_ofRr (j := 3) HN4.out rfl), cell_oldW h9 (cell_ofRr (j := 4) HN4.out rfl), h9⟩
     have hy2 : w.heap.size + 1 + 1 ≠ w.heap.size := by omega
     have hy3 : w.heap.size + 1 + 1 + 1 ≠ w.heap.size := by omega
     have hz2 : w.heap.size + 1 + 1 ≠ nb := by have := HNB.out; omega
     have hz3 : w.heap.size + 1 + 1 + 1 ≠ nb := by have := HNB.out; omega
     obtain ⟨a0, a1, a2, a3, a4, a5, a6, _⟩ := HKP.out w4.drew (Below.refl _ _).drew
     have HBX : Hid (∀ W, Below w4.heap.size w4 W → Bx w W (.slice (some ⟨b, off, none⟩) t.nodes.length cap) (.int .i64 t.next) o (.slice do' dn dc)) := fun W h9 => HB4.out.below h9
     go_upto_region 23 with fail
     clear p0 n0 n1
     go_region_held3 (fun W => W.cell? ⟨w.heap.size, 0, none⟩ = some (.slice (some ⟨b, off, none⟩) t.nodes.length cap) ∧ W.cell? ⟨w.heap.size, 1, none⟩ = some (.int .i64 t.next) ∧ W.cell? ⟨nb, 0, none⟩ = some (.int .i64 I) ∧ W.cell? ⟨nb, 1, none⟩ = some (.int .i64 kd) ∧ W.cell? ⟨nb, 2, none⟩ = some (.slice do1 nd1 dc1) ∧ W.cell? ⟨nb, 3, none⟩ = some (.slice mo1 NK mc1) ∧ W.cell? ⟨nb, 4, none⟩ = some (.slice io1 ni1 ic1)) (first | with_reducible exact ⟨a0, a1, a2, a3, a4, a5, a6⟩ | with_reducible exact ⟨f0, f1, f2, f3, f4, f5, f6⟩ | with_reducible exact ⟨g0, g1, g2, g3, g4, g5, g6⟩ | with_reducible exact ⟨keep2W g0 hy2, keep2W g1 hy2, keep2W g2 hz2, keep2W g3 hz2, keep2W g4 hz2, keep2W g5 hz2, keep2W g6 hz2⟩ | with_reducible exact ⟨keep8W (keep2W g0 hy2) hy3, keep8W (keep2W g1 hy2) hy3, keep8W (keep2W g2 hz2) hz3, keep8W (keep2W g3 hz2) hz3, keep8W (keep2W g4 hz2) hz3, keep8W (keep2W g5 hz2) hz3, keep8W (keep2W g6 hz2) hz3⟩) (first
      | (go_at_call 54; refine (HSz.out _).mono ?_; rintro e5 w5 ⟨rfl, hb5⟩; have H5 : Hid (Below w4.heap.size w4 w5) := (Below.refl w4.heap.size w4).drew.trans (hb5.mono (Below.refl w4.heap.size w4).drew.size); obtain ⟨f0, f1, f2, f3, f4, f5, f6, _⟩ := HKP.out w5 H5.out; clear hb5)
      | (go_at_call 55; refine (HLI.out _ (bel2v HB4.out.2.2.2.2 H5.out)).mono ?_; rintro e6 w6 ⟨rfl, hb6⟩; have H6 : Hid (Below w4.heap.size w4 w6) := bel2v H5.out hb6; obtain ⟨g0, g1, g2, g3, g4, g5, g6, _⟩ := HKP.out w6 H6.out; have HB9 := HBX.out w6 H6.out; obtain ⟨r0, r1⟩ := HB9.2.2.1.c; have z0 := HB9.2.2.1.fz 0; have z1 := HB9.2.2.1.fz 1; obtain ⟨s0, s1, s2, s3, s4, s5, s6, s7, sz⟩ := HB9.re; have HB9h : Hid (Bx w w6 (.slice (some ⟨b, off, none⟩) t.nodes.length cap) (.int .i64 t.next) o (.slice do' dn dc)) := HB9; clear hb6 HB9))
     all_goals (
      have HEn : Hid (TreeAt (outW w6 w.heap.size (.slice (some ⟨b, off, none⟩) t.nodes.length cap) (.int .i64 t.next) (.int .i64 I) (.int .i64 kd) (.int .i64 (SZ : Int)) (.int .i64 (LK : Int)) (.int .i64 0) (.slice none 0 0) (.slice none 0 0) (.slice none 0 0)) (.agg #[.slice (some ⟨b, off, none⟩) t.nodes.length cap, .int .i64 t.next]) t ∧ Below w.heap.size w (outW w6 w.heap.size (.slice (some ⟨b, off, none⟩) t.nodes.length cap) (.int .i64 t.next) (.int .i64 I) (.int .i64 kd) (.int .i64 (SZ : Int)) (.int .i64 (LK : Int)) (.int .i64 0) (.slice none 0 0) (.slice none 0 0) (.slice none 0 0))) := ⟨HT.out.below (out_below _ _ _ _ _ _ _ _ _ _ HB9h.out.2.2.2.2), out_below _ _ _ _ _ _ _ _ _ _ HB9h.out.2.2.2.2⟩
      go_wp2
      refine bodyPost_ret (v := .tuple #[.agg #[.slice (some ⟨b, off, none⟩) t.nodes.length cap, .int .i64 t.next], .agg #[.int .i64 I, .int .i64 kd, .int .i64 (SZ : Int), .int .i64 (LK : Int), .int .i64 0, .slice none 0 0, .slice none 0 0, .slice none 0 0], .int .i64 0]) (by simp [results, Tryz.results30, go_sem, *]) rfl ?_
      rw [HR.out]
      unfold outW at HEn
      exact ⟨_, _, rfl, HEn.out.1, ⟨_, _, _, rfl, sees_nil0 _ _ rfl, sees_nil0 _ _ rfl, sees_nil0 _ _ rfl⟩, HEn.out.2⟩)
 · cases hf : findB t o.path with
   | error x =>
     have HFd : Hid (∀ W, Below w.heap.size w W → Calls Tryz.prog 53 #[.agg #[.slice (some ⟨b, off, none⟩) t.nodes.length cap, .int .i64 t.next], .string o.path] W fun e w' => e = .returned (.tuple #[.int .i64 (-1), .int .i64 x]) ∧ Below W.heap.size W w') := fun W hb => by
      have h9 := HF0.out W hb
      rw [hf] at h9
      exact h9
     clear HF0
     have e1 : (o.kind == 1) = false := by rw [hk]; rfl
     have e2 : (o.kind == 2) = false := by rw [hk]; rfl
     have e3 : (o.kind == 3) = false := by rw [hk]; rfl
     have e4 : (o.kind == 4) = false := by rw [hk]; rfl
     have e5 : (o.kind == 5) = false := by rw [hk]; rfl
     have e6 : (o.kind == 6) = false := by rw [hk]; rfl
     have e7 : (o.kind == 7) = false := by rw [hk]; rfl
     have e8 : (o.kind == 8) = false := by rw [hk]; rfl
     have e9 : (o.kind == 9) = false := by rw [hk]; rfl
     have e10 : (o.kind == 10) = false := by rw [hk]; rfl
     have e11 : (o.kind == 11) = true := by rw [hk]; rfl
     have HE : Hid (doB t o = looksB t o) := by show _ = _; simp [doB, hk]
     have HR : Hid (doB t o = (t, noReply, x)) := by show _ = _; rw [HE.out]; unfold looksB; rw [hf]
     have hx : x ≠ 0 := by have h9 := find_code hf; omega
     have hxe : (x == 0) = false := beq_eq_false_iff_ne.2 hx
     have hxe2 : (x != 0) = true := by simp [hx]
     clear HH HE hk hf hx HLk
     go_enter Tryz.func30, Tryz.ntmps30
     go_wp2_with fail
     go_at_call 53
     rw [← hw0]
     refine (HFd.out w0 HB0.out.2.2.2.2).mono ?_
     rintro e w1 ⟨rfl, hb1⟩
     have HB1 : Hid (Bx w w1 (.slice (some ⟨b, off, none⟩) t.nodes.length cap) (.int .i64 t.next) o (.slice do' dn dc)) := HB0.out.below hb1
     clear HB0 hw0 hb1 HFd
     have hB := HB1.out
     obtain ⟨c0, c1⟩ := hB.1.c
     obtain ⟨r0, r1⟩ := hB.2.2.1.c
     have z0 := hB.2.2.1.fz 0
     have z1 := hB.2.2.1.fz 1
     obtain ⟨s0, s1, s2, s3, s4, s5, s6, s7, sz⟩ := hB.re
     obtain ⟨p0, p1, p2, p3, p4, p5⟩ := hB.op
     clear hB 
     go_wp2
     refine bodyPost_ret (v := .tuple #[.agg #[.slice (some ⟨b, off, none⟩) t.nodes.length cap, .int .i64 t.next], .agg #[.int .i64 0, .int .i64 0, .int .i64 0, .int .i64 0, .int .i64 0, .slice none 0 0, .slice none 0 0, .slice none 0 0], .int .i64 x]) (by simp [results, Tryz.results30, go_sem, *]) rfl ?_
     rw [HR.out]
     exact ⟨_, _, rfl, HT.out.below (out_below _ _ _ _ _ _ _ _ _ _ HB1.out.2.2.2.2), replyAt_no _, out_below _ _ _ _ _ _ _ _ _ _ HB1.out.2.2.2.2⟩
   | ok k =>
     by_cases hn : (nodeAt t k).kind = 2
     · skip
       have HFd : Hid (∀ W, Below w.heap.size w W → Calls Tryz.prog 53 #[.agg #[.slice (some ⟨b, off, none⟩) t.nodes.length cap, .int .i64 t.next], .string o.path] W fun e w' => e = .returned (.tuple #[.int .i64 (k : Int), .int .i64 0]) ∧ Below W.heap.size W w') := fun W hb => by
        have h9 := HF0.out W hb
        rw [hf] at h9
        exact h9
       clear HF0
       have hkl : k < t.nodes.length := (find_ok HG.out.1.e hf).2.2
       have e1 : (o.kind == 1) = false := by rw [hk]; rfl
       have e2 : (o.kind == 2) = false := by rw [hk]; rfl
       have e3 : (o.kind == 3) = false := by rw [hk]; rfl
       have e4 : (o.kind == 4) = false := by rw [hk]; rfl
       have e5 : (o.kind == 5) = false := by rw [hk]; rfl
       have e6 : (o.kind == 6) = false := by rw [hk]; rfl
       have e7 : (o.kind == 7) = false := by rw [hk]; rfl
       have e8 : (o.kind == 8) = false := by rw [hk]; rfl
       have e9 : (o.kind == 9) = false := by rw [hk]; rfl
       have e10 : (o.kind == 10) = false := by rw [hk]; rfl
       have e11 : (o.kind == 11) = true := by rw [hk]; rfl
       have HE : Hid (doB t o = looksB t o) := by show _ = _; simp [doB, hk]
       obtain ⟨do1, nd1, dc1, mo1, mc1, io1, ni1, ic1, hfk5, hak⟩ := base5r HG.out.2.1 HG.out.2.2.1 HG.out.2.2.2.2 hkl
       have hnd : nd1 = (nodeAt t k).data.length := by
        obtain ⟨a9, c9, e9, _⟩ := hfk5.1
        injection e9 with _ e92 _
        rw [e92, intsV_len]
       obtain ⟨I, hI⟩ : ∃ z, (nodeAt t k).ino = z := ⟨_, rfl⟩
       obtain ⟨kd, hkd⟩ : ∃ z, (nodeAt t k).kind = z := ⟨_, rfl⟩
       obtain ⟨NK, hNK⟩ : ∃ z, (nodeAt t k).names.length = z := ⟨_, rfl⟩
       have HAK : Hid (At5 w b (off + k * 5) ⟨nodeAt t k, .slice do1 nd1 dc1, .slice mo1 NK mc1, .slice io1 ni1 ic1⟩) := by rw [← hNK]; exact hak
       have HFK : Hid (FN.is w ⟨nodeAt t k, .slice do1 nd1 dc1, .slice mo1 NK mc1, .slice io1 ni1 ic1⟩) := by rw [← hNK]; exact hfk5
       have HIK : Hid ((nodeAt t k).ino = I ∧ (nodeAt t k).kind = kd ∧ (nodeAt t k).names.length = NK ∧ k < t.nodes.length) := ⟨hI, hkd, hNK, hkl⟩
       have HKD : Hid (kd = 1 ∨ kd = 2) := by rw [← hkd]; exact HG.out.1.e.fair.kind (nodeAt_mem hkl)
       have j0 : (k : Int) < (t.nodes.length : Int) := by omega
       have j1 : (0 : Int) ≤ (k : Int) := by omega
       have HR : Hid (doB t o = (t, { noReply with names := (nodeAt t k).names }, 0)) := by show _ = _; rw [HE.out]; unfold looksB; rw [hf]; dsimp only; rw [if_neg (by omega), if_neg (by simp [hn])]
       have hkd2 : kd = 2 := by rw [← hkd]; exact hn
       obtain ⟨D, hD⟩ : ∃ z, (nodeAt t k).names = z := ⟨_, rfl⟩
       have HD : Hid (D.length = NK ∧ D.length ≤ 1200) := ⟨by rw [← hD]; exact hNK, by rw [← hD]; exact (names_smallT HG.out.1.e (nodeAt_mem hkl)).1⟩
       have HSN : Hid (Sees w (.slice mo1 NK mc1) (strs D)) := by rw [← hD]; exact HFK.out.2.1
       rw [hD] at HR
       subst hkd2
       clear HH HE hk hf hn hkl hfk5 hak hnd hI hkd hNK hD HKD HFK HLk
       go_enter Tryz.func30, Tryz.ntmps30
       go_wp2_with fail
       go_at_call 53
       rw [← hw0]
       refine (HFd.out w0 HB0.out.2.2.2.2).mono ?_
       rintro e w1 ⟨rfl, hb1⟩
       have HB1 : Hid (Bx w w1 (.slice (some ⟨b, off, none⟩) t.nodes.length cap) (.int .i64 t.next) o (.slice do' dn dc)) := HB0.out.below hb1
       clear HB0 hw0 hb1 HFd
       obtain ⟨y0, y1', y2', y3, y4⟩ := At5.below HAK.out HG.out.2.2.2.1 HB1.out.2.2.2.2
       simp only at y0 y1' y2' y3 y4
       rw [HIK.out.1] at y0
       rw [HIK.out.2.1] at y1'
       have bl : b < w1.heap.size := Nat.lt_of_lt_of_le HG.out.2.2.2.1 HB1.out.2.2.2.2.size
       obtain ⟨c0, c1⟩ := HB1.out.1.c
       obtain ⟨w4, hw4⟩ : ∃ z, z = w1.alloc (.cells #[.int .i64 I, .int .i64 2, .slice do1 nd1 dc1, .slice mo1 NK mc1, .slice io1 ni1 ic1] 60) := ⟨_, rfl⟩
       have HB4 : Hid (Bx w w4 (.slice (some ⟨b, off, none⟩) t.nodes.length cap) (.int .i64 t.next) o (.slice do' dn dc)) := by rw [hw4]; exact HB1.out.below (bel_newP _ _)
       have HN4 : Hid (w4.heap[w1.heap.size]? = some (.cells #[.int .i64 I, .int .i64 2, .slice do1 nd1 dc1, .slice mo1 NK mc1, .slice io1 ni1 ic1] 60)) := by rw [hw4]; exact (MapKept.heap_alloc w1 _).1
       obtain ⟨nb, hnb⟩ : ∃ z, z = w1.heap.size := ⟨_, rfl⟩
       rw [← hnb] at HN4
       have HNB : Hid (w.heap.size + 4 ≤ nb) := by rw [hnb]; exact (Array.getElem?_eq_some_iff.1 HB1.out.2.2.2.1).1
       clear HB1
       go_upto_region 22 with fail
       rw [← hw4, ← hnb]
       clear hw4 hnb y0 y1' y2' y3 y4 c0 c1 bl j0 j1
       have p0 := HB4.out.op.1
       have n0 := cell_ofRr (j := 0) HN4.out rfl
       have n1 := cell_ofRr (j := 1) HN4.out rfl
       have nl := cell_lt n0
       have HO : Hid (RowV (w4.alloc (.cells #[] 9)).drew w4.heap.size 9 (.slice (some ⟨w4.heap.size, 0, none⟩) 0 0) []) := by
        have h9 := rowV_lit w4 w4.heap.size 9 [] (Nat.le_refl _) (by simp)
        exact h9
       have HVy : Hid (Sees (w4.alloc (.cells #[] 9)).drew (.slice mo1 NK mc1) (strs D)) := Sees.below (HSN.out.below HB4.out.2.2.2.2) ((Below.refl w4.heap.size w4).alloc (Nat.le_refl _) _).drew
       have HLn : Hid ((([] : List Value).length + (strs D).length) * 16 ≤ 140737488355328) := by show _ ≤ _; rw [strs_len]; have := HD.out.2; simp <;> omega
       have HOn : Hid (∀ u ∈ strs D, u.oneCell' = true) := fun u hu => by
        obtain ⟨q, _, rfl⟩ := List.mem_map.1 hu
        rfl
       have HBa : Hid (Below w4.heap.size w4 (w4.alloc (.cells #[] 9)).drew) := ((Below.refl w4.heap.size w4).alloc (Nat.le_refl _) _).drew
       obtain ⟨c0, c1⟩ := HB4.out.1.c
       have n3 := cell_ofRr (j := 3) HN4.out rfl
       have cd0 : w4.drew.cell? ⟨w.heap.size, 0, none⟩ = some (.slice (some ⟨b, off, none⟩) t.nodes.length cap) := c0
       have cd1 : w4.drew.cell? ⟨w.heap.size, 1, none⟩ = some (.int .i64 t.next) := c1
       have cd3 : w4.drew.cell? ⟨nb, 3, none⟩ = some (.slice mo1 NK mc1) := n3
       have ca0 : ((w4.alloc (.cells #[] 9)).drew).cell? ⟨w.heap.size, 0, none⟩ = some (.slice (some ⟨b, off, none⟩) t.nodes.length cap) := cell_oldW HBa.out c0
       have ca1 : ((w4.alloc (.cells #[] 9)).drew).cell? ⟨w.heap.size, 1, none⟩ = some (.int .i64 t.next) := cell_oldW HBa.out c1
       have ca3 : ((w4.alloc (.cells #[] 9)).drew).cell? ⟨nb, 3, none⟩ = some (.slice mo1 NK mc1) := cell_oldW HBa.out n3
       have tl : w.heap.size < w4.heap.size := HB4.out.1.lt
       have hy2 : w.heap.size + 1 + 1 ≠ w.heap.size := by omega
       have hy3 : w.heap.size + 1 + 1 + 1 ≠ w.heap.size := by omega
       have hz2 : w.heap.size + 1 + 1 ≠ nb := by have := HNB.out; omega
       have hz3 : w.heap.size + 1 + 1 + 1 ≠ nb := by have := HNB.out; omega
       have HKP : Hid (∀ W9, Below w4.heap.size ((w4.alloc (.cells #[] 9)).drew) W9 → Bx w W9 (.slice (some ⟨b, off, none⟩) t.nodes.length cap) (.int .i64 t.next) o (.slice do' dn dc) ∧ W9.cell? ⟨nb, 3, none⟩ = some (.slice mo1 NK mc1)) := fun W9 h9 => ⟨HB4.out.below (HBa.out.trans h9), cell_oldW (HBa.out.trans h9) n3⟩
       go_wp2
       clear p0 n0 n1
       go_region_held3 (fun W => W.cell? ⟨w.heap.size, 0, none⟩ = some (.slice (some ⟨b, off, none⟩) t.nodes.length cap) ∧ W.cell? ⟨w.heap.size, 1, none⟩ = some (.int .i64 t.next) ∧ W.cell? ⟨nb, 3, none⟩ = some (.slice mo1 NK mc1)) (first | with_reducible exact ⟨cd0, cd1, cd3⟩ | with_reducible exact ⟨ca0, ca1, ca3⟩ | with_reducible exact ⟨e0, e1', e3⟩ | with_reducible exact ⟨keep2W e0 hy2, keep2W e1' hy2, keep2W e3 hz2⟩ | with_reducible exact ⟨keep8W (keep2W e0 hy2) hy3, keep8W (keep2W e1' hy2) hy3, keep8W (keep2W e3 hz2) hz3⟩) (first | (refine step_appV Tryz.underlying37 infoS rfl (by omega) rfl (.tmp 97) (.tmp 99) rfl w4.heap.size (.slice (some ⟨w4.heap.size, 0, none⟩) 0 0) [] (by simp [Act.eval]) HO.out (.slice mo1 NK mc1) (strs D) (by simp [Act.eval]) HVy.out HOn.out HLn.out (by simp) ?_; intro v9 w9 k1 k2; obtain ⟨va, vc, hv9, _⟩ := id (RowV.sees k1); rw [List.nil_append, strs_len, HD.out.1] at hv9; subst hv9; have HK9 : Hid (_ ∧ _) := ⟨k1, k2⟩; have HB9 := (HKP.out w9 k2).1; have e3 := (HKP.out w9 k2).2; obtain ⟨e0, e1'⟩ := HB9.1.c; obtain ⟨r0, r1⟩ := HB9.2.2.1.c; have z0 := HB9.2.2.1.fz 0; have z1 := HB9.2.2.1.fz 1; obtain ⟨s0, s1, s2, s3, s4, s5, s6, s7, sz⟩ := HB9.re; have HB9h : Hid (Bx w w9 (.slice (some ⟨b, off, none⟩) t.nodes.length cap) (.int .i64 t.next) o (.slice do' dn dc)) := HB9; clear k1 k2 HB9))
       all_goals (
        have hrp : ReplyAt w9 (.agg #[.int .i64 0, .int .i64 0, .int .i64 0, .int .i64 0, .int .i64 0, .slice none 0 0, .slice va NK vc, .slice none 0 0]) { noReply with names := D } := ⟨_, _, _, rfl, sees_nil0 _ _ rfl, by have h9 := RowV.sees HK9.out.1; rw [List.nil_append] at h9; exact h9, sees_nil0 _ _ rfl⟩
        have HEn : Hid (TreeAt (outW w9 w.heap.size (.slice (some ⟨b, off, none⟩) t.nodes.length cap) (.int .i64 t.next) (.int .i64 0) (.int .i64 0) (.int .i64 0) (.int .i64 0) (.int .i64 0) (.slice none 0 0) (.slice va NK vc) (.slice none 0 0)) (.agg #[.slice (some ⟨b, off, none⟩) t.nodes.length cap, .int .i64 t.next]) t ∧ ReplyAt (outW w9 w.heap.size (.slice (some ⟨b, off, none⟩) t.nodes.length cap) (.int .i64 t.next) (.int .i64 0) (.int .i64 0) (.int .i64 0) (.int .i64 0) (.int .i64 0) (.slice none 0 0) (.slice va NK vc) (.slice none 0 0)) (.agg #[.int .i64 0, .int .i64 0, .int .i64 0, .int .i64 0, .int .i64 0, .slice none 0 0, .slice va NK vc, .slice none 0 0]) { noReply with names := D } ∧ Below w.heap.size w (outW w9 w.heap.size (.slice (some ⟨b, off, none⟩) t.nodes.length cap) (.int .i64 t.next) (.int .i64 0) (.int .i64 0) (.int .i64 0) (.int .i64 0) (.int .i64 0) (.slice none 0 0) (.slice va NK vc) (.slice none 0 0))) := ⟨HT.out.below (out_below _ _ _ _ _ _ _ _ _ _ HB9h.out.2.2.2.2), ReplyAt.outW _ _ _ _ _ _ _ _ _ _ HB9h.out hrp rfl, out_below _ _ _ _ _ _ _ _ _ _ HB9h.out.2.2.2.2⟩
        clear hrp
        go_wp2
        refine bodyPost_ret (v := .tuple #[.agg #[.slice (some ⟨b, off, none⟩) t.nodes.length cap, .int .i64 t.next], .agg #[.int .i64 0, .int .i64 0, .int .i64 0, .int .i64 0, .int .i64 0, .slice none 0 0, .slice va NK vc, .slice none 0 0], .int .i64 0]) (by simp [results, Tryz.results30, go_sem, *]) rfl ?_
        rw [HR.out]
        unfold outW at HEn
        exact ⟨_, _, rfl, HEn.out.1, HEn.out.2.1, HEn.out.2.2⟩)
     · skip
       have HFd : Hid (∀ W, Below w.heap.size w W → Calls Tryz.prog 53 #[.agg #[.slice (some ⟨b, off, none⟩) t.nodes.length cap, .int .i64 t.next], .string o.path] W fun e w' => e = .returned (.tuple #[.int .i64 (k : Int), .int .i64 0]) ∧ Below W.heap.size W w') := fun W hb => by
        have h9 := HF0.out W hb
        rw [hf] at h9
        exact h9
       clear HF0
       have hkl : k < t.nodes.length := (find_ok HG.out.1.e hf).2.2
       have e1 : (o.kind == 1) = false := by rw [hk]; rfl
       have e2 : (o.kind == 2) = false := by rw [hk]; rfl
       have e3 : (o.kind == 3) = false := by rw [hk]; rfl
       have e4 : (o.kind == 4) = false := by rw [hk]; rfl
       have e5 : (o.kind == 5) = false := by rw [hk]; rfl
       have e6 : (o.kind == 6) = false := by rw [hk]; rfl
       have e7 : (o.kind == 7) = false := by rw [hk]; rfl
       have e8 : (o.kind == 8) = false := by rw [hk]; rfl
       have e9 : (o.kind == 9) = false := by rw [hk]; rfl
       have e10 : (o.kind == 10) = false := by rw [hk]; rfl
       have e11 : (o.kind == 11) = true := by rw [hk]; rfl
       have HE : Hid (doB t o = looksB t o) := by show _ = _; simp [doB, hk]
       obtain ⟨do1, nd1, dc1, mo1, mc1, io1, ni1, ic1, hfk5, hak⟩ := base5r HG.out.2.1 HG.out.2.2.1 HG.out.2.2.2.2 hkl
       have hnd : nd1 = (nodeAt t k).data.length := by
        obtain ⟨a9, c9, e9, _⟩ := hfk5.1
        injection e9 with _ e92 _
        rw [e92, intsV_len]
       obtain ⟨I, hI⟩ : ∃ z, (nodeAt t k).ino = z := ⟨_, rfl⟩
       obtain ⟨kd, hkd⟩ : ∃ z, (nodeAt t k).kind = z := ⟨_, rfl⟩
       obtain ⟨NK, hNK⟩ : ∃ z, (nodeAt t k).names.length = z := ⟨_, rfl⟩
       have HAK : Hid (At5 w b (off + k * 5) ⟨nodeAt t k, .slice do1 nd1 dc1, .slice mo1 NK mc1, .slice io1 ni1 ic1⟩) := by rw [← hNK]; exact hak
       have HFK : Hid (FN.is w ⟨nodeAt t k, .slice do1 nd1 dc1, .slice mo1 NK mc1, .slice io1 ni1 ic1⟩) := by rw [← hNK]; exact hfk5
       have HIK : Hid ((nodeAt t k).ino = I ∧ (nodeAt t k).kind = kd ∧ (nodeAt t k).names.length = NK ∧ k < t.nodes.length) := ⟨hI, hkd, hNK, hkl⟩
       have HKD : Hid (kd = 1 ∨ kd = 2) := by rw [← hkd]; exact HG.out.1.e.fair.kind (nodeAt_mem hkl)
       have j0 : (k : Int) < (t.nodes.length : Int) := by omega
       have j1 : (0 : Int) ≤ (k : Int) := by omega
       have HR : Hid (doB t o = (t, noReply, 8)) := by show _ = _; rw [HE.out]; unfold looksB; rw [hf]; dsimp only; rw [if_neg (by omega), if_pos hn]
       have hde : (kd == 2) = false := beq_eq_false_iff_ne.2 (by rw [← hkd]; exact hn)
       have hde2 : (kd != 2) = true := by simp [bne, hde]
       clear HH HE hk hf hn hkl hfk5 hak hnd hI hkd hNK HLk
       go_enter Tryz.func30, Tryz.ntmps30
       go_wp2_with fail
       go_at_call 53
       rw [← hw0]
       refine (HFd.out w0 HB0.out.2.2.2.2).mono ?_
       rintro e w1 ⟨rfl, hb1⟩
       have HB1 : Hid (Bx w w1 (.slice (some ⟨b, off, none⟩) t.nodes.length cap) (.int .i64 t.next) o (.slice do' dn dc)) := HB0.out.below hb1
       clear HB0 hw0 hb1 HFd
       obtain ⟨y0, y1', y2', y3, y4⟩ := At5.below HAK.out HG.out.2.2.2.1 HB1.out.2.2.2.2
       simp only at y0 y1' y2' y3 y4
       rw [HIK.out.1] at y0
       rw [HIK.out.2.1] at y1'
       have bl : b < w1.heap.size := Nat.lt_of_lt_of_le HG.out.2.2.2.1 HB1.out.2.2.2.2.size
       obtain ⟨c0, c1⟩ := HB1.out.1.c
       obtain ⟨w4, hw4⟩ : ∃ z, z = w1.alloc (.cells #[.int .i64 I, .int .i64 kd, .slice do1 nd1 dc1, .slice mo1 NK mc1, .slice io1 ni1 ic1] 60) := ⟨_, rfl⟩
       have HB4 : Hid (Bx w w4 (.slice (some ⟨b, off, none⟩) t.nodes.length cap) (.int .i64 t.next) o (.slice do' dn dc)) := by rw [hw4]; exact HB1.out.below (bel_newP _ _)
       have HN4 : Hid (w4.heap[w1.heap.size]? = some (.cells #[.int .i64 I, .int .i64 kd, .slice do1 nd1 dc1, .slice mo1 NK mc1, .slice io1 ni1 ic1] 60)) := by rw [hw4]; exact (MapKept.heap_alloc w1 _).1
       obtain ⟨nb, hnb⟩ : ∃ z, z = w1.heap.size := ⟨_, rfl⟩
       rw [← hnb] at HN4
       have HNB : Hid (w.heap.size + 4 ≤ nb) := by rw [hnb]; exact (Array.getElem?_eq_some_iff.1 HB1.out.2.2.2.1).1
       clear HB1
       go_upto_region 22 with fail
       rw [← hw4, ← hnb]
       clear hw4 hnb y0 y1' y2' y3 y4 c0 c1 bl j0 j1
       have p0 := HB4.out.op.1
       have n0 := cell_ofRr (j := 0) HN4.out rfl
       have n1 := cell_ofRr (j := 1) HN4.out rfl
       have nl := cell_lt n0
       have hB := HB4.out
       obtain ⟨c0, c1⟩ := hB.1.c
       obtain ⟨r0, r1⟩ := hB.2.2.1.c
       have z0 := hB.2.2.1.fz 0
       have z1 := hB.2.2.1.fz 1
       obtain ⟨s0, s1, s2, s3, s4, s5, s6, s7, sz⟩ := hB.re
       obtain ⟨p0, p1, p2, p3, p4, p5⟩ := hB.op
       clear hB 
       go_wp2
       refine bodyPost_ret (v := .tuple #[.agg #[.slice (some ⟨b, off, none⟩) t.nodes.length cap, .int .i64 t.next], .agg #[.int .i64 0, .int .i64 0, .int .i64 0, .int .i64 0, .int .i64 0, .slice none 0 0, .slice none 0 0, .slice none 0 0], .int .i64 8]) (by simp [results, Tryz.results30, go_sem, *]) rfl ?_
       rw [HR.out]
       exact ⟨_, _, rfl, HT.out.below (out_below _ _ _ _ _ _ _ _ _ _ HB4.out.2.2.2.2), replyAt_no _, out_below _ _ _ _ _ _ _ _ _ _ HB4.out.2.2.2.2⟩
end Go.Proofs.YtbebgobboccjcaaGreatDoor
