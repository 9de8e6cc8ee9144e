/- dolmenref5.rename: what one call answers. -/
import Derived.Test.YtbebgobboccjcaaGreatDoorH5
import Derived.Test.YtbebgobboccjcaaGreatDoorH1
import Derived.Test.YtbebgobboccjcaaGreatDoorH2
import Derived.Test.YtbebgobboccjcaaGreatDoorH3
import Derived.Test.YtbebgobboccjcaaGreatDoorPDPlain
import Derived.Deep.DeepCutAuto
import Derived.Deep.CutRange
import Derived.Deep.RegionHeld3
namespace Go.Proofs.YtbebgobboccjcaaGreatDoor
open Go.RowKit Kit
set_option linter.unusedVariables false

theorem cell_ofRr {w : World} {g j : Nat} {cs : Array Value} {t : TypeId} {v : Value} (h : w.heap[g]? = some (.cells cs t)) (hj : cs[j]? = some v) : w.cell? ⟨g, j, none⟩ = some v := by simp [World.cell?, h, hj]
theorem base5r {w : World} {t : TreeB} {fs : List FN} {b off : Nat} (h1 : fs.map FN.n = t.nodes) (h2 : ∀ f ∈ fs, f.is w) (h3 : ∀ k (hk : k < fs.length), At5 w b (off + k * 5) fs[k]) {k : Nat} (hk : k < t.nodes.length) :
 ∃ do2 nd dc2 mo2 mc2 io2 ni ic2, FN.is w ⟨nodeAt t k, .slice do2 nd dc2, .slice mo2 (nodeAt t k).names.length mc2, .slice io2 ni ic2⟩ ∧ At5 w b (off + k * 5) ⟨nodeAt t k, .slice do2 nd dc2, .slice mo2 (nodeAt t k).names.length mc2, .slice io2 ni ic2⟩ := by
 have hl := fs_len h1
 have hk' : k < fs.length := by omega
 have e := fs_at h1 hk'
 have hfi := h2 _ (List.getElem_mem hk')
 have ha := h3 k hk'
 obtain ⟨f, hf⟩ : ∃ f, fs[k] = f := ⟨_, rfl⟩
 rw [hf] at e hfi ha
 obtain ⟨nn, dd, mm, ii⟩ := f
 simp only at e
 subst e
 obtain ⟨do2, dc2, hdd, _⟩ := id hfi.1
 obtain ⟨mo2, mc2, hmm, _⟩ := id hfi.2.1
 obtain ⟨io2, ic2, hii, _⟩ := id hfi.2.2
 simp only at hdd hmm hii
 rw [strs_len] at hmm
 subst hdd hmm hii
 exact ⟨_, _, _, _, _, _, _, _, hfi, ha⟩
theorem below_blockRr {w w' : World} {g : Nat} {o : Obj} (hb : Below w.heap.size w w') (h : w.heap[g]? = some o) : w'.heap[g]? = some o := (hb.block g (Array.getElem?_eq_some_iff.1 h).1).trans h
set_option maxRecDepth 4000 in
set_option maxHeartbeats 40000000 in
theorem rename_r1 (v ov : Value) (t : TreeB) (o : OpB) (w : World) (hT : TreeAt w v t) (hg : Good t) (ho : OpAt w ov o) (x : Int) (hpa : (parentB o.path).2.2 = x) (hx : x ≠ 0) (y : Int) (hpt : (parentB o.to).2.2 = y) :
 Calls Tryz.prog 50 #[v, ov] w fun e w' => ∃ tv rv, e = .returned (.tuple #[tv, rv, .int .i64 (renameB t o).2.2]) ∧ TreeAt w' tv (renameB t o).1 ∧ ReplyAt w' rv (renameB t o).2.1 ∧ Below w.heap.size w w' := by
 have HT : Hid (TreeAt w v t) := hT
 obtain ⟨fs, hF⟩ : ∃ fs, TreeG w v t fs := by obtain ⟨sv, fs, h⟩ := hT; exact ⟨fs, sv, h⟩
 have HTF : Hid (TreeG w v t fs) := hF
 obtain ⟨ao, cap, rfl, q1, q2, q3, q4, q5⟩ := hF.opened
 obtain ⟨dv, rfl, ho1, ho2, ho3, ho4⟩ := ho
 obtain ⟨b, off, rfl, hb, hc⟩ := q5 hg.e.root0.1
 have hl := fs_len q3
 have lm : (t.nodes.length : Int) ≤ 60 := by have := hg.e.size; omega
 obtain ⟨do', dc, hdv, _⟩ := ho1
 obtain ⟨dn, hdn⟩ : ∃ n, (intsV .u8 o.data).length = n := ⟨_, rfl⟩
 rw [hdn] at hdv
 subst hdv
 have HG : Hid (Good t ∧ fs.map FN.n = t.nodes ∧ (∀ f ∈ fs, f.is w) ∧ b < w.heap.size ∧ ∀ k (hk : k < fs.length), At5 w b (off + k * 5) fs[k]) := ⟨hg, q3, q4, hb, hc⟩
 have HH : Hid (∀ W, Below w.heap.size w W → Calls Tryz.prog 83 #[.agg #[.slice (some ⟨b, off, none⟩) t.nodes.length cap, .int .i64 t.next], .string o.path] W fun e w' => e = .returned (resH (homeB t o.path)) ∧ Below W.heap.size W w') := fun W hb => home_any _ t o.path W (HT.out.below hb) hg ho2
 have HPa : Hid (∀ W, Calls Tryz.prog 87 #[.string o.path] W fun e w' => ∃ x1 x2, e = .returned (.tuple #[.string x1, .string x2, .int .i64 x]) ∧ Below W.heap.size W w') := fun W => by
  have h9 := parent_any o.path W ho2
  rw [hpa] at h9
  exact h9.mono fun e w' h => ⟨_, _, h.1, h.2⟩
 have HPt : Hid (∀ W, Calls Tryz.prog 87 #[.string o.to] W fun e w' => ∃ x1 x2, e = .returned (.tuple #[.string x1, .string x2, .int .i64 y]) ∧ Below W.heap.size W w') := fun W => by
  have h9 := parent_any o.to W ho3
  rw [hpt] at h9
  exact h9.mono fun e w' h => ⟨_, _, h.1, h.2⟩
 clear q1 q2 q3 q4 q5 hT hF hb hc hg ho2 ho3 ho4 hdn
 unfold opV
 obtain ⟨w0, hw0⟩ : ∃ w0, w0 = ((((w.alloc (.cells #[.slice (some ⟨b, off, none⟩) t.nodes.length cap, .int .i64 t.next] 29)).alloc (.cells #[.int .i64 o.kind, .string o.path, .string o.to, .int .i64 o.off, .int .i64 o.n, .slice do' dn dc, .int .i64 o.snap] 35)).alloc (.cells #[.slice none 0 0, .int .i64 0] 29)).alloc (.cells #[.int .i64 0, .int .i64 0, .int .i64 0, .int .i64 0, .int .i64 0, .slice none 0 0, .slice none 0 0, .slice none 0 0] 40)) := ⟨_, rfl⟩
 have HB0 : Hid (Bx w w0 (.slice (some ⟨b, off, none⟩) t.nodes.length cap) (.int .i64 t.next) o (.slice do' dn dc)) := by rw [hw0]; exact bx_new w _ _ _ o
 have HR : Hid (renameB t o = (t, noReply, x)) := by
  show _ = _
  unfold renameB
  rw [hpa, if_pos hx]
 have hxe : (x == 0) = false := beq_eq_false_iff_ne.2 hx
 have hxe2 : (x != 0) = true := by simp [hx]
 clear HH hpa hx hpt
 go_enter Tryz.func50, Tryz.ntmps50
 go_wp2_with fail
 go_at_call 87
 rw [← hw0]
 refine (HPa.out w0).mono ?_
 rintro e w1 ⟨x1, x2, rfl, hb1⟩
 have HB1 : Hid (Bx w w1 (.slice (some ⟨b, off, none⟩) t.nodes.length cap) (.int .i64 t.next) o (.slice do' dn dc)) := HB0.out.below hb1
 clear HB0 hw0 hb1 HPa
 have p2 := HB1.out.op.2.2.1
 go_wp2_with fail
 go_at_call 87
 refine (HPt.out w1).mono ?_
 rintro e w2 ⟨y1, y2, rfl, hb2⟩
 have HB2 : Hid (Bx w w2 (.slice (some ⟨b, off, none⟩) t.nodes.length cap) (.int .i64 t.next) o (.slice do' dn dc)) := HB1.out.below hb2
 clear HB1 HPt p2 hb2
 have hB := HB2.out
 obtain ⟨c0, c1⟩ := hB.1.c
 obtain ⟨r0, r1⟩ := hB.2.2.1.c
 have z0 := hB.2.2.1.fz 0
 have z1 := hB.2.2.1.fz 1
 obtain ⟨s0, s1, s2, s3, s4, s5, s6, s7, sz⟩ := hB.re
 obtain ⟨p0, p1, p2, p3, p4, p5⟩ := hB.op
 clear hB 
 go_wp2
 refine bodyPost_ret (v := .tuple #[.agg #[.slice (some ⟨b, off, none⟩) t.nodes.length cap, .int .i64 t.next], .agg #[.int .i64 0, .int .i64 0, .int .i64 0, .int .i64 0, .int .i64 0, .slice none 0 0, .slice none 0 0, .slice none 0 0], .int .i64 x]) (by simp [results, Tryz.results50, go_sem, *]) rfl ?_
 rw [HR.out]
 exact ⟨_, _, rfl, HT.out.below (out_below _ _ _ _ _ _ _ _ _ _ HB2.out.2.2.2.2), replyAt_no _, out_below _ _ _ _ _ _ _ _ _ _ HB2.out.2.2.2.2⟩
set_option maxRecDepth 4000 in
set_option maxHeartbeats 40000000 in
theorem rename_r2 (v ov : Value) (t : TreeB) (o : OpB) (w : World) (hT : TreeAt w v t) (hg : Good t) (ho : OpAt w ov o) (hpa : (parentB o.path).2.2 = 0) (x : Int) (hpt : (parentB o.to).2.2 = x) (hx : x ≠ 0) :
 Calls Tryz.prog 50 #[v, ov] w fun e w' => ∃ tv rv, e = .returned (.tuple #[tv, rv, .int .i64 (renameB t o).2.2]) ∧ TreeAt w' tv (renameB t o).1 ∧ ReplyAt w' rv (renameB t o).2.1 ∧ Below w.heap.size w w' := by
 have HT : Hid (TreeAt w v t) := hT
 obtain ⟨fs, hF⟩ : ∃ fs, TreeG w v t fs := by obtain ⟨sv, fs, h⟩ := hT; exact ⟨fs, sv, h⟩
 have HTF : Hid (TreeG w v t fs) := hF
 obtain ⟨ao, cap, rfl, q1, q2, q3, q4, q5⟩ := hF.opened
 obtain ⟨dv, rfl, ho1, ho2, ho3, ho4⟩ := ho
 obtain ⟨b, off, rfl, hb, hc⟩ := q5 hg.e.root0.1
 have hl := fs_len q3
 have lm : (t.nodes.length : Int) ≤ 60 := by have := hg.e.size; omega
 obtain ⟨do', dc, hdv, _⟩ := ho1
 obtain ⟨dn, hdn⟩ : ∃ n, (intsV .u8 o.data).length = n := ⟨_, rfl⟩
 rw [hdn] at hdv
 subst hdv
 have HG : Hid (Good t ∧ fs.map FN.n = t.nodes ∧ (∀ f ∈ fs, f.is w) ∧ b < w.heap.size ∧ ∀ k (hk : k < fs.length), At5 w b (off + k * 5) fs[k]) := ⟨hg, q3, q4, hb, hc⟩
 have HH : Hid (∀ W, Below w.heap.size w W → Calls Tryz.prog 83 #[.agg #[.slice (some ⟨b, off, none⟩) t.nodes.length cap, .int .i64 t.next], .string o.path] W fun e w' => e = .returned (resH (homeB t o.path)) ∧ Below W.heap.size W w') := fun W hb => home_any _ t o.path W (HT.out.below hb) hg ho2
 have HPa : Hid (∀ W, Calls Tryz.prog 87 #[.string o.path] W fun e w' => ∃ x1 x2, e = .returned (.tuple #[.string x1, .string x2, .int .i64 0]) ∧ Below W.heap.size W w') := fun W => by
  have h9 := parent_any o.path W ho2
  rw [hpa] at h9
  exact h9.mono fun e w' h => ⟨_, _, h.1, h.2⟩
 have HPt : Hid (∀ W, Calls Tryz.prog 87 #[.string o.to] W fun e w' => ∃ x1 x2, e = .returned (.tuple #[.string x1, .string x2, .int .i64 x]) ∧ Below W.heap.size W w') := fun W => by
  have h9 := parent_any o.to W ho3
  rw [hpt] at h9
  exact h9.mono fun e w' h => ⟨_, _, h.1, h.2⟩
 clear q1 q2 q3 q4 q5 hT hF hb hc hg ho2 ho3 ho4 hdn
 unfold opV
 obtain ⟨w0, hw0⟩ : ∃ w0, w0 = ((((w.alloc (.cells #[.slice (some ⟨b, off, none⟩) t.nodes.length cap, .int .i64 t.next] 29)).alloc (.cells #[.int .i64 o.kind, .string o.path, .string o.to, .int .i64 o.off, .int .i64 o.n, .slice do' dn dc, .int .i64 o.snap] 35)).alloc (.cells #[.slice none 0 0, .int .i64 0] 29)).alloc (.cells #[.int .i64 0, .int .i64 0, .int .i64 0, .int .i64 0, .int .i64 0, .slice none 0 0, .slice none 0 0, .slice none 0 0] 40)) := ⟨_, rfl⟩
 have HB0 : Hid (Bx w w0 (.slice (some ⟨b, off, none⟩) t.nodes.length cap) (.int .i64 t.next) o (.slice do' dn dc)) := by rw [hw0]; exact bx_new w _ _ _ o
 have HR : Hid (renameB t o = (t, noReply, x)) := by
  show _ = _
  unfold renameB
  rw [if_neg (by simp [hpa]), hpt, if_pos hx]
 have hxe : (x == 0) = false := beq_eq_false_iff_ne.2 hx
 have hxe2 : (x != 0) = true := by simp [hx]
 clear HH hpa hx hpt
 go_enter Tryz.func50, Tryz.ntmps50
 go_wp2_with fail
 go_at_call 87
 rw [← hw0]
 refine (HPa.out w0).mono ?_
 rintro e w1 ⟨x1, x2, rfl, hb1⟩
 have HB1 : Hid (Bx w w1 (.slice (some ⟨b, off, none⟩) t.nodes.length cap) (.int .i64 t.next) o (.slice do' dn dc)) := HB0.out.below hb1
 clear HB0 hw0 hb1 HPa
 have p2 := HB1.out.op.2.2.1
 go_wp2_with fail
 go_at_call 87
 refine (HPt.out w1).mono ?_
 rintro e w2 ⟨y1, y2, rfl, hb2⟩
 have HB2 : Hid (Bx w w2 (.slice (some ⟨b, off, none⟩) t.nodes.length cap) (.int .i64 t.next) o (.slice do' dn dc)) := HB1.out.below hb2
 clear HB1 HPt p2 hb2
 have hB := HB2.out
 obtain ⟨c0, c1⟩ := hB.1.c
 obtain ⟨r0, r1⟩ := hB.2.2.1.c
 have z0 := hB.2.2.1.fz 0
 have z1 := hB.2.2.1.fz 1
 obtain ⟨s0, s1, s2, s3, s4, s5, s6, s7, sz⟩ := hB.re
 obtain ⟨p0, p1, p2, p3, p4, p5⟩ := hB.op
 clear hB 
 go_wp2
 refine bodyPost_ret (v := .tuple #[.agg #[.slice (some ⟨b, off, none⟩) t.nodes.length cap, .int .i64 t.next], .agg #[.int .i64 0, .int .i64 0, .int .i64 0, .int .i64 0, .int .i64 0, .slice none 0 0, .slice none 0 0, .slice none 0 0], .int .i64 x]) (by simp [results, Tryz.results50, go_sem, *]) rfl ?_
 rw [HR.out]
 exact ⟨_, _, rfl, HT.out.below (out_below _ _ _ _ _ _ _ _ _ _ HB2.out.2.2.2.2), replyAt_no _, out_below _ _ _ _ _ _ _ _ _ _ HB2.out.2.2.2.2⟩
set_option maxRecDepth 4000 in
set_option maxHeartbeats 40000000 in
theorem rename_r3 (v ov : Value) (t : TreeB) (o : OpB) (w : World) (hT : TreeAt w v t) (hg : Good t) (ho : OpAt w ov o) (hpa : (parentB o.path).2.2 = 0) (hpt : (parentB o.to).2.2 = 0) (x : Int) (hfk : findB t o.path = .error x) :
 Calls Tryz.prog 50 #[v, ov] w fun e w' => ∃ tv rv, e = .returned (.tuple #[tv, rv, .int .i64 (renameB t o).2.2]) ∧ TreeAt w' tv (renameB t o).1 ∧ ReplyAt w' rv (renameB t o).2.1 ∧ Below w.heap.size w w' := by
 have HT : Hid (TreeAt w v t) := hT
 obtain ⟨fs, hF⟩ : ∃ fs, TreeG w v t fs := by obtain ⟨sv, fs, h⟩ := hT; exact ⟨fs, sv, h⟩
 have HTF : Hid (TreeG w v t fs) := hF
 obtain ⟨ao, cap, rfl, q1, q2, q3, q4, q5⟩ := hF.opened
 obtain ⟨dv, rfl, ho1, ho2, ho3, ho4⟩ := ho
 obtain ⟨b, off, rfl, hb, hc⟩ := q5 hg.e.root0.1
 have hl := fs_len q3
 have lm : (t.nodes.length : Int) ≤ 60 := by have := hg.e.size; omega
 obtain ⟨do', dc, hdv, _⟩ := ho1
 obtain ⟨dn, hdn⟩ : ∃ n, (intsV .u8 o.data).length = n := ⟨_, rfl⟩
 rw [hdn] at hdv
 subst hdv
 have HG : Hid (Good t ∧ fs.map FN.n = t.nodes ∧ (∀ f ∈ fs, f.is w) ∧ b < w.heap.size ∧ ∀ k (hk : k < fs.length), At5 w b (off + k * 5) fs[k]) := ⟨hg, q3, q4, hb, hc⟩
 have HH : Hid (∀ W, Below w.heap.size w W → Calls Tryz.prog 83 #[.agg #[.slice (some ⟨b, off, none⟩) t.nodes.length cap, .int .i64 t.next], .string o.path] W fun e w' => e = .returned (resH (homeB t o.path)) ∧ Below W.heap.size W w') := fun W hb => home_any _ t o.path W (HT.out.below hb) hg ho2
 have HPa : Hid (∀ W, Calls Tryz.prog 87 #[.string o.path] W fun e w' => ∃ x1 x2, e = .returned (.tuple #[.string x1, .string x2, .int .i64 0]) ∧ Below W.heap.size W w') := fun W => by
  have h9 := parent_any o.path W ho2
  rw [hpa] at h9
  exact h9.mono fun e w' h => ⟨_, _, h.1, h.2⟩
 have HPt : Hid (∀ W, Calls Tryz.prog 87 #[.string o.to] W fun e w' => ∃ x1 x2, e = .returned (.tuple #[.string x1, .string x2, .int .i64 0]) ∧ Below W.heap.size W w') := fun W => by
  have h9 := parent_any o.to W ho3
  rw [hpt] at h9
  exact h9.mono fun e w' h => ⟨_, _, h.1, h.2⟩
 have HFd : Hid (∀ W, Below w.heap.size w W → Calls Tryz.prog 53 #[.agg #[.slice (some ⟨b, off, none⟩) t.nodes.length cap, .int .i64 t.next], .string o.path] W fun e w' => e = .returned (.tuple #[.int .i64 (-1), .int .i64 x]) ∧ Below W.heap.size W w') := fun W hb => by
  have h9 := find_any _ t o.path W (HT.out.below hb) hg ho2
  rw [hfk] at h9
  exact h9
 clear q1 q2 q3 q4 q5 hT hF hb hc hg ho2 ho3 ho4 hdn
 unfold opV
 obtain ⟨w0, hw0⟩ : ∃ w0, w0 = ((((w.alloc (.cells #[.slice (some ⟨b, off, none⟩) t.nodes.length cap, .int .i64 t.next] 29)).alloc (.cells #[.int .i64 o.kind, .string o.path, .string o.to, .int .i64 o.off, .int .i64 o.n, .slice do' dn dc, .int .i64 o.snap] 35)).alloc (.cells #[.slice none 0 0, .int .i64 0] 29)).alloc (.cells #[.int .i64 0, .int .i64 0, .int .i64 0, .int .i64 0, .int .i64 0, .slice none 0 0, .slice none 0 0, .slice none 0 0] 40)) := ⟨_, rfl⟩
 have HB0 : Hid (Bx w w0 (.slice (some ⟨b, off, none⟩) t.nodes.length cap) (.int .i64 t.next) o (.slice do' dn dc)) := by rw [hw0]; exact bx_new w _ _ _ o
 have HR : Hid (renameB t o = (t, noReply, x)) := by
  show _ = _
  unfold renameB
  rw [if_neg (by simp [hpa]), if_neg (by simp [hpt]), hfk]
 have hx : x ≠ 0 := by have h9 := find_code hfk; omega
 have hxe : (x == 0) = false := beq_eq_false_iff_ne.2 hx
 have hxe2 : (x != 0) = true := by simp [hx]
 clear HH hpa hpt hfk hx
 go_enter Tryz.func50, Tryz.ntmps50
 go_wp2_with fail
 go_at_call 87
 rw [← hw0]
 refine (HPa.out w0).mono ?_
 rintro e w1 ⟨x1, x2, rfl, hb1⟩
 have HB1 : Hid (Bx w w1 (.slice (some ⟨b, off, none⟩) t.nodes.length cap) (.int .i64 t.next) o (.slice do' dn dc)) := HB0.out.below hb1
 clear HB0 hw0 hb1 HPa
 have p2 := HB1.out.op.2.2.1
 go_wp2_with fail
 go_at_call 87
 refine (HPt.out w1).mono ?_
 rintro e w2 ⟨y1, y2, rfl, hb2⟩
 have HB2 : Hid (Bx w w2 (.slice (some ⟨b, off, none⟩) t.nodes.length cap) (.int .i64 t.next) o (.slice do' dn dc)) := HB1.out.below hb2
 clear HB1 HPt p2 hb2
 obtain ⟨c0, c1⟩ := HB2.out.1.c
 have p1 := HB2.out.op.2.1
 go_wp2_with fail
 go_at_call 53
 refine (HFd.out w2 HB2.out.2.2.2.2).mono ?_
 rintro e w3 ⟨rfl, hbw3⟩
 have HB3 : Hid (Bx w w3 (.slice (some ⟨b, off, none⟩) t.nodes.length cap) (.int .i64 t.next) o (.slice do' dn dc)) := HB2.out.below hbw3
 clear hbw3
 clear HB2 HFd c0 c1 p1
 have hB := HB3.out
 obtain ⟨c0, c1⟩ := hB.1.c
 obtain ⟨r0, r1⟩ := hB.2.2.1.c
 have z0 := hB.2.2.1.fz 0
 have z1 := hB.2.2.1.fz 1
 obtain ⟨s0, s1, s2, s3, s4, s5, s6, s7, sz⟩ := hB.re
 obtain ⟨p0, p1, p2, p3, p4, p5⟩ := hB.op
 clear hB 
 go_wp2
 refine bodyPost_ret (v := .tuple #[.agg #[.slice (some ⟨b, off, none⟩) t.nodes.length cap, .int .i64 t.next], .agg #[.int .i64 0, .int .i64 0, .int .i64 0, .int .i64 0, .int .i64 0, .slice none 0 0, .slice none 0 0, .slice none 0 0], .int .i64 x]) (by simp [results, Tryz.results50, go_sem, *]) rfl ?_
 rw [HR.out]
 exact ⟨_, _, rfl, HT.out.below (out_below _ _ _ _ _ _ _ _ _ _ HB3.out.2.2.2.2), replyAt_no _, out_below _ _ _ _ _ _ _ _ _ _ HB3.out.2.2.2.2⟩
set_option maxRecDepth 4000 in
set_option maxHeartbeats 40000000 in
theorem rename_r4 (v ov : Value) (t : TreeB) (o : OpB) (w : World) (hT : TreeAt w v t) (hg : Good t) (ho : OpAt w ov o) (hpa : (parentB o.path).2.2 = 0) (hpt : (parentB o.to).2.2 = 0) (k : Nat) (hfk : findB t o.path = .ok k) (hk2 : (nodeAt t k).kind = 2) (htp : o.to ≠ o.path) (hu : underB o.to o.path = true) :
 Calls Tryz.prog 50 #[v, ov] w fun e w' => ∃ tv rv, e = .returned (.tuple #[tv, rv, .int .i64 (renameB t o).2.2]) ∧ TreeAt w' tv (renameB t o).1 ∧ ReplyAt w' rv (renameB t o).2.1 ∧ Below w.heap.size w w' := by
 have HT : Hid (TreeAt w v t) := hT
 obtain ⟨fs, hF⟩ : ∃ fs, TreeG w v t fs := by obtain ⟨sv, fs, h⟩ := hT; exact ⟨fs, sv, h⟩
 have HTF : Hid (TreeG w v t fs) := hF
 obtain ⟨ao, cap, rfl, q1, q2, q3, q4, q5⟩ := hF.opened
 obtain ⟨dv, rfl, ho1, ho2, ho3, ho4⟩ := ho
 obtain ⟨b, off, rfl, hb, hc⟩ := q5 hg.e.root0.1
 have hl := fs_len q3
 have lm : (t.nodes.length : Int) ≤ 60 := by have := hg.e.size; omega
 obtain ⟨do', dc, hdv, _⟩ := ho1
 obtain ⟨dn, hdn⟩ : ∃ n, (intsV .u8 o.data).length = n := ⟨_, rfl⟩
 rw [hdn] at hdv
 subst hdv
 have HG : Hid (Good t ∧ fs.map FN.n = t.nodes ∧ (∀ f ∈ fs, f.is w) ∧ b < w.heap.size ∧ ∀ k (hk : k < fs.length), At5 w b (off + k * 5) fs[k]) := ⟨hg, q3, q4, hb, hc⟩
 have HH : Hid (∀ W, Below w.heap.size w W → Calls Tryz.prog 83 #[.agg #[.slice (some ⟨b, off, none⟩) t.nodes.length cap, .int .i64 t.next], .string o.path] W fun e w' => e = .returned (resH (homeB t o.path)) ∧ Below W.heap.size W w') := fun W hb => home_any _ t o.path W (HT.out.below hb) hg ho2
 have HPa : Hid (∀ W, Calls Tryz.prog 87 #[.string o.path] W fun e w' => ∃ x1 x2, e = .returned (.tuple #[.string x1, .string x2, .int .i64 0]) ∧ Below W.heap.size W w') := fun W => by
  have h9 := parent_any o.path W ho2
  rw [hpa] at h9
  exact h9.mono fun e w' h => ⟨_, _, h.1, h.2⟩
 have HPt : Hid (∀ W, Calls Tryz.prog 87 #[.string o.to] W fun e w' => ∃ x1 x2, e = .returned (.tuple #[.string x1, .string x2, .int .i64 0]) ∧ Below W.heap.size W w') := fun W => by
  have h9 := parent_any o.to W ho3
  rw [hpt] at h9
  exact h9.mono fun e w' h => ⟨_, _, h.1, h.2⟩
 have HFd : Hid (∀ W, Below w.heap.size w W → Calls Tryz.prog 53 #[.agg #[.slice (some ⟨b, off, none⟩) t.nodes.length cap, .int .i64 t.next], .string o.path] W fun e w' => e = .returned (.tuple #[.int .i64 (k : Int), .int .i64 0]) ∧ Below W.heap.size W w') := fun W hb => by
  have h9 := find_any _ t o.path W (HT.out.below hb) hg ho2
  rw [hfk] at h9
  exact h9
 have HUn : Hid (∀ W, Calls Tryz.prog 24 #[.string o.to, .string o.path] W fun e w' => e = .returned (.bool (underB o.to o.path)) ∧ Below W.heap.size W w') := fun W => under_any o.to o.path W ho3 ho2
 have hkl : k < t.nodes.length := (find_ok hg.e hfk).2.2
 clear q1 q2 q3 q4 q5 hT hF hb hc hg ho2 ho3 ho4 hdn
 unfold opV
 obtain ⟨w0, hw0⟩ : ∃ w0, w0 = ((((w.alloc (.cells #[.slice (some ⟨b, off, none⟩) t.nodes.length cap, .int .i64 t.next] 29)).alloc (.cells #[.int .i64 o.kind, .string o.path, .string o.to, .int .i64 o.off, .int .i64 o.n, .slice do' dn dc, .int .i64 o.snap] 35)).alloc (.cells #[.slice none 0 0, .int .i64 0] 29)).alloc (.cells #[.int .i64 0, .int .i64 0, .int .i64 0, .int .i64 0, .int .i64 0, .slice none 0 0, .slice none 0 0, .slice none 0 0] 40)) := ⟨_, rfl⟩
 have HB0 : Hid (Bx w w0 (.slice (some ⟨b, off, none⟩) t.nodes.length cap) (.int .i64 t.next) o (.slice do' dn dc)) := by rw [hw0]; exact bx_new w _ _ _ o
 have HR : Hid (renameB t o = (t, noReply, 10)) := by
  show _ = _
  unfold renameB
  rw [if_neg (by simp [hpa]), if_neg (by simp [hpt]), hfk]
  dsimp only
  rw [if_pos ⟨hk2, htp, hu⟩]
 obtain ⟨do1, nd1, dc1, mo1, mc1, io1, ni1, ic1, hfk5, hak⟩ := base5r HG.out.2.1 HG.out.2.2.1 HG.out.2.2.2.2 hkl
 obtain ⟨I, hI⟩ : ∃ z, (nodeAt t k).ino = z := ⟨_, rfl⟩
 obtain ⟨kd, hkd⟩ : ∃ z, (nodeAt t k).kind = z := ⟨_, rfl⟩
 obtain ⟨NK, hNK⟩ : ∃ z, (nodeAt t k).names.length = z := ⟨_, rfl⟩
 have HAK : Hid (At5 w b (off + k * 5) ⟨nodeAt t k, .slice do1 nd1 dc1, .slice mo1 NK mc1, .slice io1 ni1 ic1⟩) := by rw [← hNK]; exact hak
 have HIK : Hid ((nodeAt t k).ino = I ∧ (nodeAt t k).kind = kd) := ⟨hI, hkd⟩
 have HKD : Hid (kd = 1 ∨ kd = 2) := by rw [← hkd]; exact HG.out.1.e.fair.kind (nodeAt_mem hkl)
 have j0 : (k : Int) < (t.nodes.length : Int) := by omega
 have j1 : (0 : Int) ≤ (k : Int) := by omega
 have hkd2 : kd = 2 := by rw [← hkd]; exact hk2
 have hteq : (o.to.toList == o.path.toList) = false := beq_eq_false_iff_ne.2 (fun h => htp (toList_inj h))
 rw [hu] at HUn
 subst hkd2
 clear HH hpa hpt hfk hkl hk2 htp hu hI hkd hNK hak hfk5 HKD
 go_enter Tryz.func50, Tryz.ntmps50
 go_wp2_with fail
 go_at_call 87
 rw [← hw0]
 refine (HPa.out w0).mono ?_
 rintro e w1 ⟨x1, x2, rfl, hb1⟩
 have HB1 : Hid (Bx w w1 (.slice (some ⟨b, off, none⟩) t.nodes.length cap) (.int .i64 t.next) o (.slice do' dn dc)) := HB0.out.below hb1
 clear HB0 hw0 hb1 HPa
 have p2 := HB1.out.op.2.2.1
 go_wp2_with fail
 go_at_call 87
 refine (HPt.out w1).mono ?_
 rintro e w2 ⟨y1, y2, rfl, hb2⟩
 have HB2 : Hid (Bx w w2 (.slice (some ⟨b, off, none⟩) t.nodes.length cap) (.int .i64 t.next) o (.slice do' dn dc)) := HB1.out.below hb2
 clear HB1 HPt p2 hb2
 obtain ⟨c0, c1⟩ := HB2.out.1.c
 have p1 := HB2.out.op.2.1
 go_wp2_with fail
 go_at_call 53
 refine (HFd.out w2 HB2.out.2.2.2.2).mono ?_
 rintro e w3 ⟨rfl, hbw3⟩
 have HB3 : Hid (Bx w w3 (.slice (some ⟨b, off, none⟩) t.nodes.length cap) (.int .i64 t.next) o (.slice do' dn dc)) := HB2.out.below hbw3
 clear hbw3
 clear HB2 HFd c0 c1 p1
 obtain ⟨y0, y1', y2', y3, y4⟩ := At5.below HAK.out HG.out.2.2.2.1 HB3.out.2.2.2.2
 simp only at y0 y1' y2' y3 y4
 rw [HIK.out.1] at y0
 rw [HIK.out.2] at y1'
 have bl : b < w3.heap.size := Nat.lt_of_lt_of_le HG.out.2.2.2.1 HB3.out.2.2.2.2.size
 obtain ⟨c0, c1⟩ := HB3.out.1.c
 obtain ⟨w4, hw4⟩ : ∃ z, z = w3.alloc (.cells #[.int .i64 I, .int .i64 2, .slice do1 nd1 dc1, .slice mo1 NK mc1, .slice io1 ni1 ic1] 60) := ⟨_, rfl⟩
 have HB4 : Hid (Bx w w4 (.slice (some ⟨b, off, none⟩) t.nodes.length cap) (.int .i64 t.next) o (.slice do' dn dc)) := by rw [hw4]; exact HB3.out.below (bel_newP _ _)
 have HN4 : Hid (w4.heap[w3.heap.size]? = some (.cells #[.int .i64 I, .int .i64 2, .slice do1 nd1 dc1, .slice mo1 NK mc1, .slice io1 ni1 ic1] 60)) := by rw [hw4]; exact (MapKept.heap_alloc w3 _).1
 obtain ⟨nb, hnb⟩ : ∃ z, z = w3.heap.size := ⟨_, rfl⟩
 rw [← hnb] at HN4
 clear HB3
 go_upto_region 11 with fail
 rw [← hw4, ← hnb]
 clear hw4 hnb y0 y1' y2' y3 y4 c0 c1 bl j0 j1
 have n1 := cell_ofRr (j := 1) HN4.out rfl
 have nl := cell_lt n1
 have p1 := HB4.out.op.2.1
 have p2 := HB4.out.op.2.2.1
 go_wp2_with fail
 go_at_call 24
 refine (HUn.out w4).mono ?_
 rintro e w5 ⟨rfl, hb5⟩
 have HB5 : Hid (Bx w w5 (.slice (some ⟨b, off, none⟩) t.nodes.length cap) (.int .i64 t.next) o (.slice do' dn dc)) := HB4.out.below hb5
 clear hb5 HB4 HN4 HUn n1 nl p1 p2
 have hB := HB5.out
 obtain ⟨c0, c1⟩ := hB.1.c
 obtain ⟨r0, r1⟩ := hB.2.2.1.c
 have z0 := hB.2.2.1.fz 0
 have z1 := hB.2.2.1.fz 1
 obtain ⟨s0, s1, s2, s3, s4, s5, s6, s7, sz⟩ := hB.re
 obtain ⟨p0, p1, p2, p3, p4, p5⟩ := hB.op
 clear hB 
 go_wp2
 refine bodyPost_ret (v := .tuple #[.agg #[.slice (some ⟨b, off, none⟩) t.nodes.length cap, .int .i64 t.next], .agg #[.int .i64 0, .int .i64 0, .int .i64 0, .int .i64 0, .int .i64 0, .slice none 0 0, .slice none 0 0, .slice none 0 0], .int .i64 10]) (by simp [results, Tryz.results50, go_sem, *]) rfl ?_
 rw [HR.out]
 exact ⟨_, _, rfl, HT.out.below (out_below _ _ _ _ _ _ _ _ _ _ HB5.out.2.2.2.2), replyAt_no _, out_below _ _ _ _ _ _ _ _ _ _ HB5.out.2.2.2.2⟩
set_option maxRecDepth 4000 in
set_option maxHeartbeats 40000000 in
theorem rename_r5 (v ov : Value) (t : TreeB) (o : OpB) (w : World) (hT : TreeAt w v t) (hg : Good t) (ho : OpAt w ov o) (hpa : (parentB o.path).2.2 = 0) (hpt : (parentB o.to).2.2 = 0) (k : Nat) (hfk : findB t o.path = .ok k) (hlo : ¬ ((nodeAt t k).kind = 2 ∧ o.to ≠ o.path ∧ underB o.to o.path = true)) (x : Int) (hht : homeB t o.to = .error x) :
 Calls Tryz.prog 50 #[v, ov] w fun e w' => ∃ tv rv, e = .returned (.tuple #[tv, rv, .int .i64 (renameB t o).2.2]) ∧ TreeAt w' tv (renameB t o).1 ∧ ReplyAt w' rv (renameB t o).2.1 ∧ Below w.heap.size w w' := by
 have HT : Hid (TreeAt w v t) := hT
 obtain ⟨fs, hF⟩ : ∃ fs, TreeG w v t fs := by obtain ⟨sv, fs, h⟩ := hT; exact ⟨fs, sv, h⟩
 have HTF : Hid (TreeG w v t fs) := hF
 obtain ⟨ao, cap, rfl, q1, q2, q3, q4, q5⟩ := hF.opened
 obtain ⟨dv, rfl, ho1, ho2, ho3, ho4⟩ := ho
 obtain ⟨b, off, rfl, hb, hc⟩ := q5 hg.e.root0.1
 have hl := fs_len q3
 have lm : (t.nodes.length : Int) ≤ 60 := by have := hg.e.size; omega
 obtain ⟨do', dc, hdv, _⟩ := ho1
 obtain ⟨dn, hdn⟩ : ∃ n, (intsV .u8 o.data).length = n := ⟨_, rfl⟩
 rw [hdn] at hdv
 subst hdv
 have HG : Hid (Good t ∧ fs.map FN.n = t.nodes ∧ (∀ f ∈ fs, f.is w) ∧ b < w.heap.size ∧ ∀ k (hk : k < fs.length), At5 w b (off + k * 5) fs[k]) := ⟨hg, q3, q4, hb, hc⟩
 have HH : Hid (∀ W, Below w.heap.size w W → Calls Tryz.prog 83 #[.agg #[.slice (some ⟨b, off, none⟩) t.nodes.length cap, .int .i64 t.next], .string o.path] W fun e w' => e = .returned (resH (homeB t o.path)) ∧ Below W.heap.size W w') := fun W hb => home_any _ t o.path W (HT.out.below hb) hg ho2
 have HPa : Hid (∀ W, Calls Tryz.prog 87 #[.string o.path] W fun e w' => ∃ x1 x2, e = .returned (.tuple #[.string x1, .string x2, .int .i64 0]) ∧ Below W.heap.size W w') := fun W => by
  have h9 := parent_any o.path W ho2
  rw [hpa] at h9
  exact h9.mono fun e w' h => ⟨_, _, h.1, h.2⟩
 have HPt : Hid (∀ W, Calls Tryz.prog 87 #[.string o.to] W fun e w' => ∃ x1 x2, e = .returned (.tuple #[.string x1, .string x2, .int .i64 0]) ∧ Below W.heap.size W w') := fun W => by
  have h9 := parent_any o.to W ho3
  rw [hpt] at h9
  exact h9.mono fun e w' h => ⟨_, _, h.1, h.2⟩
 have HFd : Hid (∀ W, Below w.heap.size w W → Calls Tryz.prog 53 #[.agg #[.slice (some ⟨b, off, none⟩) t.nodes.length cap, .int .i64 t.next], .string o.path] W fun e w' => e = .returned (.tuple #[.int .i64 (k : Int), .int .i64 0]) ∧ Below W.heap.size W w') := fun W hb => by
  have h9 := find_any _ t o.path W (HT.out.below hb) hg ho2
  rw [hfk] at h9
  exact h9
 have HUn : Hid (∀ W, Calls Tryz.prog 24 #[.string o.to, .string o.path] W fun e w' => e = .returned (.bool (underB o.to o.path)) ∧ Below W.heap.size W w') := fun W => under_any o.to o.path W ho3 ho2
 have HHt : Hid (∀ W, Below w.heap.size w W → Calls Tryz.prog 83 #[.agg #[.slice (some ⟨b, off, none⟩) t.nodes.length cap, .int .i64 t.next], .string o.to] W fun e w' => e = .returned (.tuple #[.int .i64 (-1), .string ByteArray.empty, .int .i64 x]) ∧ Below W.heap.size W w') := fun W hb => by
  have h9 := home_any _ t o.to W (HT.out.below hb) hg ho3
  rw [hht] at h9
  exact h9
 have hkl : k < t.nodes.length := (find_ok hg.e hfk).2.2
 clear q1 q2 q3 q4 q5 hT hF hb hc hg ho2 ho3 ho4 hdn
 unfold opV
 obtain ⟨w0, hw0⟩ : ∃ w0, w0 = ((((w.alloc (.cells #[.slice (some ⟨b, off, none⟩) t.nodes.length cap, .int .i64 t.next] 29)).alloc (.cells #[.int .i64 o.kind, .string o.path, .string o.to, .int .i64 o.off, .int .i64 o.n, .slice do' dn dc, .int .i64 o.snap] 35)).alloc (.cells #[.slice none 0 0, .int .i64 0] 29)).alloc (.cells #[.int .i64 0, .int .i64 0, .int .i64 0, .int .i64 0, .int .i64 0, .slice none 0 0, .slice none 0 0, .slice none 0 0] 40)) := ⟨_, rfl⟩
 have HB0 : Hid (Bx w w0 (.slice (some ⟨b, off, none⟩) t.nodes.length cap) (.int .i64 t.next) o (.slice do' dn dc)) := by rw [hw0]; exact bx_new w _ _ _ o
 have HR : Hid (renameB t o = (t, noReply, x)) := by
  show _ = _
  unfold renameB
  rw [if_neg (by simp [hpa]), if_neg (by simp [hpt]), hfk]
  dsimp only
  rw [if_neg hlo, hht]
 have hx : x ≠ 0 := home_codeT hht
 have hxe : (x == 0) = false := beq_eq_false_iff_ne.2 hx
 have hxe2 : (x != 0) = true := by simp [hx]
 obtain ⟨do1, nd1, dc1, mo1, mc1, io1, ni1, ic1, hfk5, hak⟩ := base5r HG.out.2.1 HG.out.2.2.1 HG.out.2.2.2.2 hkl
 obtain ⟨I, hI⟩ : ∃ z, (nodeAt t k).ino = z := ⟨_, rfl⟩
 obtain ⟨kd, hkd⟩ : ∃ z, (nodeAt t k).kind = z := ⟨_, rfl⟩
 obtain ⟨NK, hNK⟩ : ∃ z, (nodeAt t k).names.length = z := ⟨_, rfl⟩
 have HAK : Hid (At5 w b (off + k * 5) ⟨nodeAt t k, .slice do1 nd1 dc1, .slice mo1 NK mc1, .slice io1 ni1 ic1⟩) := by rw [← hNK]; exact hak
 have HIK : Hid ((nodeAt t k).ino = I ∧ (nodeAt t k).kind = kd) := ⟨hI, hkd⟩
 have HKD : Hid (kd = 1 ∨ kd = 2) := by rw [← hkd]; exact HG.out.1.e.fair.kind (nodeAt_mem hkl)
 have j0 : (k : Int) < (t.nodes.length : Int) := by omega
 have j1 : (0 : Int) ≤ (k : Int) := by omega
 have HLO : Hid (¬ (kd = 2 ∧ o.to ≠ o.path ∧ underB o.to o.path = true)) := by rw [← hkd]; exact hlo
 clear HH hpa hpt hfk hkl hlo hht hx hI hkd hNK hak hfk5
 go_enter Tryz.func50, Tryz.ntmps50
 go_wp2_with fail
 go_at_call 87
 rw [← hw0]
 refine (HPa.out w0).mono ?_
 rintro e w1 ⟨x1, x2, rfl, hb1⟩
 have HB1 : Hid (Bx w w1 (.slice (some ⟨b, off, none⟩) t.nodes.length cap) (.int .i64 t.next) o (.slice do' dn dc)) := HB0.out.below hb1
 clear HB0 hw0 hb1 HPa
 have p2 := HB1.out.op.2.2.1
 go_wp2_with fail
 go_at_call 87
 refine (HPt.out w1).mono ?_
 rintro e w2 ⟨y1, y2, rfl, hb2⟩
 have HB2 : Hid (Bx w w2 (.slice (some ⟨b, off, none⟩) t.nodes.length cap) (.int .i64 t.next) o (.slice do' dn dc)) := HB1.out.below hb2
 clear HB1 HPt p2 hb2
 obtain ⟨c0, c1⟩ := HB2.out.1.c
 have p1 := HB2.out.op.2.1
 go_wp2_with fail
 go_at_call 53
 refine (HFd.out w2 HB2.out.2.2.2.2).mono ?_
 rintro e w3 ⟨rfl, hbw3⟩
 have HB3 : Hid (Bx w w3 (.slice (some ⟨b, off, none⟩) t.nodes.length cap) (.int .i64 t.next) o (.slice do' dn dc)) := HB2.out.below hbw3
 clear hbw3
 clear HB2 HFd c0 c1 p1
 obtain ⟨y0, y1', y2', y3, y4⟩ := At5.below HAK.out HG.out.2.2.2.1 HB3.out.2.2.2.2
 simp only at y0 y1' y2' y3 y4
 rw [HIK.out.1] at y0
 rw [HIK.out.2] at y1'
 have bl : b < w3.heap.size := Nat.lt_of_lt_of_le HG.out.2.2.2.1 HB3.out.2.2.2.2.size
 obtain ⟨c0, c1⟩ := HB3.out.1.c
 obtain ⟨w4, hw4⟩ : ∃ z, z = w3.alloc (.cells #[.int .i64 I, .int .i64 kd, .slice do1 nd1 dc1, .slice mo1 NK mc1, .slice io1 ni1 ic1] 60) := ⟨_, rfl⟩
 have HB4 : Hid (Bx w w4 (.slice (some ⟨b, off, none⟩) t.nodes.length cap) (.int .i64 t.next) o (.slice do' dn dc)) := by rw [hw4]; exact HB3.out.below (bel_newP _ _)
 have HN4 : Hid (w4.heap[w3.heap.size]? = some (.cells #[.int .i64 I, .int .i64 kd, .slice do1 nd1 dc1, .slice mo1 NK mc1, .slice io1 ni1 ic1] 60)) := by rw [hw4]; exact (MapKept.heap_alloc w3 _).1
 obtain ⟨nb, hnb⟩ : ∃ z, z = w3.heap.size := ⟨_, rfl⟩
 rw [← hnb] at HN4
 clear HB3
 go_upto_region 11 with fail
 rw [← hw4, ← hnb]
 clear hw4 hnb y0 y1' y2' y3 y4 c0 c1 bl j0 j1
 go_cut [82] from 66 to 81 (fun c wx => c = .bool false ∧ Hid (Below w4.heap.size w4 wx))
 case first =>
  have n1 := cell_ofRr (j := 1) HN4.out rfl
  have nl := cell_lt n1
  have p1 := HB4.out.op.2.1
  have p2 := HB4.out.op.2.2.1
  by_cases hk2 : kd = 2
  · subst hk2
    by_cases htp : o.to = o.path
    · have hteq : (o.to.toList == o.path.toList) = true := by rw [htp]; exact beq_self_eq_true _
      clear htp
      go_wp2_with fail
      go_meet
      case rel => exact ⟨rfl, Below.refl _ _⟩
    · have hteq : (o.to.toList == o.path.toList) = false := beq_eq_false_iff_ne.2 (fun h => htp (toList_inj h))
      have hu : underB o.to o.path = false := by
       cases hq : underB o.to o.path
       · rfl
       · exact absurd ⟨rfl, htp, hq⟩ HLO.out
      have HUx : Hid (Calls Tryz.prog 24 _ w4 _) := HUn.out w4
      rw [hu] at HUx
      clear htp hu
      go_wp2_with fail
      go_at_call 24
      refine HUx.out.mono ?_
      rintro e w5 ⟨rfl, hb5⟩
      have H5 : Hid (Below w4.heap.size w4 w5) := hb5
      clear hb5
      go_wp2_with fail
      go_meet
      case rel => exact ⟨rfl, H5⟩
  · have hde : (kd == 2) = false := beq_eq_false_iff_ne.2 hk2
    go_wp2_with fail
    go_meet
    case rel => exact ⟨rfl, Below.refl _ _⟩
 case rest =>
  obtain ⟨rfl, HC⟩ := hcut
  obtain ⟨w5, hw5⟩ : ∃ z, z = wc := ⟨_, rfl⟩
  subst hw5
  have HB5 : Hid (Bx w w5 (.slice (some ⟨b, off, none⟩) t.nodes.length cap) (.int .i64 t.next) o (.slice do' dn dc)) := HB4.out.below HC.out
  have HN5 : Hid (w5.heap[nb]? = some (.cells #[.int .i64 I, .int .i64 kd, .slice do1 nd1 dc1, .slice mo1 NK mc1, .slice io1 ni1 ic1] 60)) := below_blockRr HC.out HN4.out
  clear HC HB4 HN4 HUn HLO
  obtain ⟨c0, c1⟩ := HB5.out.1.c
  have p2 := HB5.out.op.2.2.1
  go_wp2_with fail
  go_at_call 83
  refine (HHt.out w5 HB5.out.2.2.2.2).mono ?_
  rintro e w6 ⟨rfl, hbw6⟩
  have HB6 : Hid (Bx w w6 (.slice (some ⟨b, off, none⟩) t.nodes.length cap) (.int .i64 t.next) o (.slice do' dn dc)) := HB5.out.below hbw6
  clear hbw6
  clear HB5 HN5 HHt c0 c1 p2
  have hB := HB6.out
  obtain ⟨c0, c1⟩ := hB.1.c
  obtain ⟨r0, r1⟩ := hB.2.2.1.c
  have z0 := hB.2.2.1.fz 0
  have z1 := hB.2.2.1.fz 1
  obtain ⟨s0, s1, s2, s3, s4, s5, s6, s7, sz⟩ := hB.re
  obtain ⟨p0, p1, p2, p3, p4, p5⟩ := hB.op
  clear hB 
  go_wp2
  refine bodyPost_ret (v := .tuple #[.agg #[.slice (some ⟨b, off, none⟩) t.nodes.length cap, .int .i64 t.next], .agg #[.int .i64 0, .int .i64 0, .int .i64 0, .int .i64 0, .int .i64 0, .slice none 0 0, .slice none 0 0, .slice none 0 0], .int .i64 x]) (by simp [results, Tryz.results50, go_sem, *]) rfl ?_
  rw [HR.out]
  exact ⟨_, _, rfl, HT.out.below (out_below _ _ _ _ _ _ _ _ _ _ HB6.out.2.2.2.2), replyAt_no _, out_below _ _ _ _ _ _ _ _ _ _ HB6.out.2.2.2.2⟩
end Go.Proofs.YtbebgobboccjcaaGreatDoor
