/- dolmenlaw5.TreeNothing. -/
import Derived.Test.YtbebgobboccjcaaGreatDoorH5
import Derived.Test.YtbebgobboccjcaaGreatDoorPLSmall
import Derived.Test.YtbebgobboccjcaaGreatDoorH2
import Derived.Test.YtbebgobboccjcaaGreatDoorH7
import Derived.Deep.RegionHeld3
import Derived.Deep.RegionWith
namespace Go.Proofs.YtbebgobboccjcaaGreatDoor
open Go.RowKit Kit
set_option linter.unusedVariables false

set_option maxRecDepth 4000 in
set_option maxRecDepth 4000 in
theorem trefreads_any (k : Int) (w : World) : Calls Tryz.prog 21 #[.int .i64 k] w fun e w' => e = .returned (.bool (readsB k)) ∧ w' = w := by
 unfold readsB
 by_cases h7 : k = 7
 · subst h7
   go_enter Tryz.func21, Tryz.ntmps21
   go_wp2
   go_ret
   exact ⟨rfl, rfl⟩
 have b7 : (k == 7) = false := beq_eq_false_iff_ne.2 h7
 by_cases h10 : k = 10
 · subst h10
   go_enter Tryz.func21, Tryz.ntmps21
   go_wp2
   go_ret
   exact ⟨rfl, rfl⟩
 have b10 : (k == 10) = false := beq_eq_false_iff_ne.2 h10
 rw [b7, b10]
 clear h7 h10
 go_enter Tryz.func21, Tryz.ntmps21
 go_wp2
 go_ret
 exact ⟨by first | rfl | simp, rfl⟩
theorem good_kindsZ {t : TreeB} (h : Good t) : ∀ n ∈ t.nodes, n.kind = 1 ∨ n.kind = 2 := fun n hn => h.1.fair.kind hn
theorem rel_box {W w5 U w7 : World} {zb B : Nat} (hW : Below W.heap.size W w7) (hWB : W.heap.size ≤ B) (h5B : w5.heap.size ≤ B) (hU : Below w5.heap.size w5 U) (h : ∃ b, U.heap.size ≤ b ∧ Turn zb b U w7) (a0 a1 : Value) : Below W.heap.size W (outT w7 B a0 a1) ∧ ∃ b, w5.heap.size ≤ b ∧ Turn zb b w5 (outT w7 B a0 a1) := by
 obtain ⟨b, hb, ht⟩ := h
 have h5 := hU.size
 exact ⟨(hW.setCell hWB _).setCell hWB _, b, by omega, turn_only ((turn_below hU).trans ht) (outT_only _ _ _ _) h5B⟩
theorem rel_new {W w5 U w7 : World} {zb : Nat} (hW : Below W.heap.size W w7) (hU : Below w5.heap.size w5 U) (h : ∃ b, U.heap.size ≤ b ∧ Turn zb b U w7) (o : Obj) : Below W.heap.size W (w7.alloc o) ∧ ∃ b, w5.heap.size ≤ b ∧ Turn zb b w5 (w7.alloc o) := by
 obtain ⟨b, hb, ht⟩ := h
 have h5 := hU.size
 exact ⟨bel2e hW (bel_new _ _), b, by omega, ((turn_below hU).trans ht).trans (turn_below (bel_new _ _))⟩
set_option maxRecDepth 4000 in
set_option maxHeartbeats 8000000 in
theorem nothing_any (o : OpB) (da : Option Addr) (dc : Nat) (path : ByteArray) (w : World) (hf : OpFit w o da dc) (hp : path.size ≤ maxLen) (hg : Tied w) :
 Calls Tryz.prog 5 #[.agg #[.int .i64 o.kind, .string o.path, .string o.to, .int .i64 o.off, .int .i64 o.n, .slice da o.data.length dc, .int .i64 o.snap], .string path] w fun e w' => e = .returned (.bool true) ∧ Below w.heap.size w w' := by
 obtain ⟨W, hW⟩ : ∃ z, z = w.alloc (.cells #[.int .i64 o.kind, .string o.path, .string o.to, .int .i64 o.off, .int .i64 o.n, .slice da o.data.length dc, .int .i64 o.snap] 35) := ⟨_, rfl⟩
 have HW : Hid (Below w.heap.size w W ∧ W.heap[w.heap.size]? = some (.cells #[.int .i64 o.kind, .string o.path, .string o.to, .int .i64 o.off, .int .i64 o.n, .slice da o.data.length dc, .int .i64 o.snap] 35) ∧ W.heap.size = w.heap.size + 1) := by
  refine ⟨?_, ?_, ?_⟩
  · rw [hW]; exact bel_new _ _
  · rw [hW]; exact (MapKept.heap_alloc w _).1
  · rw [hW]; simp
 have HG : Hid (Tied W) := tied_below hg HW.out.1
 have HFt : Hid (OpFit W o da dc) := hf.below HW.out.1
 have HAW : Hid (∀ w1, Below W.heap.size W w1 → Calls Tryz.prog 8 #[] w1 fun e w' => e = .returned (.bool true) ∧ Below w1.heap.size w1 w') := fun w1 h => awake5_any w1 (tied_below HG.out h)
 have HOp : Hid (Calls Tryz.prog 18 _ W _) := aop_any o da dc W HFt.out
 have HBx : Hid (∀ w1 : World, w1.heap[w.heap.size]? = some (.cells #[.int .i64 o.kind, .string o.path, .string o.to, .int .i64 o.off, .int .i64 o.n, .slice da o.data.length dc, .int .i64 o.snap] 35) → w1.cell? ⟨w.heap.size, 0, none⟩ = some (.int .i64 o.kind) ∧ w1.cell? ⟨w.heap.size, 1, none⟩ = some (.string o.path) ∧ w1.cell? ⟨w.heap.size, 2, none⟩ = some (.string o.to) ∧ w1.cell? ⟨w.heap.size, 3, none⟩ = some (.int .i64 o.off) ∧ w1.cell? ⟨w.heap.size, 4, none⟩ = some (.int .i64 o.n) ∧ w1.cell? ⟨w.heap.size, 5, none⟩ = some (.slice da o.data.length dc) ∧ w1.cell? ⟨w.heap.size, 6, none⟩ = some (.int .i64 o.snap) ∧ w.heap.size < w1.heap.size) := fun w1 hk =>
  ⟨cell_of hk rfl, cell_of hk rfl, cell_of hk rfl, cell_of hk rfl, cell_of hk rfl, cell_of hk rfl, cell_of hk rfl, (Array.getElem?_eq_some_iff.1 hk).1⟩
 have HPS : Hid (o.path.size ≤ maxLen) := hf.2.2.1
 obtain ⟨k0, k1, k2, k3, k4, k5, k6, k7⟩ := HBx.out W HW.out.2.1
 clear hf hg
 unfold maxLen at hp
 go_enter Tryz.func5, Tryz.ntmps5
 go_wp2_with fail
 go_at_call 18
 rw [← hW]
 clear hW
 refine HOp.out.mono ?_
 rintro e w2 ⟨m, hm, rfl, hb2⟩
 have HB2 : Hid (Below W.heap.size W w2) := hb2
 have HX2 : Hid (w2.heap[w.heap.size]? = some _) := below_block hb2 HW.out.2.1
 clear hb2 HOp k0 k1 k2 k3 k4 k5 k6 k7
 by_cases hm5 : (500 : Int) < (m : Int)
 · go_wp2_with fail
   go_at_call 8
   refine (HAW.out _ HB2.out).mono ?_
   rintro e w3 ⟨rfl, hb3⟩
   have HBB : Hid (Below w.heap.size w w3) := bel2e HW.out.1 (bel2e HB2.out hb3)
   clear hb3
   go_wp2
   go_ret
   exact ⟨rfl, HBB.out⟩
 by_cases hp3 : (300 : Int) < (path.size : Int)
 · go_wp2_with fail
   go_at_call 8
   refine (HAW.out _ HB2.out).mono ?_
   rintro e w3 ⟨rfl, hb3⟩
   have HBB : Hid (Below w.heap.size w w3) := bel2e HW.out.1 (bel2e HB2.out hb3)
   clear hb3
   go_wp2
   go_ret
   exact ⟨rfl, HBB.out⟩
 obtain ⟨w3, hw3⟩ : ∃ z, z = w2.alloc (.cells #[.map none, .int .i64 0] 52) := ⟨_, rfl⟩
 obtain ⟨zb, hzb⟩ : ∃ z, z = w2.heap.size := ⟨_, rfl⟩
 have H3 : Hid (Below w2.heap.size w2 w3 ∧ ZeroT w3 zb ∧ W.heap.size ≤ zb ∧ w.heap.size ≠ zb) := by
  have h1 := (Array.getElem?_eq_some_iff.1 HX2.out).1
  have h2 := HB2.out.size
  rw [hw3, hzb]
  exact ⟨bel_new _ _, (MapKept.heap_alloc w2 _).1, h2, by omega⟩
 have HX3 : Hid (w3.heap[w.heap.size]? = some _) := below_block H3.out.1 HX2.out
 have HD3 : Hid (Calls Tryz.prog 14 _ w3 _) := ddo_nil o da dc w3
 obtain ⟨k0, k1, k2, k3, k4, k5, k6, k7⟩ := HBx.out w2 HX2.out
 go_wp2_with fail
 go_at_call 14
 rw [← hw3]
 refine HD3.out.mono ?_
 rintro e w4 ⟨rv, ev, rfl, hrv, hfi, hb4⟩
 subst hrv
 obtain ⟨w5, hw5⟩ : ∃ z, z = w4.alloc (.cells #[.int .i64 0, .int .i64 0, .int .i64 0, .int .i64 0, .int .i64 0, .slice none 0 0, .slice none 0 0, .slice none 0 0] 40) := ⟨_, rfl⟩
 have H5 : Hid (Below w3.heap.size w3 w5 ∧ FaultIs w4 ev 1 o.path ∧ Below w4.heap.size w4 w5) := by rw [hw5]; exact ⟨bel2e hb4 (bel_new _ _), hfi, bel_new _ _⟩
 have HB5 : Hid (Below W.heap.size W w5) := bel2e (bel2e HB2.out H3.out.1) H5.out.1
 have HX5 : Hid (w5.heap[w.heap.size]? = some _) := below_block H5.out.1 HX3.out
 have HZ5 : Hid (ZeroT w5 zb) := below_block H5.out.1 H3.out.2.1
 have HDz : Hid (∀ U mv, Below w5.heap.size w5 U → TreeAt U mv newB → Calls Tryz.prog 11 #[.pointer (some ⟨zb, 0, none⟩), mv, .agg #[.int .i64 o.kind, .string o.path, .string o.to, .int .i64 o.off, .int .i64 o.n, .slice da o.data.length dc, .int .i64 o.snap]] U fun e w' => ∃ xa xn xc, e = .returned (.tuple #[.agg #[.slice xa xn xc, .int .i64 (doB newB o).1.next], .bool true]) ∧ Hid (Below W.heap.size W w' ∧ ∃ b, U.heap.size ≤ b ∧ Turn zb b U w')) := fun U mv h1 h2 => doesz_any o da dc mv W U zb (below_block h1 HZ5.out) H3.out.2.2.1 (bel2e HB5.out h1) h2 (HFt.out.below (bel2e HB5.out h1)) HG.out
 have HNt : Hid (∀ U, Calls Tryz.prog 10 #[] U fun e w' => ∃ v, e = .returned v ∧ TreeAt w' v newB ∧ Below U.heap.size U w') := fun U => tnew_any U
 clear k0 k1 k2 k3 k4 k5 k6 k7 hfi hb4 HD3
 obtain ⟨k0, k1, k2, k3, k4, k5, k6, k7⟩ := HBx.out w5 HX5.out
 go_upto_region 6 with fail
 rw [← hw5, ← hzb]
 clear hw5 hzb hw3
 have HNa : Hid (Calls Tryz.prog 10 #[] w5.drew _) := HNt.out w5.drew
 have HNb : Hid (Calls Tryz.prog 10 #[] (w5.alloc (.cells #[.slice none 0 0, .int .i64 0] 29)).drew _) := HNt.out (w5.alloc (.cells #[.slice none 0 0, .int .i64 0] 29)).drew
 go_cut [9, 10] from 26 to 31 (fun s9 s10 wx => s10 = .bool true ∧ Hid (Below W.heap.size W wx ∧ ∃ b, w5.heap.size ≤ b ∧ Turn zb b w5 wx))
 case first =>
  have HZl : Hid (zb < w5.heap.size) := (Array.getElem?_eq_some_iff.1 HZ5.out).1
  go_region_with (first
   | (go_at_call 10; refine HNa.out.mono ?_; rintro e6 w6 ⟨mv, rfl, hm6, hb6⟩; have HB6 : Hid (Below w5.heap.size w5 w6) := bel2e (Below.refl _ _).drew hb6; obtain ⟨ma, mn, mc, hmv⟩ := tree_form hm6; subst hmv; have HDa : Hid (Calls Tryz.prog 11 _ w6 _) := HDz.out w6 _ HB6.out hm6; have HDb : Hid (Calls Tryz.prog 11 _ (w6.alloc (.cells #[.slice none 0 0, .int .i64 0] 29)) _) := HDz.out (w6.alloc (.cells #[.slice none 0 0, .int .i64 0] 29)) _ (bel2e HB6.out (bel_new _ _)) (hm6.below (bel_new _ _)); obtain ⟨g0, g1, g2, g3, g4, g5, g6, g7⟩ := HBx.out w6 (below_block HB6.out HX5.out); clear hm6 hb6)
   | (go_at_call 10; refine HNb.out.mono ?_; rintro e6 w6 ⟨mv, rfl, hm6, hb6⟩; have HZb : Hid (MB2 w6 w5.heap.size (.slice none 0 0) (.int .i64 0)) := below_block hb6 (MapKept.heap_alloc w5 _).1; have HB6 : Hid (Below w5.heap.size w5 w6) := bel2e (bel_new _ _).drew hb6; obtain ⟨ma, mn, mc, hmv⟩ := tree_form hm6; subst hmv; have HDc : Hid (Calls Tryz.prog 11 _ w6 _) := HDz.out w6 _ HB6.out hm6; obtain ⟨g0, g1, g2, g3, g4, g5, g6, g7⟩ := HBx.out w6 (below_block HB6.out HX5.out); clear hm6 hb6)
   | (go_at_call 11; refine HDc.out.mono ?_; rintro e7 w7 ⟨xa, xn, xc, rfl, H7⟩; have HZ7 : Hid (MB2 w7 w5.heap.size (.slice none 0 0) (.int .i64 0)) := (by obtain ⟨b, hb, ht⟩ := H7.out.2; have h1 := HZl.out; have h2 := (Array.getElem?_eq_some_iff.1 HZb.out).1; exact turn_block ht HZb.out (by omega) (by omega)); obtain ⟨q0, q1⟩ := MB2.c HZ7.out; have qf0 := MB2.fz HZ7.out 0; have qf1 := MB2.fz HZ7.out 1; have ql := cell_lt q0)
   | (go_at_call 11; refine HDb.out.mono ?_; rintro e7 w7 ⟨xa, xn, xc, rfl, H7⟩; have HZ7 : Hid (MB2 w7 w6.heap.size (.slice none 0 0) (.int .i64 0)) := (by obtain ⟨b, hb, ht⟩ := H7.out.2; have h1 := HZl.out; have h3 := HB6.out.size; have h2 := (Array.getElem?_eq_some_iff.1 (MapKept.heap_alloc w6 (.cells #[.slice none 0 0, .int .i64 0] 29)).1).1; exact turn_block ht (MapKept.heap_alloc w6 _).1 (by omega) (by omega)); obtain ⟨q0, q1⟩ := MB2.c HZ7.out; have qf0 := MB2.fz HZ7.out 0; have qf1 := MB2.fz HZ7.out 1; have ql := cell_lt q0)
   | (go_at_call 11; refine HDa.out.mono ?_; rintro e7 w7 ⟨xa, xn, xc, rfl, H7⟩))
  all_goals (
   go_wp2_with fail
   go_meet
   case rel =>
    have h5s := HB5.out.size
    have h6s := HB6.out.size
    first
     | (have hh := HZb.out; exact ⟨rfl, rel_box H7.out.1 h5s (Nat.le_refl _) HB6.out H7.out.2 _ _⟩)
     | (have hh := HZ7.out; exact ⟨rfl, rel_box H7.out.1 (by omega) h6s (bel2e HB6.out (bel_new _ _)) H7.out.2 _ _⟩)
     | exact ⟨rfl, rel_new H7.out.1 HB6.out H7.out.2 _⟩)
 case rest =>
  obtain ⟨rfl, HC⟩ := hcut
  have HX7 : Hid (wc.heap[w.heap.size]? = some (.cells #[.int .i64 o.kind, .string o.path, .string o.to, .int .i64 o.off, .int .i64 o.n, .slice da o.data.length dc, .int .i64 o.snap] 35)) := by
   obtain ⟨b, hb, ht⟩ := HC.out.2
   exact turn_block ht HX5.out H3.out.2.2.2 (by have := (Array.getElem?_eq_some_iff.1 HX5.out).1; omega)
  have HF7 : Hid (FaultIs wc ev 1 o.path) := by
   obtain ⟨b, hb, ht⟩ := HC.out.2
   rcases H5.out.2.1 with ⟨h, _⟩ | ⟨h, g, e, hg⟩
   · exact absurd h (by decide)
   · have hg5 := below_block H5.out.2.2 hg
     refine Or.inr ⟨h, g, e, turn_block ht hg5 (fun e2 => ?_) (by have := (Array.getElem?_eq_some_iff.1 hg5).1; omega)⟩
     have hz : w5.heap[zb]? = _ := HZ5.out
     rw [e2, hz] at hg5
     injection hg5 with h3
     injection h3 with h4 h5
     exact absurd h5 (by decide)
  have hev : ∃ g, ev = .iface 85 (.pointer (some ⟨g, 0, none⟩)) := by
   rcases HF7.out with ⟨h, _⟩ | ⟨h, g, e, hg⟩
   · exact absurd h (by decide)
   · exact ⟨g, e⟩
  obtain ⟨eg, hev⟩ := hev
  subst hev
  have HBc : Hid (Below W.heap.size W wc) := HC.out.1
  have HI : Hid (∀ U, Below wc.heap.size wc U → Calls Tryz.prog 19 #[.iface 85 (.pointer (some ⟨eg, 0, none⟩)), .int .i64 1, .string ⟨#[116, 114, 101, 101]⟩, .string o.path] U fun e w' => e = .returned (.bool true) ∧ Below U.heap.size U w') := fun U hU => is_both wc _ 1 o.path HF7.out (by constructor <;> decide) HPS.out U hU (tied_below HG.out (bel2e HBc.out hU))
  obtain ⟨rb, hrb⟩ : ∃ z, z = readsB o.kind := ⟨_, rfl⟩
  have HRd : Hid (∀ U, Calls Tryz.prog 20 #[.int .i64 o.kind] U fun e w' => e = .returned (.bool rb) ∧ w' = U) := fun U => by rw [hrb]; exact treads_any o.kind U
  have HRt : Hid (∀ U, Calls Tryz.prog 21 #[.int .i64 o.kind] U fun e w' => e = .returned (.bool rb) ∧ w' = U) := fun U => by rw [hrb]; exact trefreads_any o.kind U
  clear hrb HC k0 k1 k2 k3 k4 k5 k6 k7 HDz HNa HNb HF7
  obtain ⟨a0, a1, a2, a3, a4, a5, a6, a7⟩ := HBx.out wc.drew HX7.out
  clear a2 a3 a4 a5 a6
  cases rb
  all_goals (
   go_wp2_with fail
   go_region_held3 (fun U => U.cell? ⟨w.heap.size, 0, none⟩ = some (.int .i64 o.kind) ∧ U.cell? ⟨w.heap.size, 1, none⟩ = some (.string o.path)) (first | with_reducible exact ⟨a0, a1⟩ | with_reducible exact ⟨f0, f1⟩ | with_reducible exact ⟨g0, g1⟩ | with_reducible exact ⟨i0, i1⟩ | with_reducible exact ⟨j0, j1⟩ | with_reducible exact ⟨l0, l1⟩ | fail) (first
    | (go_at_call 19; refine (HI.out _ (Below.refl _ _).drew).mono ?_; rintro e8 w8 ⟨rfl, hb8⟩; have H8 : Hid (Below wc.heap.size wc w8) := bel2e (Below.refl _ _).drew hb8; obtain ⟨f0, f1, _, _, _, _, _, f7⟩ := HBx.out w8 (below_block H8.out HX7.out); clear hb8)
    | (go_at_call 13; refine (dall_nil _).mono ?_; rintro e9 w9 ⟨a9, c9, rfl, HT9⟩; have H9 : Hid (Below wc.heap.size wc w9) := bel2e H8.out HT9.out.2; obtain ⟨g0, g1, _, _, _, _, _, g7⟩ := HBx.out w9 (below_block H9.out HX7.out))
    | (go_at_call 10; refine (HNt.out _).mono ?_; rintro e10 w10 ⟨mv, rfl, hm10, hb10⟩; have H10 : Hid (Below wc.heap.size wc w10) := bel2e H9.out hb10; have HT10 : Hid (TreeAt w10 _ newB ∧ TreeAt w10 mv newB) := ⟨HT9.out.1.at.below hb10, hm10⟩; obtain ⟨i0, i1, _, _, _, _, _, i7⟩ := HBx.out w10 (below_block H10.out HX7.out); clear hb10 hm10)
    | (go_at_call 12; refine (tsame_any _ _ newB _ HT10.out.1 HT10.out.2 (good_kindsZ newB_good) newB_good.1.size).mono ?_; rintro e11 w11 ⟨rfl, hb11⟩; have H11 : Hid (Below wc.heap.size wc w11) := bel2e H10.out hb11; obtain ⟨j0, j1, _, _, _, _, _, j7⟩ := HBx.out w11 (below_block H11.out HX7.out); clear hb11)
    | (go_at_call 20; refine (HRd.out _).mono ?_; rintro e12 w12 ⟨rfl, h12⟩; have h12 := h12.symm; subst h12)
    | (go_at_call 21; refine (HRt.out _).mono ?_; rintro e12 w12 ⟨rfl, h12⟩; have h12 := h12.symm; subst h12)
    | (go_at_call 8; refine (HAW.out _ (bel2e HBc.out H11.out)).mono ?_; rintro e13 w13 ⟨rfl, hb13⟩; have HBB : Hid (Below w.heap.size w w13) := bel2e HW.out.1 (bel2e (bel2e HBc.out H11.out) hb13); have H13 : Hid (Below wc.heap.size wc w13) := bel2e H11.out hb13; obtain ⟨l0, l1, _, _, _, _, _, l7⟩ := HBx.out w13 (below_block H13.out HX7.out); clear hb13))
   all_goals (
    go_wp2
    go_ret
    exact ⟨rfl, HBB.out⟩))
end Go.Proofs.YtbebgobboccjcaaGreatDoor
