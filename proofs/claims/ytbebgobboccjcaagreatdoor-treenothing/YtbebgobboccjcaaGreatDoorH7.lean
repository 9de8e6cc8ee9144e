/- Several texts in one: TDoAll TDoes TDoesZ. -/
import Derived.Test.YtbebgobboccjcaaGreatDoorPTDoR
import Derived.Test.YtbebgobboccjcaaGreatDoorPTDoS
import Derived.Test.YtbebgobboccjcaaGreatDoorH5
import Derived.Test.YtbebgobboccjcaaGreatDoorPLOps
import Derived.Test.YtbebgobboccjcaaGreatDoorH2
import Derived.Deep.RegionHeld3
import Derived.Test.YtbebgobboccjcaaGreatDoorPDDoZ3
namespace Go.Proofs.YtbebgobboccjcaaGreatDoor
open Go.RowKit Kit
set_option linter.unusedVariables false

theorem dref_any (v ov : Value) (t : TreeB) (o : OpB) (w : World) (hT : TreeAt w v t) (hg : Good t) (ho : OpAt w ov o) :
 Calls Tryz.prog 30 #[v, ov] w fun e w' => ∃ tv rv, e = .returned (.tuple #[tv, rv, .int .i64 (doB t o).2.2]) ∧ TreeN w.heap.size w' t.next tv (doB t o).1 ∧ ReplyAt w' rv (doB t o).2.1 ∧ Below w.heap.size w w' := by
 have up : o.kind ≠ 1 → o.kind ≠ 2 → Calls Tryz.prog 30 #[v, ov] w (fun e w' => ∃ tv rv, e = .returned (.tuple #[tv, rv, .int .i64 (doB t o).2.2]) ∧ TreeAt w' tv (doB t o).1 ∧ ReplyAt w' rv (doB t o).2.1 ∧ Below w.heap.size w w') → Calls Tryz.prog 30 #[v, ov] w (fun e w' => ∃ tv rv, e = .returned (.tuple #[tv, rv, .int .i64 (doB t o).2.2]) ∧ TreeN w.heap.size w' t.next tv (doB t o).1 ∧ ReplyAt w' rv (doB t o).2.1 ∧ Below w.heap.size w w') := fun n1 n2 hc => hc.mono fun e w' h => by
  obtain ⟨tv, rv, he, q1, q2, q3⟩ := h
  obtain ⟨dv, _, _, _, _, hb⟩ := ho
  exact ⟨tv, rv, he, treeN_old q1 (do_good hg o hb) (next_same t o n1 n2), q2, q3⟩
 by_cases h9 : o.kind = 1 ∨ o.kind = 2 ∨ o.kind = 3 ∨ o.kind = 4 ∨ o.kind = 5 ∨ o.kind = 6 ∨ o.kind = 7 ∨ o.kind = 8 ∨ o.kind = 9
 · exact dref_nine v ov t o w hT hg ho h9
 have h1 : o.kind ≠ 1 := by omega
 have h2 : o.kind ≠ 2 := by omega
 by_cases h10 : o.kind = 10 ∨ o.kind = 11
 · exact up h1 h2 (dref_looks v ov t o w hT hg ho h10)
 exact up h1 h2 (dref_none v ov t o w hT hg ho fun i hi1 hi2 hi => by omega)
end Go.Proofs.YtbebgobboccjcaaGreatDoor
namespace Go.Proofs.YtbebgobboccjcaaGreatDoor
open Go.RowKit Kit
set_option linter.unusedVariables false

theorem keepTD {w : World} {g c j : Nat} {v v0 v1 : Value} (h : w.cell? ⟨c, j, none⟩ = some v) (hne : g ≠ c) : ((w.setCell ⟨g, 0, none⟩ v0).setCell ⟨g, 1, none⟩ v1).cell? ⟨c, j, none⟩ = some v := by
 rw [World.cell?_setCell_far _ _ _ _ hne, World.cell?_setCell_far _ _ _ _ hne]; exact h
theorem is_both (w1 : World) (ev : Value) (c : Int) (path : ByteArray) (hf : FaultIs w1 ev c path) (hc : Cd c) (hp : path.size ≤ maxLen) : ∀ U, Below w1.heap.size w1 U → Tied U → Calls Tryz.prog 19 #[ev, .int .i64 c, .string ⟨#[116, 114, 101, 101]⟩, .string path] U fun e w' => e = .returned (.bool true) ∧ Below U.heap.size U w' := by
 intro U hU hT
 rcases hf with ⟨rfl, rfl⟩ | ⟨h0, g, rfl, hg⟩
 · exact (ais_nil _ path U).mono fun e w' h => ⟨h.1, by rw [h.2]; exact Below.refl _ _⟩
 · obtain ⟨n, rfl⟩ : ∃ n : Nat, c = (n : Int) := ⟨c.toNat, by have := hc.1; omega⟩
   exact ais_fault n U g treeS path hT (by omega) (by have := hc.2; omega) (below_block hU hg) (by decide) (by unfold maxLen at hp; omega)
end Go.Proofs.YtbebgobboccjcaaGreatDoor
namespace Go.Proofs.YtbebgobboccjcaaGreatDoor
open Go.RowKit Kit
set_option linter.unusedVariables false

set_option maxRecDepth 4000 in
set_option maxHeartbeats 16000000 in
theorem doesz_any (o : OpB) (da : Option Addr) (dc : Nat) (mv : Value) (W w : World) (p : Nat) (hz : ZeroT w p) (hWp : W.heap.size ≤ p) (hbel : Below W.heap.size W w) (hm : TreeAt w mv newB) (hf : OpFit w o da dc) (hg : Tied W) :
 Calls Tryz.prog 11 #[.pointer (some ⟨p, 0, none⟩), mv, .agg #[.int .i64 o.kind, .string o.path, .string o.to, .int .i64 o.off, .int .i64 o.n, .slice da o.data.length dc, .int .i64 o.snap]] w fun e w' => ∃ xa xn xc, e = .returned (.tuple #[.agg #[.slice xa xn xc, .int .i64 (doB newB o).1.next], .bool true]) ∧ Hid (Below W.heap.size W w' ∧ ∃ b, w.heap.size ≤ b ∧ Turn p b w w') := by
 obtain ⟨ao, n, cap, rfl⟩ := tree_form hm
 obtain ⟨t, ht⟩ : ∃ z, z = newB := ⟨_, rfl⟩
 rw [← ht]
 have hmt := hm
 rw [← ht] at hmt
 have hgt : Good t := by rw [ht]; exact newB_good
 have HTN : Hid (t = newB) := ht
 clear ht
 have HG : Hid (Good t ∧ Good (doB t o).1 ∧ Cd (doB t o).2.2 ∧ o.path.size ≤ maxLen) := ⟨hgt, do_good hgt o hf.2.1, do_cd t o, hf.2.2.1⟩
 have HF : Hid (OpFit w o da dc) := hf
 have HM : Hid (TreeAt w _ t) := hmt
 have hp : p < w.heap.size := (Array.getElem?_eq_some_iff.1 hz).1
 have HO : Hid (ZeroT w p ∧ W.heap.size ≤ p ∧ Below W.heap.size W w ∧ p < w.heap.size) := ⟨hz, hWp, hbel, hp⟩
 have HTd : Hid (Tied W) := hg
 have HPB : Hid (p < w.heap.size) := hp
 have HWs : Hid (W.heap.size ≤ w.heap.size) := hbel.size
 obtain ⟨ND, hND⟩ : ∃ z, o.data.length = z := ⟨_, rfl⟩
 have HND : Hid (o.data.length = ND) := hND
 rw [hND]
 obtain ⟨w0, hw0⟩ : ∃ z, z = ((w.alloc (.cells #[.slice ao n cap, .int .i64 t.next] 29)).alloc (.cells #[.int .i64 o.kind, .string o.path, .string o.to, .int .i64 o.off, .int .i64 o.n, .slice da ND dc, .int .i64 o.snap] 35)).alloc (.cells #[.slice none 0 0, .int .i64 0] 29) := ⟨_, rfl⟩
 have H0 : Hid (Below w.heap.size w w0 ∧ w0.heap[w.heap.size]? = some (.cells #[.slice ao n cap, .int .i64 t.next] 29) ∧ w0.heap[w.heap.size + 1]? = some (.cells #[.int .i64 o.kind, .string o.path, .string o.to, .int .i64 o.off, .int .i64 o.n, .slice da ND dc, .int .i64 o.snap] 35) ∧ MB2 w0 (w.heap.size + 2) (.slice none 0 0) (.int .i64 0)) := by
  have k1 := (bel_new w (.cells #[.slice ao n cap, .int .i64 t.next] 29))
  have k2 := (bel_new (w.alloc (.cells #[.slice ao n cap, .int .i64 t.next] 29)) (.cells #[.int .i64 o.kind, .string o.path, .string o.to, .int .i64 o.off, .int .i64 o.n, .slice da ND dc, .int .i64 o.snap] 35))
  have k3 := (bel_new ((w.alloc (.cells #[.slice ao n cap, .int .i64 t.next] 29)).alloc (.cells #[.int .i64 o.kind, .string o.path, .string o.to, .int .i64 o.off, .int .i64 o.n, .slice da ND dc, .int .i64 o.snap] 35)) (.cells #[.slice none 0 0, .int .i64 0] 29))
  have s1 : (w.alloc (.cells #[.slice ao n cap, .int .i64 t.next] 29)).heap.size = w.heap.size + 1 := by simp
  have s2 : ((w.alloc (.cells #[.slice ao n cap, .int .i64 t.next] 29)).alloc (.cells #[.int .i64 o.kind, .string o.path, .string o.to, .int .i64 o.off, .int .i64 o.n, .slice da ND dc, .int .i64 o.snap] 35)).heap.size = w.heap.size + 2 := by simp
  have b1 := (MapKept.heap_alloc w (.cells #[.slice ao n cap, .int .i64 t.next] 29)).1
  have b2 := (MapKept.heap_alloc (w.alloc (.cells #[.slice ao n cap, .int .i64 t.next] 29)) (.cells #[.int .i64 o.kind, .string o.path, .string o.to, .int .i64 o.off, .int .i64 o.n, .slice da ND dc, .int .i64 o.snap] 35)).1
  have b3 := (MapKept.heap_alloc ((w.alloc (.cells #[.slice ao n cap, .int .i64 t.next] 29)).alloc (.cells #[.int .i64 o.kind, .string o.path, .string o.to, .int .i64 o.off, .int .i64 o.n, .slice da ND dc, .int .i64 o.snap] 35)) (.cells #[.slice none 0 0, .int .i64 0] 29)).1
  rw [s1] at b2
  rw [s2] at b3
  rw [hw0]
  exact ⟨bel2e k1 (bel2e k2 k3), below_block k3 (below_block k2 b1), below_block k3 b2, b3⟩
 obtain ⟨T, hT⟩ : ∃ z, (doB t o).1 = z := ⟨_, rfl⟩
 obtain ⟨R, hR⟩ : ∃ z, (doB t o).2.1 = z := ⟨_, rfl⟩
 obtain ⟨c, hc⟩ : ∃ z, (doB t o).2.2 = z := ⟨_, rfl⟩
 have HD : Hid (Calls Tryz.prog 14 #[.pointer (some ⟨p, 0, none⟩), .agg #[.int .i64 o.kind, .string o.path, .string o.to, .int .i64 o.off, .int .i64 o.n, .slice da ND dc, .int .i64 o.snap]] w0 fun e w' => ∃ b, w0.heap.size ≤ b ∧ ToldF w0 p b (T, R, c) o.path e w') := by
  have h9 := ddoz_any o da dc w0 p ((H0.out.1.block p HO.out.2.2.2).trans HO.out.1) HF.out.2.2.1 HF.out.2.2.2 (HF.out.below H0.out.1).1
  rw [hND, ← HTN.out, show doB t o = (T, R, c) from by rw [← hT, ← hR, ← hc]] at h9
  exact h9
 have HRf : Hid (∀ U, TreeAt U (.agg #[.slice ao n cap, .int .i64 t.next]) t → Sees U (.slice da ND dc) (intsV .u8 o.data) → Calls Tryz.prog 30 #[.agg #[.slice ao n cap, .int .i64 t.next], .agg #[.int .i64 o.kind, .string o.path, .string o.to, .int .i64 o.off, .int .i64 o.n, .slice da ND dc, .int .i64 o.snap]] U fun e w' => ∃ tv rv, e = .returned (.tuple #[tv, rv, .int .i64 c]) ∧ TreeN U.heap.size w' t.next tv T ∧ ReplyAt w' rv R ∧ Below U.heap.size U w') := fun U h1 h2 => by
  have h9 := dref_any _ (.agg #[.int .i64 o.kind, .string o.path, .string o.to, .int .i64 o.off, .int .i64 o.n, .slice da ND dc, .int .i64 o.snap]) t o U h1 HG.out.1 ⟨_, rfl, h2, HF.out.2.2.1, HF.out.2.2.2, HF.out.2.1⟩
  rw [hT, hR, hc] at h9
  exact h9
 rw [hT, hc] at HG
 rw [hT]
 clear hT hR hc hz hWp hbel hm hmt hgt hp hf hg hND
 go_enter Tryz.func11, Tryz.ntmps11
 go_wp2_with fail
 go_at_call 14
 rw [← hw0]
 refine HD.out.mono ?_
 rintro e w1 ⟨b, hbn, rv, ev, rfl, hr1, hf1, hd1, ht1⟩
 simp only at hr1 hf1 hd1
 obtain ⟨ra, rc, na, nc, sa, sc, hrv, _⟩ := reply_form8 hr1
 subst hrv
 obtain ⟨q5, hq5⟩ : ∃ z, R.data.length = z := ⟨_, rfl⟩
 obtain ⟨q6, hq6⟩ : ∃ z, R.names.length = z := ⟨_, rfl⟩
 obtain ⟨q7, hq7⟩ : ∃ z, R.snaps.length = z := ⟨_, rfl⟩
 have HQ : Hid (R.data.length = q5 ∧ R.names.length = q6 ∧ R.snaps.length = q7) := ⟨hq5, hq6, hq7⟩
 rw [hq5, hq6, hq7] at hr1
 rw [hq5, hq6, hq7]
 have H1 : Hid (ReplyAt w1 (.agg #[.int .i64 R.ino, .int .i64 R.kind, .int .i64 R.size, .int .i64 R.links, .int .i64 R.n, .slice ra q5 rc, .slice na q6 nc, .slice sa q7 sc]) R ∧ FaultIs w1 ev c o.path ∧ Own W w1 p b T ∧ TreeAt w1 (.agg #[.slice ao n cap, .int .i64 t.next]) t ∧ Sees w1 (.slice da ND dc) (intsV .u8 o.data) ∧ Turn p b w w1 ∧ w1.heap[w.heap.size]? = some (.cells #[.slice ao n cap, .int .i64 t.next] 29) ∧ w1.heap[w.heap.size + 1]? = some (.cells #[.int .i64 o.kind, .string o.path, .string o.to, .int .i64 o.off, .int .i64 o.n, .slice da ND dc, .int .i64 o.snap] 35) ∧ MB2 w1 (w.heap.size + 2) (.slice none 0 0) (.int .i64 0)) := by
  have hl := HO.out
  have hz0 : ZeroT w0 p := (H0.out.1.block p hl.2.2.2).trans hl.1
  have hb3 : w.heap.size + 3 ≤ b := by
   have := (Array.getElem?_eq_some_iff.1 H0.out.2.2.2).1
   omega
  have hWb : W.heap.size ≤ b := by have := HWs.out; omega
  have hse := (HF.out.below H0.out.1).1
  rw [HND.out] at hse
  have hse2 : Sees w0 (.slice da ND dc) (intsV .u8 o.data) := hse
  have hmT := HM.out.below H0.out.1
  rw [HTN.out] at hmT
  have hmZ := treeAt_turnZ hmT hz0 hbn ht1
  have hb0 := bel2e hl.2.2.1 H0.out.1
  have hmZ2 : TreeAt w1 (.agg #[.slice ao n cap, .int .i64 t.next]) t := by rw [HTN.out]; exact hmZ
  exact ⟨hr1, hf1, ⟨hd1, hl.2.1, hWb, ht1.below hb0 hb0.size hl.2.1 hWb, HG.out.2.1⟩, hmZ2, sees_turnZ hse2 hz0 hbn ht1, (turn_below H0.out.1).trans ht1, turn_block ht1 H0.out.2.1 (by omega) (by omega), turn_block ht1 H0.out.2.2.1 (by omega) (by omega), turn_block ht1 H0.out.2.2.2 (by omega) (by omega)⟩
 obtain ⟨w2, hw2⟩ : ∃ z, z = w1.alloc (.cells #[.int .i64 R.ino, .int .i64 R.kind, .int .i64 R.size, .int .i64 R.links, .int .i64 R.n, .slice ra q5 rc, .slice na q6 nc, .slice sa q7 sc] 40) := ⟨_, rfl⟩
 have H2 : Hid (Below w1.heap.size w1 w2 ∧ w2.heap[w1.heap.size]? = some (.cells #[.int .i64 R.ino, .int .i64 R.kind, .int .i64 R.size, .int .i64 R.links, .int .i64 R.n, .slice ra q5 rc, .slice na q6 nc, .slice sa q7 sc] 40)) := by rw [hw2]; exact ⟨bel_new _ _, (MapKept.heap_alloc w1 _).1⟩
 obtain ⟨rb, hrb⟩ : ∃ z, z = w1.heap.size := ⟨_, rfl⟩
 have HRBn : Hid (w.heap.size + 3 ≤ rb) := by
  have := (Array.getElem?_eq_some_iff.1 H1.out.2.2.2.2.2.2.2.2).1
  rw [hrb]; exact this
 have H2r : Hid (w2.heap[rb]? = some (.cells #[.int .i64 R.ino, .int .i64 R.kind, .int .i64 R.size, .int .i64 R.links, .int .i64 R.n, .slice ra q5 rc, .slice na q6 nc, .slice sa q7 sc] 40)) := by rw [hrb]; exact H2.out.2
 have m0 := cell_of (j := 0) (below_block H2.out.1 H1.out.2.2.2.2.2.2.1) rfl
 have m1 := cell_of (j := 1) (below_block H2.out.1 H1.out.2.2.2.2.2.2.1) rfl
 have o0 := cell_of (j := 0) (below_block H2.out.1 H1.out.2.2.2.2.2.2.2.1) rfl
 have o1 := cell_of (j := 1) (below_block H2.out.1 H1.out.2.2.2.2.2.2.2.1) rfl
 have o2 := cell_of (j := 2) (below_block H2.out.1 H1.out.2.2.2.2.2.2.2.1) rfl
 have o3 := cell_of (j := 3) (below_block H2.out.1 H1.out.2.2.2.2.2.2.2.1) rfl
 have o4 := cell_of (j := 4) (below_block H2.out.1 H1.out.2.2.2.2.2.2.2.1) rfl
 have o5 := cell_of (j := 5) (below_block H2.out.1 H1.out.2.2.2.2.2.2.2.1) rfl
 have o6 := cell_of (j := 6) (below_block H2.out.1 H1.out.2.2.2.2.2.2.2.1) rfl
 have l0 := cell_lt m0
 have l1 := cell_lt o0
 have HB3 : Hid (w.heap.size + 3 ≤ b) := by
  have := (Array.getElem?_eq_some_iff.1 H0.out.2.2.2).1
  show _ ≤ _; omega
 clear hbn hr1 hf1 hd1 ht1 hq5 hq6 hq7 HD hw0 H0 HM HO HF
 go_upto_region 2 with fail
 rw [← hw2, ← hrb]
 clear hw2 hrb
 go_wp2_with fail
 go_at_call 30
 refine (HRf.out w2 (H1.out.2.2.2.1.below H2.out.1) (H1.out.2.2.2.2.1.below H2.out.1)).mono ?_
 rintro e w3 ⟨tv, sv, rfl, ht3, hs3, hb3⟩
 obtain ⟨xa, xn, xc, htv⟩ := tree_form ht3.at
 subst htv
 obtain ⟨ra2, rc2, na2, nc2, sa2, sc2, hsv, _⟩ := reply_form8 hs3
 subst hsv
 rw [HQ.out.1, HQ.out.2.1, HQ.out.2.2] at hs3
 rw [HQ.out.1, HQ.out.2.1, HQ.out.2.2]
 obtain ⟨w4, hw4⟩ : ∃ z, z = (w3.alloc (.cells #[.slice xa xn xc, .int .i64 T.next] 29)).alloc (.cells #[.int .i64 R.ino, .int .i64 R.kind, .int .i64 R.size, .int .i64 R.links, .int .i64 R.n, .slice ra2 q5 rc2, .slice na2 q6 nc2, .slice sa2 q7 sc2] 40) := ⟨_, rfl⟩
 have H4 : Hid (Below w2.heap.size w2 w4 ∧ Below w3.heap.size w3 w4 ∧ w4.heap[w3.heap.size]? = some (.cells #[.slice xa xn xc, .int .i64 T.next] 29) ∧ w4.heap[w3.heap.size + 1]? = some (.cells #[.int .i64 R.ino, .int .i64 R.kind, .int .i64 R.size, .int .i64 R.links, .int .i64 R.n, .slice ra2 q5 rc2, .slice na2 q6 nc2, .slice sa2 q7 sc2] 40)) := by
  have k1 := bel_new w3 (.cells #[.slice xa xn xc, .int .i64 T.next] 29)
  have k2 := bel_new (w3.alloc (.cells #[.slice xa xn xc, .int .i64 T.next] 29)) (.cells #[.int .i64 R.ino, .int .i64 R.kind, .int .i64 R.size, .int .i64 R.links, .int .i64 R.n, .slice ra2 q5 rc2, .slice na2 q6 nc2, .slice sa2 q7 sc2] 40)
  have s1 : (w3.alloc (.cells #[.slice xa xn xc, .int .i64 T.next] 29)).heap.size = w3.heap.size + 1 := by simp
  have b1 := (MapKept.heap_alloc w3 (.cells #[.slice xa xn xc, .int .i64 T.next] 29)).1
  have b2 := (MapKept.heap_alloc (w3.alloc (.cells #[.slice xa xn xc, .int .i64 T.next] 29)) (.cells #[.int .i64 R.ino, .int .i64 R.kind, .int .i64 R.size, .int .i64 R.links, .int .i64 R.n, .slice ra2 q5 rc2, .slice na2 q6 nc2, .slice sa2 q7 sc2] 40)).1
  rw [s1] at b2
  rw [hw4]
  exact ⟨bel2e hb3 (bel2e k1 k2), bel2e k1 k2, below_block k2 b1, b2⟩
 obtain ⟨xb, hxb⟩ : ∃ z, z = w3.heap.size := ⟨_, rfl⟩
 have H5 : Hid (Below w1.heap.size w1 w4 ∧ TreeN w.heap.size w4 t.next (.agg #[.slice xa xn xc, .int .i64 T.next]) T ∧ ReplyAt w4 (.agg #[.int .i64 R.ino, .int .i64 R.kind, .int .i64 R.size, .int .i64 R.links, .int .i64 R.n, .slice ra2 q5 rc2, .slice na2 q6 nc2, .slice sa2 q7 sc2]) R) := ⟨bel2e H2.out.1 H4.out.1, (ht3.below H4.out.2.1).mono (by have h1 := H1.out.2.2.2.2.2.1.size; have h2 := H2.out.1.size; omega), hs3.below H4.out.2.1⟩
 obtain ⟨sb, hsb⟩ : ∃ z, z = w3.heap.size + 1 := ⟨_, rfl⟩
 have H6 : Hid (w4.heap[xb]? = some (.cells #[.slice xa xn xc, .int .i64 T.next] 29) ∧ w4.heap[sb]? = some (.cells #[.int .i64 R.ino, .int .i64 R.kind, .int .i64 R.size, .int .i64 R.links, .int .i64 R.n, .slice ra2 q5 rc2, .slice na2 q6 nc2, .slice sa2 q7 sc2] 40) ∧ w4.heap[rb]? = some (.cells #[.int .i64 R.ino, .int .i64 R.kind, .int .i64 R.size, .int .i64 R.links, .int .i64 R.n, .slice ra q5 rc, .slice na q6 nc, .slice sa q7 sc] 40) ∧ w4.heap[w.heap.size + 1]? = some (.cells #[.int .i64 o.kind, .string o.path, .string o.to, .int .i64 o.off, .int .i64 o.n, .slice da ND dc, .int .i64 o.snap] 35) ∧ MB2 w4 (w.heap.size + 2) (.slice none 0 0) (.int .i64 0)) := by
  rw [hxb, hsb]
  exact ⟨H4.out.2.2.1, H4.out.2.2.2, below_block H4.out.1 H2r.out, below_block H5.out.1 H1.out.2.2.2.2.2.2.2.1, below_block H5.out.1 H1.out.2.2.2.2.2.2.2.2⟩
 have HNE : Hid (w.heap.size + 3 ≤ xb ∧ w.heap.size + 3 ≤ sb) := by
  have := HRBn.out
  have := (Array.getElem?_eq_some_iff.1 H2r.out).1
  have := hb3.size
  rw [hxb, hsb]; exact ⟨by omega, by omega⟩
 have HKP : Hid (∀ W, Below w4.heap.size w4 W → W.cell? ⟨xb, 0, none⟩ = some (.slice xa xn xc) ∧ W.cell? ⟨xb, 1, none⟩ = some (.int .i64 T.next) ∧ W.cell? ⟨w.heap.size + 1, 1, none⟩ = some (.string o.path) ∧ W.cell? ⟨rb, 0, none⟩ = some (.int .i64 R.ino) ∧ W.cell? ⟨rb, 1, none⟩ = some (.int .i64 R.kind) ∧ W.cell? ⟨rb, 2, none⟩ = some (.int .i64 R.size) ∧ W.cell? ⟨rb, 3, none⟩ = some (.int .i64 R.links) ∧ W.cell? ⟨rb, 4, none⟩ = some (.int .i64 R.n) ∧ W.cell? ⟨rb, 5, none⟩ = some (.slice ra q5 rc) ∧ W.cell? ⟨rb, 6, none⟩ = some (.slice na q6 nc) ∧ W.cell? ⟨rb, 7, none⟩ = some (.slice sa q7 sc) ∧ W.cell? ⟨sb, 0, none⟩ = some (.int .i64 R.ino) ∧ W.cell? ⟨sb, 1, none⟩ = some (.int .i64 R.kind) ∧ W.cell? ⟨sb, 2, none⟩ = some (.int .i64 R.size) ∧ W.cell? ⟨sb, 3, none⟩ = some (.int .i64 R.links) ∧ W.cell? ⟨sb, 4, none⟩ = some (.int .i64 R.n) ∧ W.cell? ⟨sb, 5, none⟩ = some (.slice ra2 q5 rc2) ∧ W.cell? ⟨sb, 6, none⟩ = some (.slice na2 q6 nc2) ∧ W.cell? ⟨sb, 7, none⟩ = some (.slice sa2 q7 sc2)) := fun W hW => by
  have k1 := below_block hW H6.out.1
  have k2 := below_block hW H6.out.2.1
  have k3 := below_block hW H6.out.2.2.1
  have k4 := below_block hW H6.out.2.2.2.1
  exact ⟨cell_of k1 rfl, cell_of k1 rfl, cell_of k4 rfl, cell_of k3 rfl, cell_of k3 rfl, cell_of k3 rfl, cell_of k3 rfl, cell_of k3 rfl, cell_of k3 rfl, cell_of k3 rfl, cell_of k3 rfl, cell_of k2 rfl, cell_of k2 rfl, cell_of k2 rfl, cell_of k2 rfl, cell_of k2 rfl, cell_of k2 rfl, cell_of k2 rfl, cell_of k2 rfl⟩
 have HI : Hid (∀ U, Below w4.heap.size w4 U → Calls Tryz.prog 19 #[ev, .int .i64 c, .string ⟨#[116, 114, 101, 101]⟩, .string o.path] U fun e w' => e = .returned (.bool true) ∧ Below U.heap.size U w') := fun U hU => is_both w1 ev c o.path H1.out.2.1 HG.out.2.2.1 HG.out.2.2.2 U (bel2e H5.out.1 hU) (tied_below HTd.out (((H1.out.2.2.1.below H5.out.1).below hU).bel))
 have HS : Hid (∀ U, Below w4.heap.size w4 U → Calls Tryz.prog 31 #[.agg #[.int .i64 R.ino, .int .i64 R.kind, .int .i64 R.size, .int .i64 R.links, .int .i64 R.n, .slice ra q5 rc, .slice na q6 nc, .slice sa q7 sc], .agg #[.int .i64 R.ino, .int .i64 R.kind, .int .i64 R.size, .int .i64 R.links, .int .i64 R.n, .slice ra2 q5 rc2, .slice na2 q6 nc2, .slice sa2 q7 sc2]] U fun e w' => e = .returned (.bool true) ∧ Below U.heap.size U w') := fun U hU => samereply_any _ _ R U (H1.out.1.below (bel2e H5.out.1 hU)) (H5.out.2.2.below hU)
 have hcx : w.heap.size + 1 + 1 ≠ xb := by have := HNE.out; omega
 have hco : w.heap.size + 1 + 1 ≠ w.heap.size + 1 := by omega
 have hcr : w.heap.size + 1 + 1 ≠ rb := by have := HRBn.out; omega
 have hcs : w.heap.size + 1 + 1 ≠ sb := by have := HNE.out; omega
 clear ht3 hs3 hb3 m0 m1 o0 o1 o2 o3 o4 o5 o6 l0 l1 HRf H4 H2 H2r
 go_upto_region 3 with fail
 rw [← hw4, ← hxb]
 rw [← hxb] at hsb
 rw [← hsb]
 clear hw4 hxb hsb
 have HA := HKP.out w4.drew (Below.refl _ _).drew
 obtain ⟨a0, a1, a2, a3, a4, a5, a6, a7, a8, a9, a10, a11, a12, a13, a14, a15, a16, a17, a18⟩ := HA
 have hev : ev = .nilIface ∨ ∃ g, ev = .iface 85 (.pointer (some ⟨g, 0, none⟩)) := by
  rcases H1.out.2.1 with ⟨_, h⟩ | ⟨_, g, h, _⟩
  · exact .inl h
  · exact .inr ⟨g, h⟩
 go_region_held3 (fun W => W.cell? ⟨xb, 0, none⟩ = some (.slice xa xn xc) ∧ W.cell? ⟨xb, 1, none⟩ = some (.int .i64 T.next) ∧ W.cell? ⟨w.heap.size + 1, 1, none⟩ = some (.string o.path) ∧ W.cell? ⟨rb, 0, none⟩ = some (.int .i64 R.ino) ∧ W.cell? ⟨rb, 1, none⟩ = some (.int .i64 R.kind) ∧ W.cell? ⟨rb, 2, none⟩ = some (.int .i64 R.size) ∧ W.cell? ⟨rb, 3, none⟩ = some (.int .i64 R.links) ∧ W.cell? ⟨rb, 4, none⟩ = some (.int .i64 R.n) ∧ W.cell? ⟨rb, 5, none⟩ = some (.slice ra q5 rc) ∧ W.cell? ⟨rb, 6, none⟩ = some (.slice na q6 nc) ∧ W.cell? ⟨rb, 7, none⟩ = some (.slice sa q7 sc) ∧ W.cell? ⟨sb, 0, none⟩ = some (.int .i64 R.ino) ∧ W.cell? ⟨sb, 1, none⟩ = some (.int .i64 R.kind) ∧ W.cell? ⟨sb, 2, none⟩ = some (.int .i64 R.size) ∧ W.cell? ⟨sb, 3, none⟩ = some (.int .i64 R.links) ∧ W.cell? ⟨sb, 4, none⟩ = some (.int .i64 R.n) ∧ W.cell? ⟨sb, 5, none⟩ = some (.slice ra2 q5 rc2) ∧ W.cell? ⟨sb, 6, none⟩ = some (.slice na2 q6 nc2) ∧ W.cell? ⟨sb, 7, none⟩ = some (.slice sa2 q7 sc2)) (first | with_reducible exact ⟨a0, a1, a2, a3, a4, a5, a6, a7, a8, a9, a10, a11, a12, a13, a14, a15, a16, a17, a18⟩ | with_reducible exact ⟨f0, f1, f2, f3, f4, f5, f6, f7, f8, f9, f10, f11, f12, f13, f14, f15, f16, f17, f18⟩ | with_reducible exact ⟨g0, g1, g2, g3, g4, g5, g6, g7, g8, g9, g10, g11, g12, g13, g14, g15, g16, g17, g18⟩ | with_reducible exact ⟨keepTD g0 hcx, keepTD g1 hcx, keepTD g2 hco, keepTD g3 hcr, keepTD g4 hcr, keepTD g5 hcr, keepTD g6 hcr, keepTD g7 hcr, keepTD g8 hcr, keepTD g9 hcr, keepTD g10 hcr, keepTD g11 hcs, keepTD g12 hcs, keepTD g13 hcs, keepTD g14 hcs, keepTD g15 hcs, keepTD g16 hcs, keepTD g17 hcs, keepTD g18 hcs⟩) (first
  | (go_at_call 19; refine (HI.out _ (Below.refl _ _).drew).mono ?_; rintro e5 w5 ⟨rfl, hb5⟩; have H7 : Hid (Below w4.heap.size w4 w5) := (Below.refl w4.heap.size w4).drew.trans (hb5.mono (Below.refl w4.heap.size w4).drew.size); obtain ⟨f0, f1, f2, f3, f4, f5, f6, f7, f8, f9, f10, f11, f12, f13, f14, f15, f16, f17, f18⟩ := HKP.out w5 H7.out; clear hb5)
  | (go_at_call 31; refine (HS.out _ H7.out).mono ?_; rintro e6 w6 ⟨rfl, hb6⟩; have H8 : Hid (Below w4.heap.size w4 w6) := bel2e H7.out hb6; obtain ⟨g0, g1, g2, g3, g4, g5, g6, g7, g8, g9, g10, g11, g12, g13, g14, g15, g16, g17, g18⟩ := HKP.out w6 H8.out; have HZ := below_block H8.out H6.out.2.2.2.2; obtain ⟨z0, z1⟩ := MB2.c HZ; have zf0 := MB2.fz HZ 0; have zf1 := MB2.fz HZ 1; have HZh : Hid (MB2 w6 (w.heap.size + 2) (.slice none 0 0) (.int .i64 0)) := HZ; clear hb6 HZ))
 all_goals (
  have HEn : Hid (Below W.heap.size W (outT w6 (w.heap.size + 1 + 1) (.slice xa xn xc) (.int .i64 T.next)) ∧ ∃ b, w.heap.size ≤ b ∧ Turn p b w (outT w6 (w.heap.size + 1 + 1) (.slice xa xn xc) (.int .i64 T.next))) := by
   have hO := (H1.out.2.2.1.below H5.out.1).below H8.out
   have hbb : w.heap.size + 3 ≤ b := HB3.out
   refine ⟨(hO.tbox HZh.out (by have := HPB.out; omega) (by omega) (by have := HWs.out; omega) _ _).bel, b, by omega, ?_⟩
   exact turn_only ((H1.out.2.2.2.2.2.1.trans (turn_below H5.out.1)).trans (turn_below H8.out)) (outT_only _ _ _ _) (by omega)
  clear a0 f0 a1 f1 a2 f2 a3 f3 a4 f4 a5 f5 a6 f6 a7 f7 a8 f8 a9 f9 a10 f10 a11 f11 a12 f12 a13 f13 a14 f14 a15 f15 a16 f16 a17 f17 a18 f18
  go_wp2
  refine bodyPost_ret (v := .tuple #[.agg #[.slice xa xn xc, .int .i64 T.next], .bool true]) (by simp [results, Tryz.results11, go_sem, *]) rfl ?_
  unfold outT at HEn
  exact ⟨_, _, _, rfl, HEn⟩)
end Go.Proofs.YtbebgobboccjcaaGreatDoor
