/- dolmenlaw5.TreePlays. -/
import Derived.Test.YtbebgobboccjcaaGreatDoorG5
import Derived.Test.YtbebgobboccjcaaGreatDoorMLSmall
import Derived.Test.YtbebgobboccjcaaGreatDoorG2
import Derived.Test.YtbebgobboccjcaaGreatDoorMDAll
import Derived.Test.YtbebgobboccjcaaGreatDoorG7
import Derived.Deep.RegionHeld3
import Derived.Deep.RegionWith
namespace Go.Proofs.YtbebgobboccjcaaGreatDoor
open Go.RowKit Kit
set_option linter.unusedVariables false

theorem good_kindsP {t : TreeB} (h : Good t) : ∀ n ∈ t.nodes, n.kind = 1 ∨ n.kind = 2 := fun n hn => h.1.fair.kind hn
/-- The law's state: its tree, and the box of the other one. -/
structure PL (W w : World) (p b mb : Nat) (t : TreeB) (xa : Option Addr) (xn xc : Nat) : Prop where
  own : Own W w p b t
  np : mb ≠ p
  nb : mb ≠ b
  hm : W.heap.size ≤ mb
  box : w.heap[mb]? = some (.cells #[.slice xa xn xc, .int .i64 t.next] 29)
  tree : TreeAt w (.agg #[.slice xa xn xc, .int .i64 t.next]) t
theorem PL.below {W w w' : World} {p b mb : Nat} {t : TreeB} {xa : Option Addr} {xn xc : Nat} (h : PL W w p b mb t xa xn xc) (hb : Below w.heap.size w w') : PL W w' p b mb t xa xn xc := ⟨h.own.below hb, h.np, h.nb, h.hm, below_block hb h.box, h.tree.below hb⟩
theorem outT_box {w : World} {c : Nat} {u0 u1 : Value} (h : MB2 w c u0 u1) (a0 a1 : Value) : (outT w c a0 a1).heap[c]? = some (.cells #[a0, a1] 29) := (h.set0 a0).set1 a1
theorem PL.next {W w w5 : World} {p b mb : Nat} {t T : TreeB} {xa ya : Option Addr} {xn xc yn yc : Nat} (h : PL W w p b mb t xa xn xc) (ht : Turn p b w w5) (ho : Own W w5 p b T) (hT : TreeN w.heap.size w5 t.next (.agg #[.slice ya yn yc, .int .i64 T.next]) T) :
    PL W (outT w5 mb (.slice ya yn yc) (.int .i64 T.next)) p b mb T ya yn yc := by
  have hB : MB2 w5 mb (.slice xa xn xc) (.int .i64 t.next) := turn_block ht h.box h.np h.nb
  have hl : mb < w.heap.size := (Array.getElem?_eq_some_iff.1 h.box).1
  exact ⟨ho.mset hB h.np h.nb h.hm _ _, h.np, h.nb, h.hm, outT_box hB _ _, hT.mset hB hl _ _⟩
set_option maxRecDepth 4000 in
set_option maxHeartbeats 8000000 in
theorem plays_any (v : Value) (os : List OpB) (w : World) (hO : OpsAt w v os) (hg : Tied w) :
    Calls Tryz.prog 3 #[v] w fun e w' => e = .returned (.bool true) ∧ Below w.heap.size w w' := by
  have HG : Hid (Tied w) := hg
  have HOs : Hid (OpsAt w v os) := hO
  have HAW : Hid (∀ w1, Below w.heap.size w w1 → Calls Tryz.prog 8 #[] w1 fun e w' => e = .returned (.bool true) ∧ Below w1.heap.size w1 w') := fun w1 h => awake5_any w1 (tied_below HG.out h)
  have HSm : Hid (Calls Tryz.prog 7 _ w _) := small_any v os w HOs.out
  have HNt : Hid (∀ U, Calls Tryz.prog 10 #[] U fun e w' => ∃ v, e = .returned v ∧ TreeAt w' v newB ∧ Below U.heap.size U w') := fun U => tnew_any U
  obtain ⟨ao, cap, rfl, h2, h3⟩ := hO
  have H3 : Hid (0 < os.length → _) := h3
  clear h2 h3 hg
  go_enter Tryz.func3, Tryz.ntmps3
  go_wp2_with fail
  go_at_call 7
  refine HSm.out.mono ?_
  rintro e w1 ⟨q, rfl, hq, hb1⟩
  have HB1 : Hid (Below w.heap.size w w1) := hb1
  have HQ : Hid (q = true → os.length ≤ 80) := hq
  clear hb1 hq HSm
  cases q
  · go_wp2_with fail
    go_at_call 8
    refine (HAW.out _ HB1.out).mono ?_
    rintro e w2 ⟨rfl, hb2⟩
    have HBB : Hid (Below w.heap.size w w2) := bel2e HB1.out hb2
    clear hb2
    go_wp2
    go_ret
    exact ⟨rfl, HBB.out⟩
  have hl80 : os.length ≤ 80 := HQ.out rfl
  have hl8 : (os.length : Int) ≤ 80 := by omega
  have HN : Hid (Calls Tryz.prog 9 _ w1 _) := lnew w1
  go_wp2_with fail
  go_at_call 9
  refine HN.out.mono ?_
  rintro e w2 ⟨p, b, rfl, HO2⟩
  have HO : Hid (Own w w2 p b newB) := own_from HB1.out HO2.out
  clear HN HO2 HB1
  go_wp2_with fail
  go_at_call 10
  refine (HNt.out w2).mono ?_
  rintro e w3 ⟨mv, rfl, hm, hb3⟩
  obtain ⟨ma, mn, mc, hmv⟩ := tree_form hm
  subst hmv
  obtain ⟨T0, hT0⟩ : ∃ z, z = newB := ⟨_, rfl⟩
  rw [← hT0] at hm HO ⊢
  clear hT0
  obtain ⟨w4, hw4⟩ : ∃ z, z = w3.alloc (.cells #[.slice ma mn mc, .int .i64 T0.next] 29) := ⟨_, rfl⟩
  obtain ⟨mb, hmb⟩ : ∃ z, z = w3.heap.size := ⟨_, rfl⟩
  have HPL : Hid (PL w w4 p b mb T0 ma mn mc) := by
    have h1 := HO.out.lt
    have h2 := hb3.size
    have h4 := HO.out.bel.size
    rw [hw4, hmb]
    exact ⟨(HO.out.below hb3).below (bel_new _ _), by omega, by omega, by omega, (MapKept.heap_alloc w3 _).1, hm.below (bel_new _ _)⟩
  clear HO hm hb3 HNt
  go_upto_region 5 with fail
  rw [← hw4, ← hmb]
  clear hw4 hmb
  go_wp2_with fail
  go_loopw [5] (fun s5 wr => ∃ (i : Nat) (t : TreeB) (xa : Option Addr) (xn xc : Nat), i ≤ os.length ∧ s5 = .int .i64 (i : Int) ∧ Hid (PL w wr p b mb t xa xn xc)) (fun s5 _ => os.length - (intOf s5).toNat)
  case atStart => exact ⟨0, T0, ma, mn, mc, Nat.zero_le _, rfl, HPL⟩
  case round =>
    obtain ⟨i, t, xa, xn, xc, hi, rfl, HP⟩ := hrel
    clear HPL
    have m0 : wr.cell? ⟨mb, 0, none⟩ = some (.slice xa xn xc) := cell_of HP.out.box rfl
    have m1 : wr.cell? ⟨mb, 1, none⟩ = some (.int .i64 t.next) := cell_of HP.out.box rfl
    have ml := cell_lt m0
    by_cases hin : i < os.length
    · have hii : (i : Int) < (os.length : Int) := by omega
      have hiz : (0 : Int) ≤ (i : Int) := by omega
      obtain ⟨b1, o1, rfl, hl1, hc1⟩ := H3.out (by omega)
      obtain ⟨da1, dc1, ha1, hf1⟩ := hc1 i hin
      have hwr : Below w.heap.size w wr := HP.out.own.bel
      obtain ⟨c0, c1, c2, c3, c4, c5, c6⟩ := ha1.below hl1 hwr
      have HX : Hid (Calls Tryz.prog 11 _ wr.drew _) := does_any os[i] da1 dc1 _ w wr.drew p b t (HP.out.own.below (Below.refl _ _).drew) (HP.out.tree.below (Below.refl _ _).drew) ((hf1.below hwr).below (Below.refl _ _).drew) HG.out
      have HX2f : Hid (∀ U, Below wr.heap.size wr U → Calls Tryz.prog 11 #[.pointer (some ⟨p, 0, none⟩), .agg #[.slice xa xn xc, .int .i64 t.next], .agg #[.int .i64 os[i].kind, .string os[i].path, .string os[i].to, .int .i64 os[i].off, .int .i64 os[i].n, .slice da1 os[i].data.length dc1, .int .i64 os[i].snap]] U fun e w' => ∃ xa xn xc, e = .returned (.tuple #[.agg #[.slice xa xn xc, .int .i64 (doB t os[i]).1.next], .bool true]) ∧ Hid (TreeN U.heap.size w' t.next (.agg #[.slice xa xn xc, .int .i64 (doB t os[i]).1.next]) (doB t os[i]).1 ∧ Own w w' p b (doB t os[i]).1 ∧ Turn p b U w')) := fun U hU => does_any os[i] da1 dc1 _ w U p b t (HP.out.own.below hU) (HP.out.tree.below hU) ((hf1.below hwr).below hU) HG.out
      have HGT : Hid (Good (doB t os[i]).1) := do_good HP.out.own.good os[i] hf1.2.1
      have HPw : Hid (w.heap.size ≤ wr.heap.size) := hwr.size
      obtain ⟨y, hy⟩ : ∃ y, y = os[i] := ⟨_, rfl⟩
      rw [← hy] at c0 c1 c2 c3 c4 c5 c6 HX HX2f HGT
      have l1 : b1 < wr.heap.size := by have := hwr.size; omega
      have HB1 : Hid (b1 ≠ p ∧ b1 ≠ b) := by
        have h1 := HP.out.own.hp
        have h2 := HP.out.own.hb
        exact ⟨by omega, by omega⟩
      have HKT : Hid (∀ u g j (x : Value), Turn p b wr.drew u → g ≠ p → g ≠ b → wr.cell? ⟨g, j, none⟩ = some x → u.cell? ⟨g, j, none⟩ = some x) := fun u g j x ht hp hb hx => by
        have hlt : g < wr.heap.size := cell_lt hx
        have h9 := ht.block g hlt hp hb
        rw [← hx]
        simp only [World.cell?, h9]
        rfl
      have d0 : wr.drew.cell? ⟨mb, 0, none⟩ = some (.slice xa xn xc) := m0
      have d1 : wr.drew.cell? ⟨mb, 1, none⟩ = some (.int .i64 t.next) := m1
      have k0 : wr.drew.cell? _ = some _ := c0
      have k1 : wr.drew.cell? _ = some _ := c1
      have k2 : wr.drew.cell? _ = some _ := c2
      have k3 : wr.drew.cell? _ = some _ := c3
      have k4 : wr.drew.cell? _ = some _ := c4
      have k5 : wr.drew.cell? _ = some _ := c5
      have k6 : wr.drew.cell? _ = some _ := c6
      clear hc1 ha1 hf1 hy hwr
      have HX2 : Hid (Calls Tryz.prog 11 _ (wr.alloc (.cells #[.slice none 0 0, .int .i64 0] 29)).drew _) := HX2f.out (wr.alloc (.cells #[.slice none 0 0, .int .i64 0] 29)).drew (bel_new _ _).drew
      have HUA : Hid (Below wr.heap.size wr (wr.alloc (.cells #[.slice none 0 0, .int .i64 0] 29)).drew) := (bel_new _ _).drew
      have hml : mb < wr.heap.size := ml
      have hzm : wr.heap.size ≠ mb := by omega
      have hzb : wr.heap.size ≠ b1 := by omega
      have HNB : Hid (mb ≠ p ∧ mb ≠ b ∧ mb < wr.heap.size ∧ p < wr.heap.size ∧ b < wr.heap.size) := ⟨HP.out.np, HP.out.nb, ml, HP.out.own.lt⟩
      have fa0 : ((wr.alloc (.cells #[.slice none 0 0, .int .i64 0] 29)).drew).cell? _ = some _ := cell_oldD HUA.out m0
      have fa1 : ((wr.alloc (.cells #[.slice none 0 0, .int .i64 0] 29)).drew).cell? _ = some _ := cell_oldD HUA.out m1
      have fa2 : ((wr.alloc (.cells #[.slice none 0 0, .int .i64 0] 29)).drew).cell? _ = some _ := cell_oldD HUA.out c0
      have fa3 : ((wr.alloc (.cells #[.slice none 0 0, .int .i64 0] 29)).drew).cell? _ = some _ := cell_oldD HUA.out c1
      have fa4 : ((wr.alloc (.cells #[.slice none 0 0, .int .i64 0] 29)).drew).cell? _ = some _ := cell_oldD HUA.out c2
      have fa5 : ((wr.alloc (.cells #[.slice none 0 0, .int .i64 0] 29)).drew).cell? _ = some _ := cell_oldD HUA.out c3
      have fa6 : ((wr.alloc (.cells #[.slice none 0 0, .int .i64 0] 29)).drew).cell? _ = some _ := cell_oldD HUA.out c4
      have fa7 : ((wr.alloc (.cells #[.slice none 0 0, .int .i64 0] 29)).drew).cell? _ = some _ := cell_oldD HUA.out c5
      have fa8 : ((wr.alloc (.cells #[.slice none 0 0, .int .i64 0] 29)).drew).cell? _ = some _ := cell_oldD HUA.out c6
      have HKT2 : Hid (∀ u g j (x : Value), Turn p b (wr.alloc (.cells #[.slice none 0 0, .int .i64 0] 29)).drew u → g ≠ p → g ≠ b → wr.cell? ⟨g, j, none⟩ = some x → u.cell? ⟨g, j, none⟩ = some x) := fun u g j x ht hp hb hx => by
        have hlt : g < (wr.alloc (.cells #[.slice none 0 0, .int .i64 0] 29)).drew.heap.size := Nat.lt_of_lt_of_le (cell_lt hx) HUA.out.size
        have h9 := ht.block g hlt hp hb
        have h8 := cell_oldD HUA.out hx
        rw [← h8]
        simp only [World.cell?, h9]
      go_upto_region 10 with fail
      go_cut [6, 7] from 16 to 34 (fun s6 s7 wx => ∃ xb ya yn yc, s6 = .pointer (some ⟨xb, 0, none⟩) ∧ s7 = .bool true ∧ Hid (Turn p b wr wx ∧ Own w wx p b (doB t y).1 ∧ TreeN wr.heap.size wx t.next (.agg #[.slice ya yn yc, .int .i64 (doB t y).1.next]) (doB t y).1 ∧ wx.heap[xb]? = some (.cells #[.slice ya yn yc, .int .i64 (doB t y).1.next] 29) ∧ wr.heap.size ≤ xb))
      case first =>
        go_region_held3 (fun W => W.cell? ⟨mb, 0, none⟩ = some (.slice xa xn xc) ∧ W.cell? ⟨mb, 1, none⟩ = some (.int .i64 t.next) ∧ W.cell? ⟨b1, o1 + i * 7, none⟩ = some (.int .i64 y.kind) ∧ W.cell? ⟨b1, o1 + i * 7 + 1, none⟩ = some (.string y.path) ∧ W.cell? ⟨b1, o1 + i * 7 + 2, none⟩ = some (.string y.to) ∧ W.cell? ⟨b1, o1 + i * 7 + 3, none⟩ = some (.int .i64 y.off) ∧ W.cell? ⟨b1, o1 + i * 7 + 4, none⟩ = some (.int .i64 y.n) ∧ W.cell? ⟨b1, o1 + i * 7 + 5, none⟩ = some (.slice da1 y.data.length dc1) ∧ W.cell? ⟨b1, o1 + i * 7 + 6, none⟩ = some (.int .i64 y.snap)) (first | with_reducible exact ⟨d0, d1, k0, k1, k2, k3, k4, k5, k6⟩ | with_reducible exact ⟨fa0, fa1, fa2, fa3, fa4, fa5, fa6, fa7, fa8⟩ | with_reducible exact ⟨g0, g1, g2, g3, g4, g5, g6, g7, g8⟩ | with_reducible exact ⟨cell_oldD (bel_new _ _) g0, cell_oldD (bel_new _ _) g1, cell_oldD (bel_new _ _) g2, cell_oldD (bel_new _ _) g3, cell_oldD (bel_new _ _) g4, cell_oldD (bel_new _ _) g5, cell_oldD (bel_new _ _) g6, cell_oldD (bel_new _ _) g7, cell_oldD (bel_new _ _) g8⟩ | with_reducible exact ⟨keepTD g0 hzm, keepTD g1 hzm, keepTD g2 hzb, keepTD g3 hzb, keepTD g4 hzb, keepTD g5 hzb, keepTD g6 hzb, keepTD g7 hzb, keepTD g8 hzb⟩ | fail) (first
          | (go_at_call 11; refine HX.out.mono ?_; rintro e5 w5 ⟨ya, yn, yc, rfl, HT⟩; have HW5 : Hid (Turn p b wr w5 ∧ Own w w5 p b (doB t y).1 ∧ TreeN wr.heap.size w5 t.next (.agg #[.slice ya yn yc, .int .i64 (doB t y).1.next]) (doB t y).1) := ⟨(turn_below (Below.refl _ _).drew).trans HT.out.2.2, HT.out.2.1, HT.out.1⟩; have g0 := HKT.out w5 _ _ _ HT.out.2.2 HNB.out.1 HNB.out.2.1 m0; have g1 := HKT.out w5 _ _ _ HT.out.2.2 HNB.out.1 HNB.out.2.1 m1; have g2 := HKT.out w5 _ _ _ HT.out.2.2 HB1.out.1 HB1.out.2 c0; have g3 := HKT.out w5 _ _ _ HT.out.2.2 HB1.out.1 HB1.out.2 c1; have g4 := HKT.out w5 _ _ _ HT.out.2.2 HB1.out.1 HB1.out.2 c2; have g5 := HKT.out w5 _ _ _ HT.out.2.2 HB1.out.1 HB1.out.2 c3; have g6 := HKT.out w5 _ _ _ HT.out.2.2 HB1.out.1 HB1.out.2 c4; have g7 := HKT.out w5 _ _ _ HT.out.2.2 HB1.out.1 HB1.out.2 c5; have g8 := HKT.out w5 _ _ _ HT.out.2.2 HB1.out.1 HB1.out.2 c6; clear HT)
          | (go_at_call 11; refine HX2.out.mono ?_; rintro e5 w5 ⟨ya, yn, yc, rfl, HT⟩; have HW6 : Hid (Turn p b wr w5 ∧ Own w w5 p b (doB t y).1 ∧ TreeN wr.heap.size w5 t.next (.agg #[.slice ya yn yc, .int .i64 (doB t y).1.next]) (doB t y).1) := ⟨(turn_below HUA.out).trans HT.out.2.2, HT.out.2.1, HT.out.1.mono HUA.out.size⟩; have HZ5 : Hid (MB2 w5 wr.heap.size (.slice none 0 0) (.int .i64 0)) := turn_block HT.out.2.2 (MapKept.heap_alloc wr _).1 (by have h1 := HNB.out; omega) (by have h1 := HNB.out; omega); obtain ⟨q0, q1⟩ := MB2.c HZ5.out; have qf0 := MB2.fz HZ5.out 0; have qf1 := MB2.fz HZ5.out 1; have g0 := HKT2.out w5 _ _ _ HT.out.2.2 HNB.out.1 HNB.out.2.1 m0; have g1 := HKT2.out w5 _ _ _ HT.out.2.2 HNB.out.1 HNB.out.2.1 m1; have g2 := HKT2.out w5 _ _ _ HT.out.2.2 HB1.out.1 HB1.out.2 c0; have g3 := HKT2.out w5 _ _ _ HT.out.2.2 HB1.out.1 HB1.out.2 c1; have g4 := HKT2.out w5 _ _ _ HT.out.2.2 HB1.out.1 HB1.out.2 c2; have g5 := HKT2.out w5 _ _ _ HT.out.2.2 HB1.out.1 HB1.out.2 c3; have g6 := HKT2.out w5 _ _ _ HT.out.2.2 HB1.out.1 HB1.out.2 c4; have g7 := HKT2.out w5 _ _ _ HT.out.2.2 HB1.out.1 HB1.out.2 c5; have g8 := HKT2.out w5 _ _ _ HT.out.2.2 HB1.out.1 HB1.out.2 c6; clear HT))
        all_goals (
          go_wp2_with fail
          go_meet
          case rel =>
            first
              | exact ⟨_, ya, yn, yc, rfl, rfl, ⟨turn_only HW6.out.1 (outT_only w5 wr.heap.size (.slice ya yn yc) (.int .i64 (doB t y).1.next)) (Nat.le_refl _), HW6.out.2.1.tbox HZ5.out (by have h1 := HNB.out; omega) (by have h1 := HNB.out; omega) (by have h1 := HPw.out; omega) _ _, HW6.out.2.2.tbox HZ5.out HGT.out _ _, outT_box HZ5.out _ _, Nat.le_refl _⟩⟩
              | exact ⟨_, ya, yn, yc, rfl, rfl, ⟨HW5.out.1.trans (turn_below (bel_new _ _)), HW5.out.2.1.below (bel_new _ _), HW5.out.2.2.below (bel_new _ _), (MapKept.heap_alloc w5 _).1, HW5.out.1.size⟩⟩)
      case rest =>
        obtain ⟨xb, ya, yn, yc, rfl, rfl, HC⟩ := hcut
        have HBm : Hid (MB2 wc mb (.slice xa xn xc) (.int .i64 t.next)) := turn_block HC.out.1 HP.out.box HP.out.np HP.out.nb
        obtain ⟨e0, e1⟩ := MB2.c HBm.out
        have ef0 := MB2.fz HBm.out 0
        have ef1 := MB2.fz HBm.out 1
        have x0 : wc.cell? ⟨xb, 0, none⟩ = some (.slice ya yn yc) := cell_of HC.out.2.2.2.1 rfl
        have x1 : wc.cell? ⟨xb, 1, none⟩ = some (.int .i64 (doB t y).1.next) := cell_of HC.out.2.2.2.1 rfl
        have xl := cell_lt x0
        have el := cell_lt e0
        have HPn : Hid (PL w (outT wc mb (.slice ya yn yc) (.int .i64 (doB t y).1.next)) p b mb (doB t y).1 ya yn yc) := HP.out.next HC.out.1 HC.out.2.1 HC.out.2.2.1
        clear HC HBm HX HX2 HX2f HUA HKT HKT2 fa0 fa1 fa2 fa3 fa4 fa5 fa6 fa7 fa8 d0 d1 k0 c0 k1 c1 k2 c2 k3 c3 k4 c4 k5 c5 k6 c6 m0 m1
        unfold outT at HPn
        go_wp2
        go_round
        case rel => exact ⟨i + 1, (doB t y).1, ya, yn, yc, by omega, by go_num, HPn⟩
        case measure => simp [intOf]; omega
    · have hii : ¬ (i : Int) < (os.length : Int) := by omega
      have HA1 : Hid (∀ w6, PL w w6 p b mb t xa xn xc → Calls Tryz.prog 13 #[.pointer (some ⟨p, 0, none⟩)] w6 fun e w' => ∃ a c, e = .returned (.agg #[.slice a t.nodes.length c, .int .i64 t.next]) ∧ w'.cell? ⟨mb, 0, none⟩ = some (.slice xa xn xc) ∧ w'.cell? ⟨mb, 1, none⟩ = some (.int .i64 t.next) ∧ Hid (PL w w' p b mb t xa xn xc ∧ TreeAt w' (.agg #[.slice a t.nodes.length c, .int .i64 t.next]) t)) := fun w6 h6 => by
        refine (lallF w w6 p b t h6.own).mono ?_
        rintro e w' ⟨a, c, he, HX⟩
        have hk := h6.below HX.out.2
        exact ⟨a, c, he, cell_of hk.box rfl, cell_of hk.box rfl, ⟨hk, HX.out.1.at⟩⟩
      have HSa : Hid (∀ w6 va vb, PL w w6 p b mb t xa xn xc → TreeAt w6 va t → TreeAt w6 vb t → Calls Tryz.prog 12 #[va, vb] w6 fun e w' => e = .returned (.bool true) ∧ Below w6.heap.size w6 w') := fun w6 va vb ho h1 h2 => tsame_any va vb t w6 h1 h2 (good_kindsP ho.own.good) ho.own.good.1.size
      have HPd : Hid (PL w wr.drew p b mb t xa xn xc) := HP.out.below (Below.refl _ _).drew
      go_wp2_with fail
      go_region_with (first
        | (go_at_call 13; refine (HA1.out _ HPd.out).mono ?_; rintro e w8 ⟨a8, c8, rfl, x0, x1, HX8⟩)
        | (go_at_call 12; refine (HSa.out _ _ _ HX8.out.1 HX8.out.2 HX8.out.1.tree).mono ?_; rintro e w9 ⟨rfl, hb9⟩)
        | (go_at_call 8; refine (HAW.out _ (bel2e HX8.out.1.own.bel hb9)).mono ?_; rintro e w10 ⟨rfl, hb10⟩))
      all_goals (
        have HBB : Hid (Below w.heap.size w w10) := bel2e (bel2e HX8.out.1.own.bel hb9) hb10
        clear hb9 hb10
        go_wp2
        go_ret
        exact ⟨rfl, HBB.out⟩)
end Go.Proofs.YtbebgobboccjcaaGreatDoor
