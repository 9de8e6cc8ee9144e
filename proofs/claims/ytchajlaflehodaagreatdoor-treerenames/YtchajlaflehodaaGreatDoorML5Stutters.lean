/- dolmenlaw5.TreeStutters. -/
import Derived.Test.YtchajlaflehodaaGreatDoorG7
import Derived.Test.YtchajlaflehodaaGreatDoorMLSmall
import Derived.Test.YtchajlaflehodaaGreatDoorMLSame
import Derived.Test.YtchajlaflehodaaGreatDoorMDAll
namespace Go.Proofs.YtchajlaflehodaaGreatDoor
open Go.RowKit Kit
set_option linter.unusedVariables false

theorem own_from {w w2 w3 : World} {p b : Nat} {t : TreeB} (hb : Below w.heap.size w w2) (h : Own w2 w3 p b t) : Own w w3 p b t := ⟨h.tree, Nat.le_trans hb.size h.hp, Nat.le_trans hb.size h.hb, bel2e hb h.bel, h.good⟩
theorem ldo_go (o : OpB) (da : Option Addr) (dc : Nat) (w0 w : World) (p b : Nat) (t : TreeB) (h : Own w0 w p b t) (hf : OpFit w o da dc) :
    Calls Tryz.prog 13 #[.pointer (some ⟨p, 0, none⟩), .agg #[.int .i64 o.kind, .string o.path, .string o.to, .int .i64 o.off, .int .i64 o.n, .slice da o.data.length dc, .int .i64 o.snap]] w fun e w' => ∃ rv ev, e = .returned (.tuple #[rv, ev]) ∧ Hid (Own w0 w' p b (doB t o).1 ∧ Turn p b w w') := by
  refine (ddo_any o da dc w p b t h.tree h.good hf.2.2.1 hf.2.2.2 hf.1).mono ?_
  rintro e w' ⟨rv, ev, he, h1, h2, h3, h4⟩
  exact ⟨rv, ev, he, ⟨h.turn h3 h4 (do_good h.good o hf.2.1), h4⟩⟩
theorem lallF (w0 w : World) (p b : Nat) (t : TreeB) (h : Own w0 w p b t) : Calls Tryz.prog 14 #[.pointer (some ⟨p, 0, none⟩)] w fun e w' => ∃ a c, e = .returned (.agg #[.slice a t.nodes.length c, .int .i64 t.next]) ∧ Hid (TreeF w' w.heap.size (.agg #[.slice a t.nodes.length c, .int .i64 t.next]) t ∧ Below w.heap.size w w') := dall_any w p b t h.tree h.good
theorem good_kinds {t : TreeB} (h : Good t) : ∀ n ∈ t.nodes, n.kind = 1 ∨ n.kind = 2 := fun n hn => h.1.fair.kind hn
set_option maxRecDepth 4000 in
set_option maxHeartbeats 8000000 in
theorem stutters_any (v : Value) (os : List OpB) (o : OpB) (da : Option Addr) (dc : Nat) (w : World) (hO : OpsAt w v os) (hf : OpFit w o da dc) (hg : Tied w) :
    Calls Tryz.prog 3 #[v, .agg #[.int .i64 o.kind, .string o.path, .string o.to, .int .i64 o.off, .int .i64 o.n, .slice da o.data.length dc, .int .i64 o.snap]] w fun e w' => e = .returned (.bool true) ∧ Below w.heap.size w w' := by
  obtain ⟨W, hW⟩ : ∃ z, z = w.alloc (.cells #[.int .i64 o.kind, .string o.path, .string o.to, .int .i64 o.off, .int .i64 o.n, .slice da o.data.length dc, .int .i64 o.snap] 25) := ⟨_, rfl⟩
  have HW : Hid (Below w.heap.size w W ∧ W.heap[w.heap.size]? = some (.cells #[.int .i64 o.kind, .string o.path, .string o.to, .int .i64 o.off, .int .i64 o.n, .slice da o.data.length dc, .int .i64 o.snap] 25) ∧ W.heap.size = w.heap.size + 1) := by
    refine ⟨?_, ?_, ?_⟩
    · rw [hW]; exact bel_new _ _
    · rw [hW]; exact (MapKept.heap_alloc w _).1
    · rw [hW]; simp
  have HG : Hid (Tied W) := tied_below hg HW.out.1
  have HOs : Hid (OpsAt W v os) := hO.below HW.out.1
  have HFt : Hid (OpFit W o da dc) := hf.below HW.out.1
  have HAW : Hid (∀ w1, Below W.heap.size W w1 → Calls Tryz.prog 11 #[] w1 fun e w' => e = .returned (.bool true) ∧ Below w1.heap.size w1 w') := fun w1 h => awake5_any w1 (tied_below HG.out h)
  have HSm : Hid (Calls Tryz.prog 9 _ W _) := small_any v os W HOs.out
  have HOp : Hid (∀ w1, Below W.heap.size W w1 → Calls Tryz.prog 10 #[.agg #[.int .i64 o.kind, .string o.path, .string o.to, .int .i64 o.off, .int .i64 o.n, .slice da o.data.length dc, .int .i64 o.snap]] w1 fun e w' => ∃ m : Nat, m ≤ 1099511627776 ∧ e = .returned (.int .i64 (m : Int)) ∧ Below w1.heap.size w1 w') := fun w1 h => aop_any o da dc w1 (HFt.out.below h)
  have HBx : Hid (∀ w1, Below W.heap.size W w1 → w1.cell? ⟨w.heap.size, 0, none⟩ = some (.int .i64 o.kind) ∧ w1.cell? ⟨w.heap.size, 1, none⟩ = some (.string o.path) ∧ w1.cell? ⟨w.heap.size, 2, none⟩ = some (.string o.to) ∧ w1.cell? ⟨w.heap.size, 3, none⟩ = some (.int .i64 o.off) ∧ w1.cell? ⟨w.heap.size, 4, none⟩ = some (.int .i64 o.n) ∧ w1.cell? ⟨w.heap.size, 5, none⟩ = some (.slice da o.data.length dc) ∧ w1.cell? ⟨w.heap.size, 6, none⟩ = some (.int .i64 o.snap) ∧ w.heap.size < w1.heap.size) := fun w1 h => by
    have hk := below_block h HW.out.2.1
    exact ⟨cell_of hk rfl, cell_of hk rfl, cell_of hk rfl, cell_of hk rfl, cell_of hk rfl, cell_of hk rfl, cell_of hk rfl, (Array.getElem?_eq_some_iff.1 hk).1⟩
  obtain ⟨ao, cap, rfl, h2, h3⟩ := hO
  have H3 : Hid (0 < os.length → _) := h3
  clear h2 h3 hf hg
  go_enter Tryz.func3, Tryz.ntmps3
  go_wp2_with fail
  go_at_call 9
  rw [← hW]
  clear hW
  refine HSm.out.mono ?_
  rintro e w1 ⟨q, rfl, hq, hb1⟩
  have HB1 : Hid (Below W.heap.size W w1) := hb1
  have HQ : Hid (q = true → os.length ≤ 80) := hq
  clear hb1 hq HSm
  cases q
  · go_wp2_with fail
    go_at_call 11
    refine (HAW.out _ HB1.out).mono ?_
    rintro e w2 ⟨rfl, hb2⟩
    have HBB : Hid (Below w.heap.size w w2) := bel2e HW.out.1 (bel2e HB1.out hb2)
    clear hb2
    go_wp2
    go_ret
    exact ⟨rfl, HBB.out⟩
  have hl80 : os.length ≤ 80 := HQ.out rfl
  have hl8 : (os.length : Int) ≤ 80 := by omega
  obtain ⟨k0, k1, k2, k3, k4, k5, k6, k7⟩ := HBx.out _ HB1.out
  go_wp2_with fail
  go_at_call 10
  refine (HOp.out _ HB1.out).mono ?_
  rintro e w2 ⟨m, hm, rfl, hb2⟩
  have HB2 : Hid (Below W.heap.size W w2) := bel2e HB1.out hb2
  clear hb2 HB1 k0 k1 k2 k3 k4 k5 k6 k7
  by_cases hm3 : (3000 : Int) < (m : Int)
  · go_wp2_with fail
    go_at_call 11
    refine (HAW.out _ HB2.out).mono ?_
    rintro e w3 ⟨rfl, hb3⟩
    have HBB : Hid (Below w.heap.size w w3) := bel2e HW.out.1 (bel2e HB2.out hb3)
    clear hb3
    go_wp2
    go_ret
    exact ⟨rfl, HBB.out⟩
  have HN : Hid (Calls Tryz.prog 12 _ w2 _) := lnew w2
  go_wp2_with fail
  go_at_call 12
  refine HN.out.mono ?_
  rintro e w3 ⟨p, b, rfl, HO3⟩
  have HO : Hid (Own W w3 p b newB) := own_from HB2.out HO3.out
  clear HN HO3 HB2 HOp
  go_wp2_with fail
  go_loopw [6] (fun s6 wr => ∃ (i : Nat) (t : TreeB), i ≤ os.length ∧ s6 = .int .i64 (i : Int) ∧ Hid (Own W wr p b t)) (fun s6 _ => os.length - (intOf s6).toNat)
  case atStart => exact ⟨0, newB, Nat.zero_le _, rfl, HO⟩
  case round =>
    obtain ⟨i, t, hi, rfl, HOi⟩ := hrel
    clear HO
    by_cases hin : i < os.length
    · have hii : (i : Int) < (os.length : Int) := by omega
      obtain ⟨b1, o1, rfl, hl1, hc1⟩ := H3.out (by omega)
      obtain ⟨da1, dc1, ha1, hf1⟩ := hc1 i hin
      have hwr : Below w.heap.size w wr := bel2e HW.out.1 HOi.out.bel
      obtain ⟨c0, c1, c2, c3, c4, c5, c6⟩ := ha1.below hl1 hwr
      have HX : Hid (Calls Tryz.prog 13 _ wr _) := ldo_go os[i] da1 dc1 W wr p b t HOi.out (hf1.below hwr)
      obtain ⟨y, hy⟩ : ∃ y, y = os[i] := ⟨_, rfl⟩
      rw [← hy] at c0 c1 c2 c3 c4 c5 c6 HX
      have l1 : b1 < wr.heap.size := by have := hwr.size; omega
      clear hc1 ha1 hf1 hy hwr
      go_wp2_with fail
      go_at_call 13
      refine HX.out.mono ?_
      rintro e w4 ⟨rv, ev, rfl, HT⟩
      have HO4 : Hid (Own W w4 p b (doB t y).1) := HT.out.1
      clear HT HX HOi
      go_wp2
      go_round
      case rel => exact ⟨i + 1, _, by omega, by go_num, HO4⟩
      case measure => simp [intOf]; omega
    · have hii : ¬ (i : Int) < (os.length : Int) := by omega
      have HA1 : Hid (Calls Tryz.prog 14 _ wr _) := lallF W wr p b t HOi.out
      go_wp2_with fail
      go_at_call 14
      refine HA1.out.mono ?_
      rintro e w4 ⟨a4, c4, rfl, HT4⟩
      have HO4 : Hid (Own W w4 p b t) := HOi.out.below HT4.out.2
      have HT : Hid (TreeF w4 wr.heap.size (.agg #[.slice a4 t.nodes.length c4, .int .i64 t.next]) t ∧ p < wr.heap.size ∧ b < wr.heap.size) := ⟨HT4.out.1, HOi.out.lt⟩
      have HPB : Hid (w4.heap.size ≠ p ∧ w4.heap.size ≠ b) := by have := HO4.out.lt; exact ⟨by omega, by omega⟩
      clear HA1 HT4 HOi
      obtain ⟨W5, hW5⟩ : ∃ z, z = w4.alloc (.cells #[.slice a4 t.nodes.length c4, .int .i64 t.next] 41) := ⟨_, rfl⟩
      have H5 : Hid (Own W W5 p b t ∧ Below w4.heap.size w4 W5 ∧ W5.heap[w4.heap.size]? = some (.cells #[.slice a4 t.nodes.length c4, .int .i64 t.next] 41)) := by
        rw [hW5]; exact ⟨HO4.out.below (bel_new _ _), bel_new _ _, (MapKept.heap_alloc w4 _).1⟩
      have k := HBx.out w4 HO4.out.bel
      obtain ⟨k0, k1, k2, k3, k4, k5, k6, k7⟩ := k
      have HFin : Hid (∀ w6, Own W w6 p b t → TreeF w6 wr.heap.size (.agg #[.slice a4 t.nodes.length c4, .int .i64 t.next]) t → w6.heap[w4.heap.size]? = some (.cells #[.slice a4 t.nodes.length c4, .int .i64 t.next] 41) → Calls Tryz.prog 14 #[.pointer (some ⟨p, 0, none⟩)] w6 fun e w' => ∃ a c, e = .returned (.agg #[.slice a t.nodes.length c, .int .i64 t.next]) ∧ w'.cell? ⟨w4.heap.size, 0, none⟩ = some (.slice a4 t.nodes.length c4) ∧ w'.cell? ⟨w4.heap.size, 1, none⟩ = some (.int .i64 t.next) ∧ Hid (Own W w' p b t ∧ TreeAt w' (.agg #[.slice a t.nodes.length c, .int .i64 t.next]) t ∧ TreeAt w' (.agg #[.slice a4 t.nodes.length c4, .int .i64 t.next]) t)) := fun w6 ho hT hbx => by
        refine (lallF W w6 p b t ho).mono ?_
        rintro e w' ⟨a, c, he, HX⟩
        have hk := below_block HX.out.2 hbx
        exact ⟨a, c, he, cell_of hk rfl, cell_of hk rfl, ⟨ho.below HX.out.2, HX.out.1.at, (hT.below HX.out.2).at⟩⟩
      have HSa : Hid (∀ w6 va vb, Own W w6 p b t → TreeAt w6 va t → TreeAt w6 vb t → Calls Tryz.prog 16 #[va, vb] w6 fun e w' => e = .returned (.bool true) ∧ Below w6.heap.size w6 w') := fun w6 va vb ho h1 h2 => tsame_any va vb t w6 h1 h2 (good_kinds ho.good) ho.good.1.size
      have HRd : Hid (∀ w6, Calls Tryz.prog 15 #[.int .i64 o.kind] w6 fun e w' => e = .returned (.bool (readsB o.kind)) ∧ w' = w6) := fun w6 => treads_any o.kind w6
      have HFt5 : Hid (OpFit W5 o da dc) := HFt.out.below H5.out.1.bel
      have hsz2 := HFt.out.2.2
      go_wp2_with fail
      go_at_call 13
      rw [← hW5]
      clear hW5
      by_cases hc : (doB t o).2.2 = 0
      · have HX : Hid (Calls Tryz.prog 13 _ W5 _) := ldo_ok o da dc W W5 p b t (doB t o).1 (doB t o).2.1 H5.out.1 hsz2.1 hsz2.2 HFt.out.2.1 HFt5.out.1 (Prod.ext rfl (Prod.ext rfl hc))
        obtain ⟨r, hr⟩ : ∃ r, r = (doB t o).2.1 := ⟨_, rfl⟩
        rw [← hr] at HX
        clear hr
        refine HX.out.mono ?_
        rintro e w6 ⟨ra, rc, na, nc, sa, sc, rfl, HT6x⟩
        clear HX
        by_cases hrd : readsB o.kind = true
        · have hEQ := do_reads t o hrd
          have hr1 : readsB o.kind = true := hrd
          have HO6 : Hid (Own W w6 p b t) := by
            have h := HT6x.out.2.2.1
            rw [hEQ] at h
            exact h
          have HT6 : Hid (TreeF w6 wr.heap.size (.agg #[.slice a4 t.nodes.length c4, .int .i64 t.next]) t) := (HT.out.1.below H5.out.2.1).turn HT6x.out.2.2.2 HT.out.2.1 HT.out.2.2
          have H6 : Hid (w6.heap[w4.heap.size]? = some (.cells #[.slice a4 t.nodes.length c4, .int .i64 t.next] 41)) := turn_block HT6x.out.2.2.2 H5.out.2.2 HPB.out.1 HPB.out.2
          have z0 := cell_of (j := 0) H6.out rfl
          have z1 := cell_of (j := 1) H6.out rfl
          have zl := cell_lt z0
          have kk0 := (HBx.out w6 HO6.out.bel).1
          have kk7 := (HBx.out w6 HO6.out.bel).2.2.2.2.2.2.2
          have HO7 : Hid (Own W (w6.alloc (.cells #[.int .i64 r.ino, .int .i64 r.kind, .int .i64 r.size, .int .i64 r.links, .int .i64 r.n, .slice ra r.data.length rc, .slice na r.names.length nc, .slice sa r.snaps.length sc] 34)).drew p b t) := (HO6.out.below (bel_new _ _)).below (Below.refl _ _).drew
          have HT7 : Hid (TreeF (w6.alloc (.cells #[.int .i64 r.ino, .int .i64 r.kind, .int .i64 r.size, .int .i64 r.links, .int .i64 r.n, .slice ra r.data.length rc, .slice na r.names.length nc, .slice sa r.snaps.length sc] 34)).drew wr.heap.size (.agg #[.slice a4 t.nodes.length c4, .int .i64 t.next]) t) := (HT6.out.below (bel_new _ _)).below (Below.refl _ _).drew
          have H7 : Hid ((w6.alloc (.cells #[.int .i64 r.ino, .int .i64 r.kind, .int .i64 r.size, .int .i64 r.links, .int .i64 r.n, .slice ra r.data.length rc, .slice na r.names.length nc, .slice sa r.snaps.length sc] 34)).drew.heap[w4.heap.size]? = some (.cells #[.slice a4 t.nodes.length c4, .int .i64 t.next] 41)) := below_block (bel_new w6 _).drew H6.out
          clear HT6x hEQ
          go_wp2_with fail
          go_at_call 15
          refine (HRd.out _).mono ?_
          rintro e w7 ⟨rfl, rfl⟩
          rw [hr1]
          go_wp2_with fail
          go_region_with (first
            | (go_at_call 14; refine (HFin.out _ HO7.out HT7.out H7.out).mono ?_; rintro e w8 ⟨a8, c8, rfl, x0, x1, HX8⟩)
            | (go_at_call 16; refine (HSa.out _ _ _ HX8.out.1 HX8.out.2.1 HX8.out.2.2).mono ?_; rintro e w9 ⟨rfl, hb9⟩)
            | (go_at_call 11; refine (HAW.out _ (bel2e HX8.out.1.bel hb9)).mono ?_; rintro e w10 ⟨rfl, hb10⟩))
          all_goals (
            have HBB : Hid (Below w.heap.size w w10) := bel2e HW.out.1 (bel2e (bel2e HX8.out.1.bel hb9) hb10)
            clear hb9 hb10
            go_wp2
            go_ret
            exact ⟨rfl, HBB.out⟩)
        · have hr1 : readsB o.kind = false := by simpa using hrd
          have HO6 : Hid (Own W w6 p b (doB t o).1) := HT6x.out.2.2.1
          have kk0 := (HBx.out w6 HO6.out.bel).1
          have kk7 := (HBx.out w6 HO6.out.bel).2.2.2.2.2.2.2
          clear HT6x
          go_wp2_with fail
          go_at_call 15
          refine (HRd.out _).mono ?_
          rintro e w7 ⟨rfl, rfl⟩
          rw [hr1]
          go_wp2_with fail
          go_at_call 11
          refine (HAW.out _ (HO6.out.below (bel_new _ _)).bel).mono ?_
          rintro e w8 ⟨rfl, hb8⟩
          have HBB : Hid (Below w.heap.size w w8) := bel2e HW.out.1 (bel2e (HO6.out.below (bel_new _ _)).bel hb8)
          clear hb8
          go_wp2
          go_ret
          exact ⟨rfl, HBB.out⟩
      · have HX : Hid (Calls Tryz.prog 13 _ W5 _) := ldo_err o da dc W W5 p b t (doB t o).1 (doB t o).2.1 (doB t o).2.2 H5.out.1 hsz2.1 hsz2.2 HFt.out.2.1 HFt5.out.1 rfl hc
        have hEQ := (do_refused t o hc).1
        obtain ⟨r, hr⟩ : ∃ r, r = (doB t o).2.1 := ⟨_, rfl⟩
        rw [← hr] at HX
        clear hr
        refine HX.out.mono ?_
        rintro e w6 ⟨ra, rc, na, nc, sa, sc, g, rfl, HT6x⟩
        clear HX
        have HO6 : Hid (Own W w6 p b t) := by
          have h := HT6x.out.2.1
          rw [hEQ] at h
          exact h
        have HT6 : Hid (TreeF w6 wr.heap.size (.agg #[.slice a4 t.nodes.length c4, .int .i64 t.next]) t) := (HT.out.1.below H5.out.2.1).turn HT6x.out.2.2 HT.out.2.1 HT.out.2.2
        have H6 : Hid (w6.heap[w4.heap.size]? = some (.cells #[.slice a4 t.nodes.length c4, .int .i64 t.next] 41)) := turn_block HT6x.out.2.2 H5.out.2.2 HPB.out.1 HPB.out.2
        have z0 := cell_of (j := 0) H6.out rfl
        have z1 := cell_of (j := 1) H6.out rfl
        have zl := cell_lt z0
        have kk0 := (HBx.out w6 HO6.out.bel).1
        have kk7 := (HBx.out w6 HO6.out.bel).2.2.2.2.2.2.2
        have HO7 : Hid (Own W (w6.alloc (.cells #[.int .i64 r.ino, .int .i64 r.kind, .int .i64 r.size, .int .i64 r.links, .int .i64 r.n, .slice ra r.data.length rc, .slice na r.names.length nc, .slice sa r.snaps.length sc] 34)).drew p b t) := (HO6.out.below (bel_new _ _)).below (Below.refl _ _).drew
        have HT7 : Hid (TreeF (w6.alloc (.cells #[.int .i64 r.ino, .int .i64 r.kind, .int .i64 r.size, .int .i64 r.links, .int .i64 r.n, .slice ra r.data.length rc, .slice na r.names.length nc, .slice sa r.snaps.length sc] 34)).drew wr.heap.size (.agg #[.slice a4 t.nodes.length c4, .int .i64 t.next]) t) := (HT6.out.below (bel_new _ _)).below (Below.refl _ _).drew
        have H7 : Hid ((w6.alloc (.cells #[.int .i64 r.ino, .int .i64 r.kind, .int .i64 r.size, .int .i64 r.links, .int .i64 r.n, .slice ra r.data.length rc, .slice na r.names.length nc, .slice sa r.snaps.length sc] 34)).drew.heap[w4.heap.size]? = some (.cells #[.slice a4 t.nodes.length c4, .int .i64 t.next] 41)) := below_block (bel_new w6 _).drew H6.out
        clear HT6x hEQ
        go_wp2_with fail
        go_region_with (first
          | (go_at_call 14; refine (HFin.out _ HO7.out HT7.out H7.out).mono ?_; rintro e w8 ⟨a8, c8, rfl, x0, x1, HX8⟩)
          | (go_at_call 16; refine (HSa.out _ _ _ HX8.out.1 HX8.out.2.1 HX8.out.2.2).mono ?_; rintro e w9 ⟨rfl, hb9⟩)
          | (go_at_call 11; refine (HAW.out _ (bel2e HX8.out.1.bel hb9)).mono ?_; rintro e w10 ⟨rfl, hb10⟩))
        all_goals (
          have HBB : Hid (Below w.heap.size w w10) := bel2e HW.out.1 (bel2e (bel2e HX8.out.1.bel hb9) hb10)
          clear hb9 hb10
          go_wp2
          go_ret
          exact ⟨rfl, HBB.out⟩)
end Go.Proofs.YtchajlaflehodaaGreatDoor
