/- Several texts in one: DAllZ DDoZ DDoZL DDoZA DDoZ1 LOwn L5Awake TDoes0 TMakesE TTreeN2 TTurnZ TXI TXI2 TRen0 TXI3. -/
import Derived.Test.YtbebgobboccjcaaGreatDoorPDAll
import Derived.Test.YtbebgobboccjcaaGreatDoorH3
import Derived.Test.YtbebgobboccjcaaGreatDoorPDDo3
import Derived.Deep.RegionWith
import Derived.Test.YtbebgobboccjcaaGreatDoorPDDo2
import Derived.Test.YtbebgobboccjcaaGreatDoorH2
import Derived.Test.YtbebgobboccjcaaGreatDoorPMLimits5
import Derived.Test.YtbebgobboccjcaaGreatDoorH4
import Derived.Test.YtbebgobboccjcaaGreatDoorPTWith
import Derived.Test.YtbebgobboccjcaaGreatDoorH1
import Derived.Test.YtbebgobboccjcaaGreatDoorPTWithout
namespace Go.Proofs.YtbebgobboccjcaaGreatDoor
open Go.RowKit Kit
set_option linter.unusedVariables false

def AllAtB (w wm w1 wr : World) (k : Nat) (X nx : Value) (fs : List FN) : Prop := TBoxN wr (wm.heap.size) X nx ∧ TBoxN wr w.heap.size (.slice none 0 0) (.int .i64 0) ∧ wr.ownsRow w1.heap.size 60 5 X k (flat fs) ∧ Below wm.heap.size wm wr ∧ w1.heap.size ≤ wr.heap.size ∧ (∀ j, wm.heap.size + 1 ≤ j → j < w1.heap.size → wr.heap[j]? = w1.heap[j]?) ∧ ∀ f ∈ fs, FRow wr w1.heap.size f
theorem all_appB {w wm w1 wr w2 w4 : World} {k n' : Nat} {X nx X' : Value} {fs : List FN} {f : FN} {xs : List Value} {o : Obj} (hwB : w.heap.size < wm.heap.size) (hx : wm.heap.size < w1.heap.size) (hA : AllAtB w wm w1 wr k X nx fs) (hb : Below wr.heap.size wr w2) (hf : FRow w2 w1.heap.size f) (hO : (w2.alloc o).ownsRow w1.heap.size 60 5 X k (flat fs) ∧ w1.heap.size ≤ (w2.alloc o).heap.size) (hr : w4.ownsRow w1.heap.size 60 5 X' n' xs) (hxs : xs = flat (fs ++ [f])) (hg : (w2.alloc o).grownBy w4 X.ownBlock) :
 w4.cell? ⟨wm.heap.size, 0, none⟩ = some X ∧ (∀ j, w4.frozen? ⟨wm.heap.size, j, none⟩ = false) ∧ wm.heap.size < w4.heap.size ∧ Hid (AllAtB w wm w1 (w4.setCell ⟨wm.heap.size, 0, none⟩ X') n' X' nx (fs ++ [f])) ∧ Hid (Below wm.heap.size wm w4) := by
 have hb4 : Below w1.heap.size (w2.alloc o) w4 := (Below.refl _ _).grown hg hO.2 (fun j hj => (hO.1.lt j hj).1)
 have hr1 : w1.heap.size ≤ wr.heap.size := hA.2.2.2.2.1
 have hb5 : Below w1.heap.size wr w4 := ((hb.mono hr1).trans ((bel_newP w2 o).mono (Nat.le_trans hr1 hb.size))).trans hb4
 have t3 : TBoxN w4 (wm.heap.size) X nx := hA.1.below hb5 hx
 have t2 := hA.2.1.below hb5 (by omega : w.heap.size < w1.heap.size)
 have hwb : Below wm.heap.size wm w4 := hA.2.2.2.1.trans (hb5.mono (by omega))
 refine ⟨t3.c.1, t3.c.2.2.1, t3.c.2.2.2, ⟨?_, ?_, ?_, ?_, ?_, ?_, ?_⟩, hwb⟩
 · unfold TBoxN at *
   exact pset t3 X'
 · exact (Below.heap_setCell _ _ _ w.heap.size (by show w.heap.size ≠ wm.heap.size; omega)).trans t2
 · rw [← hxs]; exact ownsRow_setCell_below hr (by exact hx) _
 · exact hwb.setCell (Nat.le_refl _) _
 · have := hb5.size
   simp [World.setCell]
   omega
 · intro j h1 h2
   rw [Below.heap_setCell _ _ _ j (by show j ≠ wm.heap.size; omega), hb5.block j h2, hA.2.2.2.2.2.1 j h1 h2]
 · intro g hgm
   have h4 : FRow w4 w1.heap.size g := by
    rcases List.mem_append.1 hgm with hm | hm
    · exact (((hA.2.2.2.2.2.2 g hm).below hb).below (bel_newP _ _)).kept hO.1 hg
    · rw [List.mem_singleton] at hm
      subst hm
      exact (hf.below (bel_newP _ _)).kept hO.1 hg
   exact h4.only (only_set _ _ 0 _) t3
set_option maxRecDepth 4000 in
set_option maxHeartbeats 8000000 in
theorem dall_nil (w : World) :
 Calls Tryz.prog 13 #[.pointer none] w fun e w' => ∃ a c, e = .returned (.agg #[.slice a newB.nodes.length c, .int .i64 newB.next]) ∧ Hid (TreeF w' w.heap.size (.agg #[.slice a newB.nodes.length c, .int .i64 newB.next]) newB ∧ Below w.heap.size w w') := by
 obtain ⟨t, ht0⟩ : ∃ z, z = newB := ⟨_, rfl⟩
 rw [← ht0]
 have HM : Hid (Calls Tryz.prog 32 #[.pointer none] (w.alloc (.cells #[.slice none 0 0, .int .i64 0] 29)) fun e w' => ∃ p b, e = .returned (.pointer (some ⟨p, 0, none⟩)) ∧ DTree w' p b t ∧ w.heap.size + 1 ≤ p ∧ w.heap.size + 1 ≤ b ∧ Below w.heap.size w w' ∧ TBoxN w' w.heap.size (.slice none 0 0) (.int .i64 0)) := by
  have h1 := (MapKept.heap_alloc w (.cells #[.slice none 0 0, .int .i64 0] 29)).1
  have hs : (w.alloc (.cells #[.slice none 0 0, .int .i64 0] 29)).heap.size = w.heap.size + 1 := by simp
  refine (dmade_nil _).mono ?_
  rintro e w' ⟨p, b, he, h2, h3, h4, h5⟩
  rw [ht0]
  rw [hs] at h3 h4
  exact ⟨p, b, he, h2, h3, h4, bel2v (bel_newP _ _) h5, (h5.block _ (by rw [hs]; omega)).trans h1⟩
 have hG : Good t := by rw [ht0]; exact newB_good
 clear ht0
 have ht := hG.1.fair
 have h60 : t.nodes.length ≤ 60 := hG.1.size
 go_enter Tryz.func13, Tryz.ntmps13
 go_wp2_with fail
 go_at_call 32
 refine HM.out.mono ?_
 rintro e wm ⟨p, b, rfl, hT, hp1, hb1', hbm, hbox⟩
 have hpb := hT.cells.2.2.2
 obtain ⟨ds, hd, hn⟩ := id hT
 have hdl : ds.length = t.nodes.length := by rw [← hn, List.length_map]
 have HwB : Hid (w.heap.size < wm.heap.size) := (Array.getElem?_eq_some_iff.1 hbox).1
 have HbM : Hid (Below w.heap.size w wm) := hbm
 obtain ⟨W, hW⟩ : ∃ z, z = wm.alloc (.cells #[.slice none 0 0, .int .i64 t.next] 29) := ⟨_, rfl⟩
 have HW : Hid (Below wm.heap.size wm W ∧ W.heap.size = wm.heap.size + 1 ∧ TBoxN W w.heap.size (.slice none 0 0) (.int .i64 0) ∧ TBoxN W wm.heap.size (.slice none 0 0) (.int .i64 t.next)) := by
  rw [hW]
  exact ⟨bel_newP _ _, by simp, ((bel_newP wm _).block _ (Array.getElem?_eq_some_iff.1 hbox).1).trans hbox, (MapKept.heap_alloc wm _).1⟩
 have hdm : DAt W p b ds t.next := by rw [hW]; exact hd.below (bel_newP _ _)
 have hpB := hpb
 have HKy : Hid (∀ U, Calls Tryz.prog 34 #[.map (some b)] U fun e w' => e = .returned (.func (.func 58) #[] #[.pointer (some ⟨U.heap.size, 0, none⟩)]) ∧ w' = U.alloc (.cells #[.map (some b)] 50)) := fun U => keysI_any (some b) U
 have HSo : Hid (Calls Tryz.prog 33 _ (W.alloc (.cells #[.map (some b)] 50)) _) := sortedI_any W b (ds.map DN.ent) hdm.2.1 (by rw [List.length_map]; omega)
 have HLK : Hid (∀ k, k < t.nodes.length → ∃ da dc sa sc, dnOf (nodeAt t k) da dc sa sc ∈ ds ∧ (∀ w', MapIs Tryz.prog 3 w' b (ds.map DN.ent) → (Instr.lookup 50 (.map (some b)) (.int .i64 (nodeAt t k).ino) false).run Tryz.prog w' = .ok (.agg #[.int .i64 (nodeAt t k).kind, .slice da (nodeAt t k).data.length dc, .slice sa (nodeAt t k).names.length sc]) w')) := fun k hk => hd.look hn ht hk
 have kp := hd.cells
 clear HM hT hp1 hb1' hbm hbox hpb
 go_wp2_with fail
 go_at_call 34
 rw [← hW]
 clear hW
 refine (HKy.out _).mono ?_
 rintro e w' ⟨rfl, rfl⟩
 go_wp2_with fail
 go_at_call 33
 refine HSo.out.mono ?_
 rintro e w1 ⟨kv, rfl, hrow, hb1⟩
 obtain ⟨ak, ck, hkv, _⟩ := id hrow.sees
 rw [List.length_map, List.length_map, hdl] at hkv
 subst hkv
 have HB1 : Hid (Below W.heap.size W w1 ∧ Below wm.heap.size wm w1 ∧ W.heap.size ≤ w1.heap.size) := ⟨hb1, bel2v HW.out.1 hb1, hb1.size⟩
 have HKR : Hid (RowV w1 W.heap.size 3 (.slice ak t.nodes.length ck) ((ds.map DN.ent).map fun x => .int .i64 x.1)) := hrow
 have HDN : Hid (ds.map DN.n = t.nodes ∧ ds.length = t.nodes.length ∧ DAt wm p b ds t.next ∧ Good t ∧ p < wm.heap.size ∧ b < wm.heap.size) := ⟨hn, hdl, hd, hG, hpB.1, hpB.2⟩
 have nl : (t.nodes.length : Int) ≤ 60 := by omega
 clear hrow hb1 HKy HSo hdm hd hn hdl hG hpB ht kp
 go_wp2_with fail
 go_loopw [20] (fun s20 wr => ∃ (k : Nat) (X : Value) (fs : List FN), k ≤ t.nodes.length ∧ s20 = .int .i64 (k : Int) ∧ Hid (AllAtB w wm w1 wr k X (.int .i64 t.next) fs ∧ fs.map FN.n = t.nodes.take k)) (fun s20 _ => t.nodes.length - (intOf s20).toNat)
 case atStart =>
  refine ⟨0, .slice none 0 0, [], Nat.zero_le _, rfl, ?_⟩
  have hs := HW.out.2.1
  exact ⟨⟨HW.out.2.2.2.below HB1.out.1 (by omega), HW.out.2.2.1.below HB1.out.1 (by have := HwB.out; omega), World.ownsRow_nil _ _ _ _, HB1.out.2.1, Nat.le_refl _, fun _ _ _ => rfl, fun f hf => by cases hf⟩, rfl⟩
 case round =>
  obtain ⟨k, X, fs, hk, rfl, HAF⟩ := hrel
  have HA : Hid (AllAtB w wm w1 wr k X (.int .i64 t.next) fs) := HAF.out.1
  have HFN : Hid (fs.map FN.n = t.nodes.take k) := HAF.out.2
  clear HAF
  by_cases hlt : k < t.nodes.length
  · have kl : (k : Int) < (t.nodes.length : Int) := by omega
    obtain ⟨da, dc, sa, sc, hmem, hlook⟩ := HLK.out k hlt
    have ckk : wr.cell? ⟨(ak.getD ⟨0, 0, none⟩).block, (ak.getD ⟨0, 0, none⟩).off + k, none⟩ = some (.int .i64 (nodeAt t k).ino) ∧ ak = some ⟨(ak.getD ⟨0, 0, none⟩).block, (ak.getD ⟨0, 0, none⟩).off, none⟩ := by
     obtain ⟨ao, cap, e, _, _, _, h5⟩ := HKR.out.sees
     have hlen : ((ds.map DN.ent).map fun x => Value.int .i64 x.1).length = t.nodes.length := by rw [List.length_map, List.length_map, HDN.out.2.1]
     rw [hlen] at h5 e
     obtain ⟨g, off, e1, hl, hh⟩ := h5 (by omega)
     injection e with e2 e3 e4
     rw [e1] at e2
     subst e2
     have hbk := HKR.out.block g rfl
     have hwr : wr.heap[g]? = w1.heap[g]? := HA.out.2.2.2.2.2.1 g (by have := HW.out.2.1; omega) hl
     have hkd : k < ds.length := by rw [HDN.out.2.1]; exact hlt
     have hnk : ds[k].n = nodeAt t k := by
      rw [nodeAt_eq t k hlt]
      have : (ds.map DN.n)[k]'(by rw [List.length_map]; exact hkd) = t.nodes[k] := by simp only [HDN.out.1]
      rw [← this, List.getElem_map]
     have hx := hh k (.int .i64 (nodeAt t k).ino) (by
      rw [List.getElem?_map, List.getElem?_map, List.getElem?_eq_getElem hkd]
      simp [DN.ent, hnk])
     refine ⟨?_, rfl⟩
     show wr.cell? ⟨g, off + k, none⟩ = _
     rw [← hx]
     simp only [World.cell?, hwr]
    obtain ⟨ck0, hak⟩ := ckk
    obtain ⟨gk, hgk⟩ : ∃ g, g = (ak.getD ⟨0, 0, none⟩).block := ⟨_, rfl⟩
    obtain ⟨ok, hok⟩ : ∃ g, g = (ak.getD ⟨0, 0, none⟩).off := ⟨_, rfl⟩
    rw [← hgk, ← hok] at ck0 hak
    clear hgk hok
    subst hak
    obtain ⟨ax, cx, hX⟩ := row_formN HA.out.2.2.1
    subst hX
    have HSA : Hid (∀ w', Below wm.heap.size wm w' → (w'.cell? ⟨p, 0, none⟩ = some (.map (some b)) ∧ (Instr.lookup 50 (.map (some b)) (.int .i64 (nodeAt t k).ino) false).run Tryz.prog w' = .ok (.agg #[.int .i64 (nodeAt t k).kind, .slice da (nodeAt t k).data.length dc, .slice sa (nodeAt t k).names.length sc]) w' ∧ Hid (Below wm.heap.size wm w'))) := fun w' hb => by
     have hd' := HDN.out.2.2.1.below hb
     exact ⟨hd'.cells.1, hlook w' hd'.2.1, hb⟩
    have HPl : Hid (Calls Tryz.prog 35 #[.agg #[.int .i64 (nodeAt t k).kind, .slice da (nodeAt t k).data.length dc, .slice sa (nodeAt t k).names.length sc], .int .i64 (nodeAt t k).ino] wr.drew fun e w' => ∃ a1 m1 c1 a2 m2 c2 a3 m3 c3, e = .returned (.agg #[.int .i64 (nodeAt t k).ino, .int .i64 (nodeAt t k).kind, .slice a1 m1 c1, .slice a2 m2 c2, .slice a3 m3 c3]) ∧ w'.cell? ⟨wm.heap.size, 0, none⟩ = some (.slice ax k cx) ∧ (∀ j, w'.frozen? ⟨wm.heap.size, j, none⟩ = false) ∧ wm.heap.size < w'.heap.size ∧ Hid (Below wr.heap.size wr w' ∧ Below wm.heap.size wm w') ∧ Hid (FRow w' w1.heap.size ⟨nodeAt t k, .slice a1 m1 c1, .slice a2 m2 c2, .slice a3 m3 c3⟩)) := by
     have hbd : Below wm.heap.size wm wr.drew := HA.out.2.2.2.1.drew
     have hf := (HDN.out.2.2.1.2.2 _ hmem).below hbd
     have hok : NodeOK (nodeAt t k) := HDN.out.2.2.2.1.1.each _ (nodeAt_mem hlt)
     refine (dplain_any (nodeAt t k) da sa dc sc wr.drew hf.1 hf.2 hok (data_len5 hok) (names_len5 HDN.out.2.2.2.1 hlt)).mono ?_
     rintro e w' ⟨vd, vn, vi, he, HX⟩
     obtain ⟨a1, c1, e1, _⟩ := id HX.out.1.sees
     obtain ⟨a2, c2, e2, _⟩ := id HX.out.2.1.sees
     obtain ⟨a3, c3, e3, _⟩ := id HX.out.2.2.1.sees
     subst e1 e2 e3
     have hb3 : Below wr.heap.size wr w' := bel2v ((Below.refl _ _).drew) HX.out.2.2.2
     have t3 : TBoxN w' (wm.heap.size) (.slice ax k cx) (.int .i64 t.next) := HA.out.1.below hb3 HA.out.1.c.2.2.2
     exact ⟨a1, _, c1, a2, _, c2, a3, _, c3, he, t3.c.1, t3.c.2.2.1, t3.c.2.2.2, ⟨hb3, bel2v HA.out.2.2.2.1 hb3⟩, FRow.mono (base := wr.drew.heap.size) ⟨HX.out.1, HX.out.2.1, HX.out.2.2.1⟩ HA.out.2.2.2.2.1⟩
    have cx0 := HA.out.1.c.1
    have cxf := HA.out.1.c.2.2.1
    have cxl := HA.out.1.c.2.2.2
    have HB0 : Hid (Below wm.heap.size wm wr) := HA.out.2.2.2.1
    clear hlook hmem
    have HOW : Hid (∀ w2 o, Below wr.heap.size wr w2 → (w2.alloc o).ownsRow w1.heap.size 60 5 (.slice ax k cx) k (flat fs) ∧ w1.heap.size ≤ (w2.alloc o).heap.size) := fun w2 o hb => ⟨row_belowN (row_belowN HA.out.2.2.1 hb) (bel_newP _ _), by have := hb.size; have := HA.out.2.2.2.2.1; simp; omega⟩
    have HTK : Hid (∀ f : FN, f.n = nodeAt t k → (fs ++ [f]).map FN.n = t.nodes.take (k + 1)) := fun f hf => by rw [List.map_append, HFN.out, List.take_succ_eq_append_getElem hlt, List.map_singleton, hf, nodeAt_eq t k hlt]
    have HXB : Hid (wm.heap.size < w1.heap.size ∧ k ≤ 60) := ⟨by have := HW.out.2.1; have := HB1.out.2.2; omega, by omega⟩
    have hlk0 := (HSA.out _ HB0.out.drew).2.1
    have cp0 := (HSA.out _ HB0.out).1
    go_wp2_with fail
    go_region_law (first
     | (rw [if_pos (by simp [Region.wanted])]; go_wp2_with fail; go_at_call 35; refine HPl.out.mono ?_; rintro e w2 ⟨a1, m1, c1, a2, m2, c2, a3, m3, c3, rfl, d0, df, dl, HB2, HFR⟩)
     | (refine step_appS Tryz.underlying27 infoNd rfl (by decide) (by rfl) _ _ (by rfl) w1.heap.size (.slice ax k cx) k (flat fs) (by rfl) (HOW.out w2 _ HB2.out.1).1 ⟨w2.heap.size, 0, none⟩ 1 1 [.int .i64 (nodeAt t k).ino, .int .i64 (nodeAt t k).kind, .slice a1 m1 c1, .slice a2 m2 c2, .slice a3 m3 c3] (by rfl) (by rfl) (lit5 w2 _ _ _ _ _) (one5 _ _ _ _ _ _ _ _ _ _ _) (by have := HXB.out.2; unfold maxLen; omega) (by have := HXB.out.2; omega) (HOW.out w2 _ HB2.out.1).2 ?_; intro v4 w4 hr4 hg4
        obtain ⟨ax', cx', rfl⟩ := row_formN hr4
        obtain ⟨e0, ef, el, HE, HB4⟩ := all_appB HwB.out HXB.out.1 HA.out HB2.out.1 HFR.out (HOW.out w2 _ HB2.out.1) hr4 (flat_one fs ⟨nodeAt t k, .slice a1 m1 c1, .slice a2 m2 c2, .slice a3 m3 c3⟩).symm hg4
        clear hr4 hg4))
    all_goals (
     go_wp2
     go_roundw
     case rel => exact ⟨k + 1, _, _, by omega, by simp, ⟨HE.out, HTK.out _ rfl⟩⟩
     case measure => simp [intOf]; omega)
  · have kl : ¬ (k : Int) < (t.nodes.length : Int) := by omega
    have ek : k = t.nodes.length := by omega
    subst ek
    obtain ⟨ax, cx, hX⟩ := row_formN HA.out.2.2.1
    subst hX
    obtain ⟨x0, x1, xf, xl⟩ := HA.out.1.c
    obtain ⟨y0, y1, yf, yl⟩ := HA.out.2.1.c
    go_wp2
    have HEN : Hid (TreeF ((wr.setCell ⟨w.heap.size, 0, none⟩ (.slice ax t.nodes.length cx)).setCell ⟨w.heap.size, 1, none⟩ (.int .i64 t.next)) w.heap.size (.agg #[.slice ax t.nodes.length cx, .int .i64 t.next]) t ∧ Below w.heap.size w ((wr.setCell ⟨w.heap.size, 0, none⟩ (.slice ax t.nodes.length cx)).setCell ⟨w.heap.size, 1, none⟩ (.int .i64 t.next))) := by
     have hlt1 : w.heap.size < w1.heap.size := by have := HW.out.2.1; have := HB1.out.2.2; have := HwB.out; omega
     have hbw : Below w.heap.size w wr := bel2v HbM.out HA.out.2.2.2.1
     have hfl : fs.length = t.nodes.length := by
      have := congrArg List.length HFN.out
      simpa using this
     have ho : Only w.heap.size wr ((wr.setCell ⟨w.heap.size, 0, none⟩ (.slice ax t.nodes.length cx)).setCell ⟨w.heap.size, 1, none⟩ (.int .i64 t.next)) := (only_set _ _ 0 _).trans (only_set _ _ 1 _)
     have hrow := ownsRow_setCell_below (ownsRow_setCell_below HA.out.2.2.1 (a := ⟨w.heap.size, 0, none⟩) (by exact hlt1) (.slice ax t.nodes.length cx)) (a := ⟨w.heap.size, 1, none⟩) (by exact hlt1) (.int .i64 t.next)
     refine ⟨?_, (hbw.setCell (by exact Nat.le_refl _) _).setCell (by exact Nat.le_refl _) _⟩
     refine ⟨.slice ax t.nodes.length cx, fs, rfl, ?_, by rw [HFN.out, List.take_length], fun f hf => ((HA.out.2.2.2.2.2.2 f hf).only ho HA.out.2.1).mono (by omega), by have := HDN.out.2.2.2.1.1.size; unfold maxLen; omega⟩
     rw [← hfl] at hrow ⊢
     exact row_monoN hrow (by omega)
    refine bodyPost_ret (v := .agg #[.slice ax t.nodes.length cx, .int .i64 t.next]) (by simp [results, Tryz.results13, go_sem, *]) rfl ?_
    exact ⟨ax, cx, rfl, HEN⟩
end Go.Proofs.YtbebgobboccjcaaGreatDoor
namespace Go.Proofs.YtbebgobboccjcaaGreatDoor
open Go.RowKit Kit
set_option linter.unusedVariables false
set_option maxRecDepth 4000 in
set_option maxHeartbeats 4000000 in
theorem ddo_nil (o : OpB) (da : Option Addr) (dc : Nat) (w : World) :
 Calls Tryz.prog 14 #[.pointer none, .agg #[.int .i64 o.kind, .string o.path, .string o.to, .int .i64 o.off, .int .i64 o.n, .slice da o.data.length dc, .int .i64 o.snap]] w fun e w' => ∃ rv ev, e = .returned (.tuple #[rv, ev]) ∧ rv = .agg #[.int .i64 0, .int .i64 0, .int .i64 0, .int .i64 0, .int .i64 0, .slice none 0 0, .slice none 0 0, .slice none 0 0] ∧ FaultIs w' ev 1 o.path ∧ Below w.heap.size w w' := by
 have HNN : Hid (∀ V, Calls Tryz.prog 36 #[.string treeS, .string o.path, .iface 80 (.int .i64 1)] V fun e w' => e = .returned (.iface 85 (.pointer (some ⟨V.heap.size, 0, none⟩))) ∧ w' = V.alloc (.cells #[.string treeS, .string o.path, .iface 80 (.int .i64 1)] 89)) := fun V => dfnew_num treeS o.path 1 V
 have HTS : Hid (treeS = ⟨#[116, 114, 101, 101]⟩) := rfl
 rw [HTS.out] at HNN
 go_enter Tryz.func14, Tryz.ntmps14
 go_wp2_with fail
 go_at_call 36
 refine (HNN.out _).mono ?_
 rintro e w2 ⟨rfl, rfl⟩
 go_wp2
 refine bodyPost_ret (v := .tuple #[.agg #[.int .i64 0, .int .i64 0, .int .i64 0, .int .i64 0, .int .i64 0, .slice none 0 0, .slice none 0 0, .slice none 0 0], .iface 85 (.pointer (some ⟨w.heap.size + 1 + 1, 0, none⟩))]) (by simp [results, Tryz.results14, go_sem, *]) rfl ?_
 refine ⟨_, _, rfl, rfl, Or.inr ⟨by decide, w.heap.size + 1 + 1, rfl, ?_⟩, (((Below.refl _ _).alloc (Nat.le_refl _) _).alloc (by simp) _).alloc (by simp; omega) _⟩
 have h := (MapKept.heap_alloc ((w.alloc (.cells #[.int .i64 o.kind, .string o.path, .string o.to, .int .i64 o.off, .int .i64 o.n, .slice da o.data.length dc, .int .i64 o.snap] 35)).alloc (.cells #[.int .i64 0, .int .i64 0, .int .i64 0, .int .i64 0, .int .i64 0, .slice none 0 0, .slice none 0 0, .slice none 0 0] 40)) (.cells #[.string treeS, .string o.path, .iface 80 (.int .i64 1)] 89)).1
 have e2 : ((w.alloc (.cells #[.int .i64 o.kind, .string o.path, .string o.to, .int .i64 o.off, .int .i64 o.n, .slice da o.data.length dc, .int .i64 o.snap] 35)).alloc (.cells #[.int .i64 0, .int .i64 0, .int .i64 0, .int .i64 0, .int .i64 0, .slice none 0 0, .slice none 0 0, .slice none 0 0] 40)).heap.size = w.heap.size + 1 + 1 := by simp
 rw [e2] at h
 exact h
end Go.Proofs.YtbebgobboccjcaaGreatDoor
namespace Go.Proofs.YtbebgobboccjcaaGreatDoor
open Go.RowKit Kit
set_option linter.unusedVariables false
theorem told_xz {w U w' : World} {p b : Nat} {x : TreeB × ReplyB × Int} {e : Ending} (h2 : RBox U (w.heap.size + 1)) (hu : Turn p b w U) (hp : p < w.heap.size) (hb : w.heap.size + 2 ≤ b) (h : Told U p b x e w') : ToldX w p b x e w' := by
 obtain ⟨rv, h1, h3, h4, h5⟩ := h
 have hr := h2.turn h5 (by omega) (by omega)
 have rc := hr.c
 obtain ⟨dv', nv, sv, e1, k1, k2, k3⟩ := id h3
 obtain ⟨da, dc, q1, _⟩ := k1
 obtain ⟨na, nc, q2, _⟩ := k2
 obtain ⟨sa, sc, q3, _⟩ := k3
 rw [intsV_len] at q1 q3
 rw [strs_len] at q2
 subst q1 q2 q3
 subst e1
 exact ⟨da, dc, na, nc, sa, sc, h1, rc.1, rc.2.1, rc.2.2.1, rc.2.2.2.1, rc.2.2.2.2.1, rc.2.2.2.2.2.1, rc.2.2.2.2.2.2.1, rc.2.2.2.2.2.2.2.1, rc.2.2.2.2.2.2.2.2.1, ⟨h3, h4, hu.trans h5, hr⟩⟩
theorem told_twoz {w w1 W2 : World} {p b : Nat} {t : TreeB} (hT1 : DTree w1 p b t) (ht : Turn p b w w1) (hB : RBox w1 (w.heap.size + 1)) (hp : p < w.heap.size) (hb : w.heap.size + 2 ≤ b) (ho : Only (w.heap.size + 1) w1 W2) : DTree W2 p b t ∧ Turn p b w W2 :=
 told_fin hT1 ht hB (by omega) (by omega) (by omega) ho (Below.refl _ _)
theorem do_end1z {w w1 : World} {p b : Nat} {t : TreeB} {r : ReplyB} {v r0 r1 r2 r3 r4 r5 r6 r7 : Value} {blk : Obj} {path : ByteArray} (h1 : ReplyAt w1 v r) (h2 : DTree w1 p b t) (h3 : Turn p b w w1) (h4 : RBox w1 (w.heap.size + 1)) (hp : p < w.heap.size) (hb : w.heap.size + 2 ≤ b) (hs : r.snaps = []) :
 ToldF w p b (t, r, 0) path (.returned (.tuple #[v, .nilIface])) ((outR w1 (w.heap.size + 1) r0 r1 r2 r3 r4 r5 r6 r7).alloc blk).drew := by
 have ho := outR_only w1 (w.heap.size + 1) r0 r1 r2 r3 r4 r5 r6 r7
 have hf := told_twoz h2 h3 h4 hp hb ho
 have hbe : Below (outR w1 (w.heap.size + 1) r0 r1 r2 r3 r4 r5 r6 r7).heap.size (outR w1 (w.heap.size + 1) r0 r1 r2 r3 r4 r5 r6 r7) ((outR w1 (w.heap.size + 1) r0 r1 r2 r3 r4 r5 r6 r7).alloc blk).drew := ((Below.refl _ _).alloc (Nat.le_refl _) _).drew
 exact do_fin (reply_fin h1 hs h4 ho) hf.1 hf.2 hbe (fault_nil _ _)
theorem do_end2z {w w1 : World} {p b B : Nat} {t : TreeB} {r : ReplyB} {v r0 r1 r2 r3 r4 r5 r6 r7 q0 q1 q2 q3 q4 q5 q6 q7 : Value} {path : ByteArray} (h1 : ReplyAt w1 v r) (h2 : DTree w1 p b t) (h3 : Turn p b w w1) (h4 : RBox w1 (w.heap.size + 1)) (h5 : RBox w1 B) (hB : w.heap.size + 2 ≤ B) (hBb : B ≠ b) (hp : p < w.heap.size) (hb : w.heap.size + 2 ≤ b) (hs : r.snaps = []) :
 ToldF w p b (t, r, 0) path (.returned (.tuple #[v, .nilIface])) (outR (outR w1 B q0 q1 q2 q3 q4 q5 q6 q7) (w.heap.size + 1) r0 r1 r2 r3 r4 r5 r6 r7).drew := by
 have ho := outR_only w1 B q0 q1 q2 q3 q4 q5 q6 q7
 have hf := told_fin h2 h3 h5 (by omega) (by omega) (by omega) ho (Below.refl _ _)
 have hr := reply_fin h1 hs h5 ho
 have h6 : RBox (outR w1 B q0 q1 q2 q3 q4 q5 q6 q7) (w.heap.size + 1) := (ho.block _ h4.c.2.2.2.2.2.2.2.2.2 (by omega)).trans h4
 have ho2 := outR_only (outR w1 B q0 q1 q2 q3 q4 q5 q6 q7) (w.heap.size + 1) r0 r1 r2 r3 r4 r5 r6 r7
 have hf2 := told_twoz hf.1 hf.2 h6 hp hb ho2
 exact do_fin (reply_fin hr hs h6 ho2) hf2.1 hf2.2 (Below.refl _ _).drew (fault_nil _ _)
theorem do_err1z {w w1 : World} {p b : Nat} {t : TreeB} {r : ReplyB} {v r0 r1 r2 r3 r4 r5 r6 r7 : Value} {blk : Obj} {path : ByteArray} {c : Int} {g : Nat} (h1 : ReplyAt w1 v r) (h2 : DTree w1 p b t) (h3 : Turn p b w w1) (h4 : RBox w1 (w.heap.size + 1)) (hp : p < w.heap.size) (hb : w.heap.size + 2 ≤ b) (hs : r.snaps = []) (hc : c ≠ 0) (hg : g = w1.heap.size + 1) :
 ToldF w p b (t, r, c) path (.returned (.tuple #[v, .iface 85 (.pointer (some ⟨g, 0, none⟩))])) (((outR w1 (w.heap.size + 1) r0 r1 r2 r3 r4 r5 r6 r7).alloc blk).alloc (.cells #[.string treeS, .string path, .iface 80 (.int .i64 c)] 89)).drew := by
 have ho := outR_only w1 (w.heap.size + 1) r0 r1 r2 r3 r4 r5 r6 r7
 have hz := outR_size w1 (w.heap.size + 1) r0 r1 r2 r3 r4 r5 r6 r7
 have hf := told_twoz h2 h3 h4 hp hb ho
 have hr := reply_fin h1 hs h4 ho
 generalize outR w1 (w.heap.size + 1) r0 r1 r2 r3 r4 r5 r6 r7 = O at *
 have hbe : Below O.heap.size O ((O.alloc blk).alloc (.cells #[.string treeS, .string path, .iface 80 (.int .i64 c)] 89)).drew := (((Below.refl _ _).alloc (Nat.le_refl _) _).alloc (by simp) _).drew
 refine do_fin hr hf.1 hf.2 hbe (Or.inr ⟨hc, g, rfl, ?_⟩)
 have he : g = (O.alloc blk).heap.size := by rw [hg, ← hz]; simp
 subst he
 exact (MapKept.heap_alloc (O.alloc blk) _).1
theorem do_err2z {w w1 : World} {p b B : Nat} {t : TreeB} {r : ReplyB} {v r0 r1 r2 r3 r4 r5 r6 r7 q0 q1 q2 q3 q4 q5 q6 q7 : Value} {path : ByteArray} {c : Int} {g : Nat} (h1 : ReplyAt w1 v r) (h2 : DTree w1 p b t) (h3 : Turn p b w w1) (h4 : RBox w1 (w.heap.size + 1)) (h5 : RBox w1 B) (hB : w.heap.size + 2 ≤ B) (hBb : B ≠ b) (hp : p < w.heap.size) (hb : w.heap.size + 2 ≤ b) (hs : r.snaps = []) (hc : c ≠ 0) (hg : g = w1.heap.size) :
 ToldF w p b (t, r, c) path (.returned (.tuple #[v, .iface 85 (.pointer (some ⟨g, 0, none⟩))])) ((outR (outR w1 B q0 q1 q2 q3 q4 q5 q6 q7) (w.heap.size + 1) r0 r1 r2 r3 r4 r5 r6 r7).alloc (.cells #[.string treeS, .string path, .iface 80 (.int .i64 c)] 89)).drew := by
 have ho := outR_only w1 B q0 q1 q2 q3 q4 q5 q6 q7
 have hz := outR_size w1 B q0 q1 q2 q3 q4 q5 q6 q7
 have hf := told_fin h2 h3 h5 (by omega) (by omega) (by omega) ho (Below.refl _ _)
 have hr := reply_fin h1 hs h5 ho
 have h6 : RBox (outR w1 B q0 q1 q2 q3 q4 q5 q6 q7) (w.heap.size + 1) := (ho.block _ h4.c.2.2.2.2.2.2.2.2.2 (by omega)).trans h4
 generalize outR w1 B q0 q1 q2 q3 q4 q5 q6 q7 = O1 at *
 have ho2 := outR_only O1 (w.heap.size + 1) r0 r1 r2 r3 r4 r5 r6 r7
 have hz2 := outR_size O1 (w.heap.size + 1) r0 r1 r2 r3 r4 r5 r6 r7
 have hf2 := told_twoz hf.1 hf.2 h6 hp hb ho2
 have hr2 := reply_fin hr hs h6 ho2
 generalize outR O1 (w.heap.size + 1) r0 r1 r2 r3 r4 r5 r6 r7 = O at *
 have hbe : Below O.heap.size O (O.alloc (.cells #[.string treeS, .string path, .iface 80 (.int .i64 c)] 89)).drew := ((Below.refl _ _).alloc (Nat.le_refl _) _).drew
 refine do_fin hr2 hf2.1 hf2.2 hbe (Or.inr ⟨hc, g, rfl, ?_⟩)
 have he : g = O.heap.size := by rw [hg, hz2, hz]
 subst he
 exact (MapKept.heap_alloc O _).1
end Go.Proofs.YtbebgobboccjcaaGreatDoor
namespace Go.Proofs.YtbebgobboccjcaaGreatDoor
open Go.RowKit Kit
set_option linter.unusedVariables false

def ZeroT (w : World) (p : Nat) : Prop := w.heap[p]? = some (.cells #[.map none, .int .i64 0] 52)
theorem sees_turnZ {p b : Nat} {w w' : World} {v : Value} {l : List Int} (h : Sees w v (intsV .u8 l)) (hz : ZeroT w p) (hbn : w.heap.size ≤ b) (ht : Turn p b w w') : Sees w' v (intsV .u8 l) := by
 obtain ⟨ao, cap, h1, h2, h3, h4, h5⟩ := h
 refine ⟨ao, cap, h1, h2, h3, h4, fun h0 => ?_⟩
 obtain ⟨g, off, e, hl, hh⟩ := h5 h0
 have h00 := hh 0 _ (intsV_at .u8 l 0 (by rw [intsV_len] at h0; exact h0))
 have hp : g ≠ p := fun e2 => by
  subst e2
  have hz' : w.heap[g]? = _ := hz
  simp only [World.cell?, hz'] at h00
  match off with
  | 0 => simp at h00
  | 1 => simp at h00
  | o + 2 => simp at h00
 have hb : g ≠ b := by omega
 refine ⟨g, off, e, Nat.lt_of_lt_of_le hl ht.size, fun i x hx => ?_⟩
 rw [← hh i x hx]
 simp only [World.cell?, ht.block g hl hp hb]
def ZAt (w U : World) (p b : Nat) (o : OpB) (dv : Value) : Prop := DTree U p b newB ∧ w.heap.size + 2 ≤ b ∧ Turn p b w U ∧ RBox U (w.heap.size + 1) ∧ OBox U w.heap.size o dv ∧ Sees U dv (intsV .u8 o.data)
theorem zat_made {w W U w' : World} {p b : Nat} {o : OpB} {dv : Value} (hz : ZeroT w p) (hdv : Sees w dv (intsV .u8 o.data)) (h0 : Two w W o dv) (hW : W.heap.size = w.heap.size + 2) (hU : Below W.heap.size W U) (hT : DTree w' p b newB) (hb : U.heap.size ≤ b) (ht : Turn p b U w') : ZAt w w' p b o dv := by
 have hp : p < w.heap.size := (Array.getElem?_eq_some_iff.1 hz).1
 have hwU := bel2v h0.2.2 hU
 have hs := hU.size
 have h2 : Two w U o dv := h0.below hU
 have hzU : ZeroT U p := (hwU.block p hp).trans hz
 exact ⟨hT, by omega, (turn_below hwU).trans ht, h2.2.1.turn ht (by omega) (by omega), h2.1.turn ht (by omega) (by omega), sees_turnZ (hdv.below hwU) hzU hb ht⟩
theorem ZAt.below {w U V : World} {p b : Nat} {o : OpB} {dv : Value} (h : ZAt w U p b o dv) (hV : Below U.heap.size U V) : ZAt w V p b o dv :=
 ⟨h.1.below hV, h.2.1, h.2.2.1.trans (turn_below hV), h.2.2.2.1.below hV, (hV.block _ h.2.2.2.2.1.c.2.2.2.2.2.2.2).trans h.2.2.2.2.1, h.2.2.2.2.2.below hV⟩
theorem zact (o : OpB) (da : Option Addr) (dc : Nat) (w U : World) (p b : Nat) (hp : p < w.heap.size) (hG : Good newB) (hs1 : o.path.size ≤ maxLen) (hs2 : o.to.size ≤ maxLen) (h : ZAt w U p b o (.slice da o.data.length dc)) :
 Calls Tryz.prog 37 #[.pointer (some ⟨p, 0, none⟩), .agg #[.int .i64 o.kind, .string o.path, .string o.to, .int .i64 o.off, .int .i64 o.n, .slice da o.data.length dc, .int .i64 o.snap]] U fun e w' => ToldX w p b (doB newB o) e w' ∧ w'.cell? ⟨w.heap.size, 1, none⟩ = some (.string o.path) ∧ w.heap.size + 1 < w'.heap.size ∧ Turn p b U w' := by
 obtain ⟨h1, h2, h3, h4, h5, h6⟩ := h
 refine (dact_any o da dc U p b newB h1 hG hs1 hs2 h6).mono ?_
 intro e w' k
 have hk := k
 obtain ⟨_, _, _, _, hTurn⟩ := hk
 have hx := told_xz h4 h3 hp h2 k
 have ob := h5.turn hTurn (by omega) (by omega)
 have hr := (h4.turn hTurn (by omega) (by omega)).c.2.2.2.2.2.2.2.2.2
 exact ⟨hx, ob.c.2.1, hr, hTurn⟩
end Go.Proofs.YtbebgobboccjcaaGreatDoor
namespace Go.Proofs.YtbebgobboccjcaaGreatDoor
open Go.RowKit Kit
set_option linter.unusedVariables false
theorem zact1 (o : OpB) (da : Option Addr) (dc : Nat) (w : World) (p : Nat) (hp : p < w.heap.size) (hs1 : o.path.size ≤ maxLen) (hs2 : o.to.size ≤ maxLen) :
 (∀ U b, ZAt w U p b o (.slice da o.data.length dc) → Calls Tryz.prog 37 #[.pointer (some ⟨p, 0, none⟩), .agg #[.int .i64 o.kind, .string o.path, .string o.to, .int .i64 o.off, .int .i64 o.n, .slice da o.data.length dc, .int .i64 o.snap]] U fun e w' => ∃ ra rc na nc sa sc, e = .returned (.tuple #[.agg #[.int .i64 (doB newB o).2.1.ino, .int .i64 (doB newB o).2.1.kind, .int .i64 (doB newB o).2.1.size, .int .i64 (doB newB o).2.1.links, .int .i64 (doB newB o).2.1.n, .slice ra (doB newB o).2.1.data.length rc, .slice na (doB newB o).2.1.names.length nc, .slice sa (doB newB o).2.1.snaps.length sc], errV (doB newB o).2.2]) ∧ w'.cell? ⟨w.heap.size + 1, 0, none⟩ = some (.int .i64 0) ∧ w'.cell? ⟨w.heap.size + 1, 1, none⟩ = some (.int .i64 0) ∧ w'.cell? ⟨w.heap.size + 1, 2, none⟩ = some (.int .i64 0) ∧ w'.cell? ⟨w.heap.size + 1, 3, none⟩ = some (.int .i64 0) ∧ w'.cell? ⟨w.heap.size + 1, 4, none⟩ = some (.int .i64 0) ∧ w'.cell? ⟨w.heap.size + 1, 5, none⟩ = some (.slice none 0 0) ∧ w'.cell? ⟨w.heap.size + 1, 6, none⟩ = some (.slice none 0 0) ∧ w'.cell? ⟨w.heap.size + 1, 7, none⟩ = some (.slice none 0 0) ∧ (∀ j, w'.frozen? ⟨w.heap.size + 1, j, none⟩ = false) ∧ w'.cell? ⟨w.heap.size, 1, none⟩ = some (.string o.path) ∧ w.heap.size < w'.heap.size ∧ w.heap.size + 1 < w'.heap.size ∧ Hid (ReplyAt w' (.agg #[.int .i64 (doB newB o).2.1.ino, .int .i64 (doB newB o).2.1.kind, .int .i64 (doB newB o).2.1.size, .int .i64 (doB newB o).2.1.links, .int .i64 (doB newB o).2.1.n, .slice ra (doB newB o).2.1.data.length rc, .slice na (doB newB o).2.1.names.length nc, .slice sa (doB newB o).2.1.snaps.length sc]) (doB newB o).2.1 ∧ DTree w' p b (doB newB o).1 ∧ Turn p b w w' ∧ RBox w' (w.heap.size + 1))) ∧
 (∀ U b B, ZAt w U p b o (.slice da o.data.length dc) → RBox U B → B ≠ p → B ≠ b → Calls Tryz.prog 37 #[.pointer (some ⟨p, 0, none⟩), .agg #[.int .i64 o.kind, .string o.path, .string o.to, .int .i64 o.off, .int .i64 o.n, .slice da o.data.length dc, .int .i64 o.snap]] U fun e w' => ∃ ra rc na nc sa sc, e = .returned (.tuple #[.agg #[.int .i64 (doB newB o).2.1.ino, .int .i64 (doB newB o).2.1.kind, .int .i64 (doB newB o).2.1.size, .int .i64 (doB newB o).2.1.links, .int .i64 (doB newB o).2.1.n, .slice ra (doB newB o).2.1.data.length rc, .slice na (doB newB o).2.1.names.length nc, .slice sa (doB newB o).2.1.snaps.length sc], errV (doB newB o).2.2]) ∧ w'.cell? ⟨w.heap.size + 1, 0, none⟩ = some (.int .i64 0) ∧ w'.cell? ⟨w.heap.size + 1, 1, none⟩ = some (.int .i64 0) ∧ w'.cell? ⟨w.heap.size + 1, 2, none⟩ = some (.int .i64 0) ∧ w'.cell? ⟨w.heap.size + 1, 3, none⟩ = some (.int .i64 0) ∧ w'.cell? ⟨w.heap.size + 1, 4, none⟩ = some (.int .i64 0) ∧ w'.cell? ⟨w.heap.size + 1, 5, none⟩ = some (.slice none 0 0) ∧ w'.cell? ⟨w.heap.size + 1, 6, none⟩ = some (.slice none 0 0) ∧ w'.cell? ⟨w.heap.size + 1, 7, none⟩ = some (.slice none 0 0) ∧ (∀ j, w'.frozen? ⟨w.heap.size + 1, j, none⟩ = false) ∧ w'.cell? ⟨w.heap.size, 1, none⟩ = some (.string o.path) ∧ w.heap.size < w'.heap.size ∧ w.heap.size + 1 < w'.heap.size ∧ B < w'.heap.size ∧ (w'.cell? ⟨B, 0, none⟩ = some (.int .i64 0) ∧ w'.cell? ⟨B, 1, none⟩ = some (.int .i64 0) ∧ w'.cell? ⟨B, 2, none⟩ = some (.int .i64 0) ∧ w'.cell? ⟨B, 3, none⟩ = some (.int .i64 0) ∧ w'.cell? ⟨B, 4, none⟩ = some (.int .i64 0) ∧ w'.cell? ⟨B, 5, none⟩ = some (.slice none 0 0) ∧ w'.cell? ⟨B, 6, none⟩ = some (.slice none 0 0) ∧ w'.cell? ⟨B, 7, none⟩ = some (.slice none 0 0) ∧ (∀ j, w'.frozen? ⟨B, j, none⟩ = false)) ∧ Hid (ReplyAt w' (.agg #[.int .i64 (doB newB o).2.1.ino, .int .i64 (doB newB o).2.1.kind, .int .i64 (doB newB o).2.1.size, .int .i64 (doB newB o).2.1.links, .int .i64 (doB newB o).2.1.n, .slice ra (doB newB o).2.1.data.length rc, .slice na (doB newB o).2.1.names.length nc, .slice sa (doB newB o).2.1.snaps.length sc]) (doB newB o).2.1 ∧ DTree w' p b (doB newB o).1 ∧ Turn p b w w' ∧ RBox w' (w.heap.size + 1) ∧ RBox w' B)) := by
 constructor
 · intro U b h
   refine (zact o da dc w U p b hp newB_good hs1 hs2 h).mono ?_
   rintro e w' ⟨⟨ra, rc, na, nc, sa, sc, q, b0, b1, b2, b3, b4, b5, b6, b7, bf, HX⟩, h2, h3, h4⟩
   exact ⟨ra, rc, na, nc, sa, sc, q, b0, b1, b2, b3, b4, b5, b6, b7, bf, h2, by omega, h3, ⟨HX.out.1, HX.out.2.1, HX.out.2.2.1, HX.out.2.2.2⟩⟩
 · intro U b B h hB hBp hBb
   refine (zact o da dc w U p b hp newB_good hs1 hs2 h).mono ?_
   rintro e w' ⟨⟨ra, rc, na, nc, sa, sc, q, b0, b1, b2, b3, b4, b5, b6, b7, bf, HX⟩, h2, h3, h4⟩
   have hr := hB.turn h4 hBp hBb
   have c := hr.c
   exact ⟨ra, rc, na, nc, sa, sc, q, b0, b1, b2, b3, b4, b5, b6, b7, bf, h2, by omega, h3, c.2.2.2.2.2.2.2.2.2, ⟨c.1, c.2.1, c.2.2.1, c.2.2.2.1, c.2.2.2.2.1, c.2.2.2.2.2.1, c.2.2.2.2.2.2.1, c.2.2.2.2.2.2.2.1, c.2.2.2.2.2.2.2.2.1⟩, ⟨HX.out.1, HX.out.2.1, HX.out.2.2.1, HX.out.2.2.2, hr⟩⟩
theorem zmade1 (o : OpB) (da : Option Addr) (dc : Nat) (w W : World) (p : Nat) (hz : ZeroT w p) (hdv : Sees w (.slice da o.data.length dc) (intsV .u8 o.data)) (h0 : Two w W o (.slice da o.data.length dc)) (hW : W.heap.size = w.heap.size + 2) :
 ∀ U, Below W.heap.size W U → Calls Tryz.prog 32 #[.pointer (some ⟨p, 0, none⟩)] U fun e w' => ∃ b, e = .returned (.pointer (some ⟨p, 0, none⟩)) ∧ w'.cell? ⟨w.heap.size, 0, none⟩ = some (.int .i64 o.kind) ∧ w'.cell? ⟨w.heap.size, 1, none⟩ = some (.string o.path) ∧ w'.cell? ⟨w.heap.size, 2, none⟩ = some (.string o.to) ∧ w'.cell? ⟨w.heap.size, 3, none⟩ = some (.int .i64 o.off) ∧ w'.cell? ⟨w.heap.size, 4, none⟩ = some (.int .i64 o.n) ∧ w'.cell? ⟨w.heap.size, 5, none⟩ = some (.slice da o.data.length dc) ∧ w'.cell? ⟨w.heap.size, 6, none⟩ = some (.int .i64 o.snap) ∧ Hid (ZAt w w' p b o (.slice da o.data.length dc) ∧ U.heap.size ≤ b ∧ b < w'.heap.size ∧ Turn p b U w') := by
 intro U hU
 have hp : p < w.heap.size := (Array.getElem?_eq_some_iff.1 hz).1
 have hzU : ZeroT U p := ((bel2v h0.2.2 hU).block p hp).trans hz
 refine (dmade_zero U p hzU).mono ?_
 rintro e w' ⟨b, he, h1, h2, h3⟩
 have hZ := zat_made hz hdv h0 hW hU h1 h2 h3
 have c := hZ.2.2.2.2.1.c
 exact ⟨b, he, c.1, c.2.1, c.2.2.1, c.2.2.2.1, c.2.2.2.2.1, c.2.2.2.2.2.1, c.2.2.2.2.2.2.1, ⟨hZ, h2, h1.cells.2.2.2.2, h3⟩⟩
end Go.Proofs.YtbebgobboccjcaaGreatDoor
namespace Go.Proofs.YtbebgobboccjcaaGreatDoor
open Go.RowKit Kit
set_option linter.unusedVariables false

structure Own (w0 w : World) (p b : Nat) (t : TreeB) : Prop where
 tree : DTree w p b t
 hp : w0.heap.size ≤ p
 hb : w0.heap.size ≤ b
 bel : Below w0.heap.size w0 w
 good : Good t
theorem Own.below {w0 w w' : World} {p b : Nat} {t : TreeB} (h : Own w0 w p b t) (hb : Below w.heap.size w w') : Own w0 w' p b t := ⟨h.tree.below hb, h.hp, h.hb, bel2e h.bel hb, h.good⟩
theorem Own.turn {w0 w w' : World} {p b : Nat} {t t' : TreeB} (h : Own w0 w p b t) (hT : DTree w' p b t') (ht : Turn p b w w') (hg : Good t') : Own w0 w' p b t' := ⟨hT, h.hp, h.hb, ht.below h.bel h.bel.size h.hp h.hb, hg⟩
theorem Own.lt {w0 w : World} {p b : Nat} {t : TreeB} (h : Own w0 w p b t) : p < w.heap.size ∧ b < w.heap.size := h.tree.cells.2.2.2
theorem turn_block {w w' : World} {p b g : Nat} {o : Obj} (ht : Turn p b w w') (h : w.heap[g]? = some o) (hp : g ≠ p) (hb : g ≠ b) : w'.heap[g]? = some o := (ht.block g (Array.getElem?_eq_some_iff.1 h).1 hp hb).trans h
theorem below_block {w w' : World} {g : Nat} {o : Obj} (hb : Below w.heap.size w w') (h : w.heap[g]? = some o) : w'.heap[g]? = some o := (hb.block g (Array.getElem?_eq_some_iff.1 h).1).trans h
theorem lnew (w : World) : Calls Tryz.prog 9 #[] w fun e w' => ∃ p b, e = .returned (.pointer (some ⟨p, 0, none⟩)) ∧ Hid (Own w w' p b newB) := by
 refine (dnew_any w).mono ?_
 rintro e w' ⟨p, b, h1, h2, h3, h4, h5, h6⟩
 exact ⟨p, b, h1, ⟨h2, h3, h4, h6, newB_good⟩⟩
theorem ddo_any (o : OpB) (da : Option Addr) (dc : Nat) (w : World) (p b : Nat) (t : TreeB) (hT : DTree w p b t) (hG : Good t) (hs1 : o.path.size ≤ maxLen) (hs2 : o.to.size ≤ maxLen) (hdv : Sees w (.slice da o.data.length dc) (intsV .u8 o.data)) :
 Calls Tryz.prog 14 #[.pointer (some ⟨p, 0, none⟩), .agg #[.int .i64 o.kind, .string o.path, .string o.to, .int .i64 o.off, .int .i64 o.n, .slice da o.data.length dc, .int .i64 o.snap]] w fun e w' => ToldF w p b (doB t o) o.path e w' := by
 by_cases hc : (doB t o).2.2 = 0
 · exact ddo_ok o da dc w p b t hT hG hs1 hs2 hdv hc
 · exact ddo_err o da dc w p b t hT hG hs1 hs2 hdv hc
def Took (w0 w : World) (p b : Nat) (t : TreeB) (r : ReplyB) (e : Ending) (w' : World) : Prop := ∃ ra rc na nc sa sc, e = .returned (.tuple #[.agg #[.int .i64 r.ino, .int .i64 r.kind, .int .i64 r.size, .int .i64 r.links, .int .i64 r.n, .slice ra r.data.length rc, .slice na r.names.length nc, .slice sa r.snaps.length sc], .nilIface]) ∧
 Hid (Sees w' (.slice ra r.data.length rc) (intsV .u8 r.data) ∧ Sees w' (.slice na r.names.length nc) (strs r.names) ∧ Own w0 w' p b t ∧ Turn p b w w')
def Fell (w0 w : World) (p b : Nat) (t : TreeB) (r : ReplyB) (c : Int) (path : ByteArray) (e : Ending) (w' : World) : Prop := ∃ ra rc na nc sa sc g, e = .returned (.tuple #[.agg #[.int .i64 r.ino, .int .i64 r.kind, .int .i64 r.size, .int .i64 r.links, .int .i64 r.n, .slice ra r.data.length rc, .slice na r.names.length nc, .slice sa r.snaps.length sc], .iface 85 (.pointer (some ⟨g, 0, none⟩))]) ∧
 Hid (w'.heap[g]? = some (.cells #[.string treeS, .string path, .iface 80 (.int .i64 c)] 89) ∧ Own w0 w' p b t ∧ Turn p b w w')
theorem reply_form {w : World} {v : Value} {r : ReplyB} (h : ReplyAt w v r) : ∃ ra rc na nc sa sc, v = .agg #[.int .i64 r.ino, .int .i64 r.kind, .int .i64 r.size, .int .i64 r.links, .int .i64 r.n, .slice ra r.data.length rc, .slice na r.names.length nc, .slice sa r.snaps.length sc] ∧ Sees w (.slice ra r.data.length rc) (intsV .u8 r.data) ∧ Sees w (.slice na r.names.length nc) (strs r.names) := by
 obtain ⟨dv, nv, sv, h1, h2, h3, h4⟩ := h
 obtain ⟨a1, c1, e1, _⟩ := id h2
 obtain ⟨a2, c2, e2, _⟩ := id h3
 obtain ⟨a3, c3, e3, _⟩ := id h4
 rw [intsV_len] at e1 e3
 rw [strs_len] at e2
 subst e1 e2 e3
 exact ⟨a1, c1, a2, c2, a3, c3, h1, h2, h3⟩
theorem ldo_ok (o : OpB) (da : Option Addr) (dc : Nat) (w0 w : World) (p b : Nat) (t t' : TreeB) (r : ReplyB) (h : Own w0 w p b t) (hs1 : o.path.size ≤ maxLen) (hs2 : o.to.size ≤ maxLen) (hd : bytesIn o.data) (hdv : Sees w (.slice da o.data.length dc) (intsV .u8 o.data)) (hx : doB t o = (t', r, 0)) :
 Calls Tryz.prog 14 #[.pointer (some ⟨p, 0, none⟩), .agg #[.int .i64 o.kind, .string o.path, .string o.to, .int .i64 o.off, .int .i64 o.n, .slice da o.data.length dc, .int .i64 o.snap]] w fun e w' => Took w0 w p b t' r e w' := by
 refine (ddo_any o da dc w p b t h.tree h.good hs1 hs2 hdv).mono ?_
 rintro e w' ⟨rv, ev, he, h1, h2, h3, h4⟩
 have hg := do_good h.good o hd
 rw [hx] at h1 h2 h3 hg
 simp only at h1 h2 h3 hg
 obtain ⟨ra, rc, na, nc, sa, sc, e1, s1, s2⟩ := reply_form h1
 rcases h2 with ⟨_, h2⟩ | ⟨h2, _⟩
 · subst h2 e1
   exact ⟨ra, rc, na, nc, sa, sc, he, ⟨s1, s2, h.turn h3 h4 hg, h4⟩⟩
 · exact absurd rfl h2
theorem ldo_err (o : OpB) (da : Option Addr) (dc : Nat) (w0 w : World) (p b : Nat) (t t' : TreeB) (r : ReplyB) (c : Int) (h : Own w0 w p b t) (hs1 : o.path.size ≤ maxLen) (hs2 : o.to.size ≤ maxLen) (hd : bytesIn o.data) (hdv : Sees w (.slice da o.data.length dc) (intsV .u8 o.data)) (hx : doB t o = (t', r, c)) (hc : c ≠ 0) :
 Calls Tryz.prog 14 #[.pointer (some ⟨p, 0, none⟩), .agg #[.int .i64 o.kind, .string o.path, .string o.to, .int .i64 o.off, .int .i64 o.n, .slice da o.data.length dc, .int .i64 o.snap]] w fun e w' => Fell w0 w p b t' r c o.path e w' := by
 refine (ddo_any o da dc w p b t h.tree h.good hs1 hs2 hdv).mono ?_
 rintro e w' ⟨rv, ev, he, h1, h2, h3, h4⟩
 have hg := do_good h.good o hd
 rw [hx] at h1 h2 h3 hg
 simp only at h1 h2 h3 hg
 obtain ⟨ra, rc, na, nc, sa, sc, e1, s1, s2⟩ := reply_form h1
 rcases h2 with ⟨h2, _⟩ | ⟨_, g, h2, h5⟩
 · exact absurd h2 hc
 · subst h2 e1
   exact ⟨ra, rc, na, nc, sa, sc, g, he, ⟨h5, h.turn h3 h4 hg, h4⟩⟩
theorem sees_noData (w : World) : Sees w (.slice none 0 0) (intsV .u8 []) := sees_nil0 _ _ rfl
theorem bytesIn_nil : bytesIn [] := fun z hz => by cases hz
theorem llinks (i : Int) (w0 w : World) (p b : Nat) (t : TreeB) (h : Own w0 w p b t) :
 Calls Tryz.prog 29 #[.pointer (some ⟨p, 0, none⟩), .int .i64 i] w fun e w' => e = .returned (.int .i64 (linksD t i : Nat)) ∧ Hid (Below w.heap.size w w') := dlinks_any i w p b t h.tree (h.good.1.fair)
end Go.Proofs.YtbebgobboccjcaaGreatDoor
namespace Go.Proofs.YtbebgobboccjcaaGreatDoor
open Go.RowKit Kit
set_option linter.unusedVariables false

theorem bel_new (w : World) (o : Obj) : Below w.heap.size w (w.alloc o) := (Below.refl _ _).alloc (Nat.le_refl _) _
theorem box_turn {w w' : World} {p b : Nat} {o : Obj} (hp : p < w.heap.size) (hb : b < w.heap.size) (ht : Turn p b (w.alloc o) w') : w'.heap[w.heap.size]? = some o := turn_block ht (MapKept.heap_alloc w o).1 (by omega) (by omega)
theorem cell_of {w : World} {g j : Nat} {cs : Array Value} {t : TypeId} {v : Value} (h : w.heap[g]? = some (.cells cs t)) (hj : cs[j]? = some v) : w.cell? ⟨g, j, none⟩ = some v := by simp [World.cell?, h, hj]
set_option maxRecDepth 4000 in
set_option maxHeartbeats 4000000 in
theorem awake5_any (w : World) (hg : Tied w) : Calls Tryz.prog 8 #[] w fun e w' => e = .returned (.bool true) ∧ Below w.heap.size w w' := by
 have HG : Hid (Tied w) := hg
 have HN : Hid (Calls Tryz.prog 9 _ _ _) := lnew w
 have hx1 : doB newB (opB 1 pA) = (tA, (doB newB (opB 1 pA)).2.1, 0) := Prod.ext rfl (Prod.ext rfl awake1.1)
 have hi1 := awake1.2
 have hx2 : doB tA (opB 1 pA) = ((doB tA (opB 1 pA)).1, (doB tA (opB 1 pA)).2.1, 6) := Prod.ext rfl (Prod.ext rfl awake2)
 have hi2 := awake3
 generalize (doB newB (opB 1 pA)).2.1 = r1 at hx1 hi1
 generalize (doB tA (opB 1 pA)).1 = t2 at hx2 hi2
 generalize (doB tA (opB 1 pA)).2.1 = r2 at hx2
 have HD1 : Hid (∀ w1 p b, Own w w1 p b newB → Calls Tryz.prog 14 #[.pointer (some ⟨p, 0, none⟩), .agg #[.int .i64 1, .string ⟨#[47, 97]⟩, .string ⟨#[]⟩, .int .i64 0, .int .i64 0, .slice none 0 0, .int .i64 0]] w1 fun e w' => Took w w1 p b tA r1 e w') := fun w1 p b h => ldo_ok (opB 1 pA) none 0 w w1 p b newB tA r1 h (by decide) (by decide) bytesIn_nil (sees_noData _) hx1
 have HD2 : Hid (∀ w1 p b, Own w w1 p b tA → Calls Tryz.prog 14 #[.pointer (some ⟨p, 0, none⟩), .agg #[.int .i64 1, .string ⟨#[47, 97]⟩, .string ⟨#[]⟩, .int .i64 0, .int .i64 0, .slice none 0 0, .int .i64 0]] w1 fun e w' => Fell w w1 p b t2 r2 6 ⟨#[47, 97]⟩ e w') := fun w1 p b h => ldo_err (opB 1 pA) none 0 w w1 p b tA t2 r2 6 h (by decide) (by decide) bytesIn_nil (sees_noData _) hx2 (by decide)
 have HI : Hid (∀ w1 g, Tied w1 → w1.heap[g]? = some (.cells #[.string treeS, .string ⟨#[47, 97]⟩, .iface 80 (.int .i64 6)] 89) → Calls Tryz.prog 19 #[.iface 85 (.pointer (some ⟨g, 0, none⟩)), .int .i64 6, .string ⟨#[116, 114, 101, 101]⟩, .string ⟨#[47, 97]⟩] w1 fun e w' => e = .returned (.bool true) ∧ Below w1.heap.size w1 w') := fun w1 g h1 h2 => ais_fault 6 w1 g treeS ⟨#[47, 97]⟩ h1 (by omega) (by omega) h2 (by decide) (by decide)
 have HL : Hid (∀ w1 p b, Own w w1 p b t2 → Calls Tryz.prog 29 #[.pointer (some ⟨p, 0, none⟩), .int .i64 2] w1 fun e w' => e = .returned (.int .i64 1) ∧ Hid (Below w1.heap.size w1 w')) := fun w1 p b h => by
  have := llinks 2 w w1 p b t2 h
  rw [hi2] at this
  exact this
 clear hx1 hx2 hi2 hg
 go_enter Tryz.func8, Tryz.ntmps8
 go_wp2_with fail
 go_at_call 9
 refine HN.out.mono ?_
 rintro e w1 ⟨p, b, rfl, HO⟩
 clear HN
 go_wp2_with fail
 go_at_call 14
 refine (HD1.out _ _ _ HO.out).mono ?_
 rintro e w2 ⟨ra, rc, na, nc, sa, sc, rfl, HT⟩
 have HO2 : Hid (Own w w2 p b tA) := HT.out.2.2.1
 clear HO HT HD1
 go_wp2_with fail
 go_at_call 14
 refine (HD2.out _ _ _ (HO2.out.below (bel_new _ _))).mono ?_
 rintro e w3 ⟨ra2, rc2, na2, nc2, sa2, sc2, g, rfl, HF⟩
 have c0 : w3.cell? ⟨w2.heap.size, 0, none⟩ = some (.int .i64 2) := by
  have h1 := HO2.out.lt
  have h2 := box_turn h1.1 h1.2 HF.out.2.2
  exact cell_of h2 rfl
 have hl3 : w2.heap.size < w3.heap.size := cell_lt c0
 have HO3 : Hid (Own w w3 p b t2) := HF.out.2.1
 have HQ : Hid (w3.heap[g]? = some (.cells #[.string treeS, .string ⟨#[47, 97]⟩, .iface 80 (.int .i64 6)] 89)) := HF.out.1
 clear HF HO2 HD2
 go_wp2_with fail
 go_at_call 19
 refine (HI.out _ _ (tied_below HG.out (HO3.out.below (bel_new _ _)).bel) (below_block (bel_new _ _) HQ.out)).mono ?_
 rintro e w4 ⟨rfl, hb4⟩
 have HO4 : Hid (Own w w4 p b t2) := (HO3.out.below (bel_new _ _)).below hb4
 clear hb4 HO3 HQ HI HG
 go_wp2_with fail
 go_at_call 29
 refine (HL.out _ _ _ HO4.out).mono ?_
 rintro e w5 ⟨rfl, HB5⟩
 have HO5 : Hid (Own w w5 p b t2) := HO4.out.below HB5.out
 clear HB5 HO4 HL
 go_wp2
 go_ret
 exact ⟨rfl, HO5.out.bel⟩
end Go.Proofs.YtbebgobboccjcaaGreatDoor
namespace Go.Proofs.YtbebgobboccjcaaGreatDoor
open Go.RowKit Kit
set_option linter.unusedVariables false

def outT (W : World) (c : Nat) (a0 a1 : Value) : World := (W.setCell ⟨c, 0, none⟩ a0).setCell ⟨c, 1, none⟩ a1
theorem outT_only (W : World) (c : Nat) (a0 a1 : Value) : Only c W (outT W c a0 a1) := (only_set _ _ 0 _).trans (only_set _ _ 1 _)
theorem tbox_not {W : World} {c : Nat} (hB : MB2 W c (.slice none 0 0) (.int .i64 0)) {o : Nat} {x : Value} (h : W.cell? ⟨c, o, none⟩ = some x) : x = .slice none 0 0 ∨ x = .int .i64 0 := by
 unfold MB2 at hB
 simp only [World.cell?, hB] at h
 match o with
 | 0 => simp at h; exact .inl h.symm
 | 1 => simp at h; exact .inr h.symm
 | o + 2 => simp at h
theorem sees_tbox {W : World} {c : Nat} (hB : MB2 W c (.slice none 0 0) (.int .i64 0)) {v : Value} {xs : List Value} (h : Sees W v xs) (hx : ∀ x ∈ xs, x ≠ .slice none 0 0 ∧ x ≠ .int .i64 0) (a0 a1 : Value) : Sees (outT W c a0 a1) v xs :=
 sees_only h (outT_only W c a0 a1) fun o x hc hm => by
  rcases tbox_not hB hc with e | e
  · exact (hx x hm).1 e
  · exact (hx x hm).2 e
theorem sees_tboxU {W : World} {c : Nat} (hB : MB2 W c (.slice none 0 0) (.int .i64 0)) {v : Value} {l : List Int} (h : Sees W v (intsV .u8 l)) (a0 a1 : Value) : Sees (outT W c a0 a1) v (intsV .u8 l) :=
 sees_tbox hB h (fun x hx => by
  obtain ⟨s, _, rfl⟩ := List.mem_map.1 hx
  exact ⟨by simp, by simp⟩) _ _
theorem TreeAt.tbox {W : World} {c : Nat} (hB : MB2 W c (.slice none 0 0) (.int .i64 0)) {v : Value} {t : TreeB} (h : TreeAt W v t) (hg : Good t) (a0 a1 : Value) : TreeAt (outT W c a0 a1) v t := by
 obtain ⟨xv, fs, h1, h2, h3, h4⟩ := h
 refine ⟨xv, fs, h1, ?_, h3, fun f hf => ⟨sees_tboxU hB (h4 f hf).1 _ _, sees_tbox hB (h4 f hf).2.1 (fun x hx => ?_) _ _, sees_tbox hB (h4 f hf).2.2 (fun x hx => ?_) _ _⟩⟩
 · obtain ⟨ao, cap, e1, e2, e3, e4, e5⟩ := h2
   refine ⟨ao, cap, e1, e2, e3, e4, fun h0 => ?_⟩
   obtain ⟨g, off, e, hl, hh⟩ := e5 h0
   have a5 := at5_of hh h0
   have hm : fs[0].n ∈ t.nodes := by rw [← h3]; exact List.mem_map.2 ⟨fs[0], List.getElem_mem h0, rfl⟩
   have hp := hg.1.pos _ hm
   have h00 := a5.1
   rw [Nat.zero_mul, Nat.add_zero] at h00
   have hgc : g ≠ c := fun e => by
    subst e
    rcases tbox_not hB h00 with e | e
    · cases e
    · injection e with _ e2; omega
   have ho := outT_only W c a0 a1
   refine ⟨g, off, e, Nat.lt_of_lt_of_le hl ho.size, fun i x hx => ?_⟩
   rw [← hh i x hx]
   simp only [World.cell?, ho.block g hl hgc]
 · obtain ⟨s, _, rfl⟩ := List.mem_map.1 hx
   exact ⟨by simp, by simp⟩
 · obtain ⟨i, hi, rfl⟩ := List.mem_map.1 hx
   refine ⟨by simp, fun e => ?_⟩
   have hn : f.n ∈ t.nodes := by rw [← h3]; exact List.mem_map.2 ⟨f, hf, rfl⟩
   obtain ⟨_, m, hm, em⟩ := hg.1.leads f.n hn i hi
   have := hg.1.pos m hm
   injection e with _ e2
   omega
theorem DTree.tbox {w : World} {p b c : Nat} {t : TreeB} (h : DTree w p b t) (hB : MB2 w c (.slice none 0 0) (.int .i64 0)) (hp : c ≠ p) (hb : c ≠ b) (a0 a1 : Value) : DTree (outT w c a0 a1) p b t := by
 obtain ⟨ds, hd, hn⟩ := h
 have ho := outT_only w c a0 a1
 refine ⟨ds, ⟨(ho.block p hd.lt.1 (Ne.symm hp)).trans hd.1, hd.2.1.block (ho.block b hd.lt.2 (Ne.symm hb)), fun f hf => ⟨sees_only (hd.2.2 f hf).1 ho (fun o x hx hm => ?_), seesS_only (hd.2.2 f hf).2 ho (fun o s hx => ?_)⟩⟩, hn⟩
 · unfold intsV at hm
   obtain ⟨y, _, e⟩ := List.mem_map.1 hm
   rcases tbox_not hB hx with e2 | e2
   · rw [e2] at e; cases e
   · rw [e2] at e; cases e
 · rcases tbox_not hB hx with e2 | e2 <;> cases e2
theorem Own.tbox {W w : World} {p b c : Nat} {t : TreeB} (h : Own W w p b t) (hB : MB2 w c (.slice none 0 0) (.int .i64 0)) (hp : c ≠ p) (hb : c ≠ b) (hc : W.heap.size ≤ c) (a0 a1 : Value) : Own W (outT w c a0 a1) p b t :=
 ⟨h.tree.tbox hB hp hb a0 a1, h.hp, h.hb, (h.bel.setCell hc _).setCell hc _, h.good⟩
end Go.Proofs.YtbebgobboccjcaaGreatDoor
namespace Go.Proofs.YtbebgobboccjcaaGreatDoor
open Go.RowKit Kit
set_option linter.unusedVariables false

theorem upper_drew {K : Nat} {w w' : World} (h : Upper K w w') : Upper K w w'.drew := ⟨h.1, h.2⟩
def bareF (i k : Int) : FN := ⟨⟨i, k, [], [], []⟩, .slice none 0 0, .slice none 0 0, .slice none 0 0⟩
theorem bareF_is (w : World) (i k : Int) : (bareF i k).is w := ⟨sees_nil0 _ _ rfl, sees_nil0 _ _ rfl, sees_nil0 _ _ rfl⟩
theorem makes_end {w WF : World} {t : TreeB} {fs : List FN} {d : Nat} {f' : FN} {lo g2 cp2 : Nat} {kk : Int} (hl : fs.length = t.nodes.length) (hn : fs.map FN.n = t.nodes) (h60 : t.nodes.length ≤ 60) (hold : ∀ f ∈ fs, f.is w) (hf' : f'.is WF) (hfr : Fresh w.heap.size f'.i) (hni : ∀ n ∈ t.nodes, t.next ∉ n.inos) (hbf : Below w.heap.size w WF)
 (hrf : WF.ownsRow lo 60 5 (.slice (some ⟨g2, 0, none⟩) (t.nodes.length + 1) cp2) (t.nodes.length + 1) (flat (fs.set d f' ++ [bareF t.next kk]))) :
 TreeN w.heap.size WF t.next (.agg #[.slice (some ⟨g2, 0, none⟩) (t.nodes.length + 1) cp2, .int .i64 (t.next + 1)]) ⟨t.nodes.set d f'.n ++ [⟨t.next, kk, [], [], []⟩], t.next + 1⟩ := by
 have hlen : (fs.set d f' ++ [bareF t.next kk]).length = t.nodes.length + 1 := by simp [hl]
 refine ⟨fs.set d f' ++ [bareF t.next kk], ⟨_, rfl, ?_, ?_, ?_⟩, ?_⟩
 · exact seesN_of (by rw [hlen]; exact hrf) (by rw [hlen]; unfold maxLen; omega)
 · simp only [List.map_append, List.map_set, List.map_cons, List.map_nil, hn]
   rfl
 · intro q hq
   rcases List.mem_append.1 hq with hq | hq
   · rcases List.mem_or_eq_of_mem_set hq with hq | hq
     · exact (hold q hq).below hbf
     · subst hq; exact hf'
   · rw [List.mem_singleton] at hq
     subst hq
     exact bareF_is _ _ _
 · intro q hq hi
   rcases List.mem_append.1 hq with hq | hq
   · rcases List.mem_or_eq_of_mem_set hq with hq | hq
     · exact absurd hi (hni q.n (by rw [← hn]; exact List.mem_map.2 ⟨q, hq, rfl⟩))
     · subst hq; exact hfr
   · rw [List.mem_singleton] at hq
     subst hq
     simp [bareF] at hi
theorem makes_out {w W8 : World} {lo g2 n cp2 : Nat} {xs : List Value} {K : Nat} (a0 a1 r0 r1 r2 r3 r4 r5 r6 r7 : Value) (hb : Below w.heap.size w W8) (hK : w.heap.size + 4 ≤ K) (hlo : w.heap.size + 4 ≤ lo) (hr : W8.ownsRow lo 60 5 (.slice (some ⟨g2, 0, none⟩) n cp2) n xs) :
 Below w.heap.size w (outW W8 w.heap.size a0 a1 r0 r1 r2 r3 r4 r5 r6 r7).drew ∧ Upper K W8 (outW W8 w.heap.size a0 a1 r0 r1 r2 r3 r4 r5 r6 r7).drew ∧ (outW W8 w.heap.size a0 a1 r0 r1 r2 r3 r4 r5 r6 r7).drew.ownsRow lo 60 5 (.slice (some ⟨g2, 0, none⟩) n cp2) n xs :=
 ⟨(out_below a0 a1 r0 r1 r2 r3 r4 r5 r6 r7 hb).drew, upper_drew (out_upper a0 a1 r0 r1 r2 r3 r4 r5 r6 r7 hK), (out_row a0 a1 r0 r1 r2 r3 r4 r5 r6 r7 hr hlo).drew⟩
end Go.Proofs.YtbebgobboccjcaaGreatDoor
namespace Go.Proofs.YtbebgobboccjcaaGreatDoor
open Go.RowKit Kit
set_option linter.unusedVariables false

section
variable {w W : World} {sv nx dv : Value} {o : OpB} (a0 a1 r0 r1 r2 r3 r4 r5 r6 r7 : Value)
theorem TreeG.outW {v : Value} {t : TreeB} {fs : List FN} (hB : Bx w W sv nx o dv) (h : TreeG W v t fs) (hg : Good t) : TreeG (outW W w.heap.size a0 a1 r0 r1 r2 r3 r4 r5 r6 r7) v t fs := by
 obtain ⟨xv, h1, h2, h3, h4⟩ := h
 refine ⟨xv, h1, ?_, h3, fun f hf => ⟨sees_outU _ _ _ _ _ _ _ _ _ _ hB (h4 f hf).1, sees_outS _ _ _ _ _ _ _ _ _ _ hB (h4 f hf).2.1, sees_outI _ _ _ _ _ _ _ _ _ _ hB (h4 f hf).2.2 fun i hi => ?_⟩⟩
 · obtain ⟨ao, cap, e1, e2, e3, e4, e5⟩ := h2
   refine ⟨ao, cap, e1, e2, e3, e4, fun h0 => ?_⟩
   obtain ⟨g, off, e, hl, hh⟩ := e5 h0
   have a5 := at5_of hh h0
   have hm : fs[0].n ∈ t.nodes := by rw [← h3]; exact List.mem_map.2 ⟨fs[0], List.getElem_mem h0, rfl⟩
   have hp := hg.1.pos _ hm
   have h00 := a5.1
   rw [Nat.zero_mul, Nat.add_zero] at h00
   obtain ⟨hp, hb⟩ := bx_apart hB h00 (by simp) (fun e => by injection e with _ e2; omega)
   refine ⟨g, off, e, by rw [outW_size]; exact hl, fun i x hx => ?_⟩
   rw [← hh i x hx]
   simp only [World.cell?, outW_heap a0 a1 r0 r1 r2 r3 r4 r5 r6 r7 hp hb]
 · have hn : f.n ∈ t.nodes := by rw [← h3]; exact List.mem_map.2 ⟨f, hf, rfl⟩
   obtain ⟨_, m, hm, e⟩ := hg.1.leads f.n hn i hi
   have := hg.1.pos m hm
   omega
theorem TreeN.outW {B : Nat} {v : Value} {t : TreeB} {x : Int} (hB : Bx w W sv nx o dv) (h : TreeN B W x v t) (hg : Good t) : TreeN B (outW W w.heap.size a0 a1 r0 r1 r2 r3 r4 r5 r6 r7) x v t := by
 obtain ⟨fs, h1, h2⟩ := h
 exact ⟨fs, TreeG.outW _ _ _ _ _ _ _ _ _ _ hB h1 hg, h2⟩
end
theorem TreeG.tbox {W : World} {c : Nat} (hB : MB2 W c (.slice none 0 0) (.int .i64 0)) {v : Value} {t : TreeB} {fs : List FN} (h : TreeG W v t fs) (hg : Good t) (a0 a1 : Value) : TreeG (outT W c a0 a1) v t fs := by
 obtain ⟨xv, h1, h2, h3, h4⟩ := h
 refine ⟨xv, h1, ?_, h3, fun f hf => ⟨sees_tboxU hB (h4 f hf).1 _ _, sees_tbox hB (h4 f hf).2.1 (fun x hx => ?_) _ _, sees_tbox hB (h4 f hf).2.2 (fun x hx => ?_) _ _⟩⟩
 · obtain ⟨ao, cap, e1, e2, e3, e4, e5⟩ := h2
   refine ⟨ao, cap, e1, e2, e3, e4, fun h0 => ?_⟩
   obtain ⟨g, off, e, hl, hh⟩ := e5 h0
   have a5 := at5_of hh h0
   have hm : fs[0].n ∈ t.nodes := by rw [← h3]; exact List.mem_map.2 ⟨fs[0], List.getElem_mem h0, rfl⟩
   have hp := hg.1.pos _ hm
   have h00 := a5.1
   rw [Nat.zero_mul, Nat.add_zero] at h00
   have hgc : g ≠ c := fun e => by
    subst e
    rcases tbox_not hB h00 with e | e
    · cases e
    · injection e with _ e2; omega
   have ho := outT_only W c a0 a1
   refine ⟨g, off, e, Nat.lt_of_lt_of_le hl ho.size, fun i x hx => ?_⟩
   rw [← hh i x hx]
   simp only [World.cell?, ho.block g hl hgc]
 · obtain ⟨s, _, rfl⟩ := List.mem_map.1 hx
   exact ⟨by simp, by simp⟩
 · obtain ⟨i, hi, rfl⟩ := List.mem_map.1 hx
   refine ⟨by simp, fun e => ?_⟩
   have hn : f.n ∈ t.nodes := by rw [← h3]; exact List.mem_map.2 ⟨f, hf, rfl⟩
   obtain ⟨_, m, hm, em⟩ := hg.1.leads f.n hn i hi
   have := hg.1.pos m hm
   injection e with _ e2
   omega
theorem TreeN.tbox {B : Nat} {W : World} {c : Nat} (hB : MB2 W c (.slice none 0 0) (.int .i64 0)) {v : Value} {t : TreeB} {x : Int} (h : TreeN B W x v t) (hg : Good t) (a0 a1 : Value) : TreeN B (outT W c a0 a1) x v t := by
 obtain ⟨fs, h1, h2⟩ := h
 exact ⟨fs, h1.tbox hB hg _ _, h2⟩
theorem next_same (t : TreeB) (o : OpB) (h1 : o.kind ≠ 1) (h2 : o.kind ≠ 2) : (doB t o).1.next = t.next := by
 unfold doB
 rw [if_neg (by omega)]
 split
 · unfold removesB
   repeat' split
   all_goals rfl
 split
 · unfold renameB
   repeat' split
   all_goals rfl
 split
 · unfold linkB
   repeat' split
   all_goals rfl
 split
 · unfold fileB
   repeat' split
   all_goals rfl
 split
 · unfold looksB
   repeat' split
   all_goals rfl
 · rfl
end Go.Proofs.YtbebgobboccjcaaGreatDoor
namespace Go.Proofs.YtbebgobboccjcaaGreatDoor
open Go.RowKit Kit
set_option linter.unusedVariables false

theorem seesN_turnZ {p b : Nat} {w w' : World} {v : Value} {fs : List FN} (h : SeesN w v fs) (hz : ZeroT w p) (hbn : w.heap.size ≤ b) (ht : Turn p b w w') : SeesN w' v fs := by
 obtain ⟨ao, cap, h1, h2, h3, h4, h5⟩ := h
 refine ⟨ao, cap, h1, h2, h3, h4, fun h0 => ?_⟩
 obtain ⟨g, off, e, hl, hh⟩ := h5 h0
 have a5 := at5_of hh h0
 have hp : g ≠ p := fun e2 => by
  have a0 := a5.1
  have a1 := a5.2.1
  subst e2
  have hz' : w.heap[g]? = _ := hz
  simp only [World.cell?, hz', Nat.zero_mul, Nat.add_zero] at a0 a1
  match off with
  | 0 => simp at a0
  | 1 => simp at a1
  | o + 2 => simp at a0
 have hb : g ≠ b := by omega
 refine ⟨g, off, e, Nat.lt_of_lt_of_le hl ht.size, fun i x hx => ?_⟩
 rw [← hh i x hx]
 simp only [World.cell?, ht.block g hl hp hb]
theorem sees_nil {w w' : World} {v : Value} (h : Sees w v []) : Sees w' v [] := by
 obtain ⟨ao, cap, h1, h2, h3, h4, h5⟩ := h
 exact ⟨ao, cap, h1, h2, h3, h4, fun h0 => absurd h0 (by simp)⟩
theorem treeAt_turnZ {p b : Nat} {w w' : World} {v : Value} (h : TreeAt w v newB) (hz : ZeroT w p) (hbn : w.heap.size ≤ b) (ht : Turn p b w w') : TreeAt w' v newB := by
 obtain ⟨sv, fs, h1, h2, h3, h4⟩ := h
 refine ⟨sv, fs, h1, seesN_turnZ h2 hz hbn ht, h3, fun f hf => ?_⟩
 have hn : f.n ∈ newB.nodes := by rw [← h3]; exact List.mem_map.2 ⟨f, hf, rfl⟩
 have he : f.n = ⟨1, 2, [], [], []⟩ := by simpa [newB] using hn
 obtain ⟨k1, k2, k3⟩ := h4 f hf
 rw [he] at k1 k2 k3
 unfold FN.is
 rw [he]
 exact ⟨sees_nil k1, sees_nil k2, sees_nil k3⟩
end Go.Proofs.YtbebgobboccjcaaGreatDoor
namespace Go.Proofs.YtbebgobboccjcaaGreatDoor
open Go.RowKit Kit
set_option linter.unusedVariables false

def OF (w : World) (K : Nat) (W : World) (v : Value) (xs : List Value) : Prop := Sees w v xs ∨ (Sees W v xs ∧ Fresh K v)
theorem OF.upper {w W W' : World} {K : Nat} {v : Value} {xs : List Value} (h : OF w K W v xs) (hu : Upper K W W') : OF w K W' v xs := h.imp id fun q => ⟨sees_upper q.1 q.2 hu, q.2⟩
theorem OF.sees {w W : World} {K : Nat} {v : Value} {xs : List Value} (h : OF w K W v xs) (hb : Below w.heap.size w W) : Sees W v xs := h.elim (fun q => q.below hb) fun q => q.1
def OFN (w : World) (K : Nat) (W : World) (f : FN) : Prop := OF w K W f.d (intsV .u8 f.n.data) ∧ OF w K W f.m (strs f.n.names) ∧ OF w K W f.i (intsV .i64 f.n.inos)
theorem OFN.upper {w W W' : World} {K : Nat} {f : FN} (h : OFN w K W f) (hu : Upper K W W') : OFN w K W' f := ⟨h.1.upper hu, h.2.1.upper hu, h.2.2.upper hu⟩
theorem OFN.is {w W : World} {K : Nat} {f : FN} (h : OFN w K W f) (hb : Below w.heap.size w W) : f.is W := ⟨h.1.sees hb, h.2.1.sees hb, h.2.2.sees hb⟩
theorem ofn_old {w W : World} {K : Nat} {f : FN} (h : f.is w) : OFN w K W f := ⟨.inl h.1, .inl h.2.1, .inl h.2.2⟩
theorem ofn_fresh {w W : World} {K : Nat} {f : FN} (h : FreshN K W f) : OFN w K W f := ⟨.inr ⟨h.1.1, h.2.1⟩, .inr ⟨h.1.2.1, h.2.2.1⟩, .inr ⟨h.1.2.2, h.2.2.2⟩⟩
structure XI (w W : World) (lo K xb g cp : Nat) (x : TreeB) (fs : List FN) : Prop where
 xt : XT lo W xb g x.nodes.length cp (.int .i64 x.next) fs
 map : fs.map FN.n = x.nodes
 each : ∀ f ∈ fs, OFN w K W f
 bel : Below w.heap.size w W
 lo4 : w.heap.size + 4 ≤ lo
 gK : g < K
 xK : xb < K
 xlo : lo ≤ xb
 KW : K ≤ W.heap.size
theorem XI.below {w W W' : World} {lo K xb g cp : Nat} {x : TreeB} {fs : List FN} (h : XI w W lo K xb g cp x fs) (hb : Below W.heap.size W W') : XI w W' lo K xb g cp x fs :=
 ⟨h.xt.below hb, h.map, fun f hf => (h.each f hf).upper (upper_below hb), bel2v h.bel hb, h.lo4, h.gK, h.xK, h.xlo, Nat.le_trans h.KW hb.size⟩
theorem XI.len {w W : World} {lo K xb g cp : Nat} {x : TreeB} {fs : List FN} (h : XI w W lo K xb g cp x fs) : fs.length = x.nodes.length := fs_len h.map
theorem XI.is {w W : World} {lo K xb g cp : Nat} {x : TreeB} {fs : List FN} (h : XI w W lo K xb g cp x fs) : ∀ f ∈ fs, f.is W := fun f hf => (h.each f hf).is h.bel
theorem XI.glo {w W : World} {lo K xb g cp : Nat} {x : TreeB} {fs : List FN} (h : XI w W lo K xb g cp x fs) : lo ≤ g := (h.xt.2.1.lt g rfl).1
theorem XI.put {w W : World} {lo K xb g cp : Nat} {x : TreeB} {fs : List FN} (h : XI w W lo K xb g cp x fs) {d : Nat} (hd : d < fs.length) {f' : FN} (hf : FreshN K W f') : XI w (set5 W g (d * 5) f') lo K xb g cp (setB x d f'.n) (fs.set d f') := by
 have hu : Upper K W (set5 W g (d * 5) f') := set5_upper W h.gK _ _
 refine ⟨?_, ?_, fun f hm => ?_, set5_below h.bel (by have := h.glo; have := h.lo4; omega) _ _, h.lo4, h.gK, h.xK, h.xlo, by rw [set5_size]; exact h.KW⟩
 · rw [set_len]; exact h.xt.set5 hd f'
 · rw [List.map_set, h.map]; rfl
 · rcases List.mem_or_eq_of_mem_set hm with hm | hm
   · exact (h.each f hm).upper hu
   · subst hm; exact ofn_fresh (hf.upper hu)
theorem XI.at {w W : World} {lo K xb g cp : Nat} {x : TreeB} {fs : List FN} (h : XI w W lo K xb g cp x fs) (hm : x.nodes.length ≤ maxLen) : TreeAt W (.agg #[.slice (some ⟨g, 0, none⟩) x.nodes.length cp, .int .i64 x.next]) x :=
 ⟨_, fs, rfl, seesN_of (by rw [h.len]; exact h.xt.2.1) (by rw [h.len]; exact hm), h.map, h.is⟩
theorem XI.cells {w W : World} {lo K xb g cp : Nat} {x : TreeB} {fs : List FN} (h : XI w W lo K xb g cp x fs) : W.cell? ⟨xb, 0, none⟩ = some (.slice (some ⟨g, 0, none⟩) x.nodes.length cp) ∧ W.cell? ⟨xb, 1, none⟩ = some (.int .i64 x.next) ∧ xb < W.heap.size ∧ g < W.heap.size ∧ ∀ j, W.frozen? ⟨g, j, none⟩ = false :=
 ⟨h.xt.1.c.1, h.xt.1.c.2, h.xt.1.lt, (h.xt.2.1.lt g rfl).2, fun j => h.xt.2.1.frozenAt j⟩
theorem XI.node {w W : World} {lo K xb g cp : Nat} {x : TreeB} {fs : List FN} (h : XI w W lo K xb g cp x fs) {d : Nat} (hd : d < x.nodes.length) : ∃ f : FN, f.n = nodeAt x d ∧ f.is W ∧ At5 W g (d * 5) f := by
 have hf : d < fs.length := by rw [h.len]; exact hd
 exact ⟨fs[d], (fs_at h.map hf).symm, h.is _ (List.getElem_mem hf), row_at5 h.xt.2.1 hf⟩
theorem flat_setD : ∀ (fs : List FN) (k : Nat) (h : k < fs.length) (v : Value) (l : List Int), flat (fs.set k ⟨{ fs[k].n with data := l }, v, fs[k].m, fs[k].i⟩) = (flat fs).set (k * 5 + 2) v
 | [], k, h, v, l => by simp at h
 | x :: r, 0, _, v, l => by simp [flat, FN.cells]
 | x :: r, k + 1, h, v, l => by
   have ih := flat_setD r k (by simpa using h) v l
   have e : ∀ y : FN, ∀ q, flat (y :: q) = (.int .i64 y.n.ino) :: (.int .i64 y.n.kind) :: y.d :: y.m :: y.i :: flat q := fun y q => rfl
   have e0 : (k + 1) * 5 + 2 = k * 5 + 2 + 1 + 1 + 1 + 1 + 1 := by omega
   rw [List.set_cons_succ, e, e, e0]
   simp only [List.getElem_cons_succ]
   rw [ih]
   rfl
theorem XI.data {w W : World} {lo K xb g cp : Nat} {x : TreeB} {fs : List FN} (h : XI w W lo K xb g cp x fs) {k : Nat} (hk : k < fs.length) {v : Value} {l : List Int} (hv : Sees W v (intsV .u8 l)) (hf : Fresh K v) :
 XI w (W.setCell ⟨g, k * 5 + 2, none⟩ v) lo K xb g cp (dataB x k l) (fs.set k ⟨{ fs[k].n with data := l }, v, fs[k].m, fs[k].i⟩) := by
 have hu : Upper K W (W.setCell ⟨g, k * 5 + 2, none⟩ v) := upper_set W h.gK v
 have hkx : k < x.nodes.length := by rw [← h.len]; exact hk
 have hnk : nodeAt x k = fs[k].n := fs_at h.map hk
 refine ⟨⟨?_, ?_, h.xt.2.2.1, ?_⟩, ?_, fun f hm => ?_, h.bel.setCell (by have := h.glo; have := h.lo4; show _ ≤ g; omega) _, h.lo4, h.gK, h.xK, h.xlo, by have := h.KW; simp [World.setCell]; exact this⟩
 · unfold dataB
   rw [set_len]
   exact (Below.heap_setCell _ _ _ xb (fun e => h.xt.2.2.1 (by have e2 : xb = g := e; exact e2.symm))).trans h.xt.1
 · rw [flat_setD fs k hk v l]
   unfold dataB
   rw [set_len]
   exact (h.xt.2.1.stored _ _).1
 · rw [List.length_set]; unfold dataB; rw [set_len]; exact h.xt.2.2.2
 · rw [List.map_set, h.map]; unfold dataB; rw [hnk]; rfl
 · rcases List.mem_or_eq_of_mem_set hm with hm | hm
   · exact (h.each f hm).upper hu
   · subst hm
     have hq := (h.each _ (List.getElem_mem hk)).upper hu
     exact ⟨.inr ⟨sees_upper hv hf hu, hf⟩, hq.2.1, hq.2.2⟩
theorem xi_new {w w2 w3 : World} {t : TreeB} {fs : List FN} {g cp : Nat} (hrow : w3.ownsRow w2.heap.size 60 5 (.slice (some ⟨g, 0, none⟩) t.nodes.length cp) t.nodes.length (flat fs)) (hmap : fs.map FN.n = t.nodes) (hold : ∀ f ∈ fs, f.is w) (hb2 : Below w.heap.size w w2) (hb3 : Below w2.heap.size w2 w3) (h4 : w.heap.size + 4 ≤ w2.heap.size) :
 XI w (w3.alloc (.cells #[.slice (some ⟨g, 0, none⟩) t.nodes.length cp, .int .i64 t.next] 29)) w2.heap.size (w3.heap.size + 1) w3.heap.size g cp t fs :=
 ⟨XT.mk' (heap_alloc_new _ _) (hrow.alloc _) (fs_len hmap).symm, hmap, fun f hf => ofn_old (hold f hf), bel2v (bel2v hb2 hb3) ((Below.refl _ _).alloc (Nat.le_refl _) _), h4, by have := (hrow.lt g rfl).2; omega, by omega, hb3.size, by simp⟩
theorem Bx.set5 {w wr : World} {sv nx dv : Value} {o : OpB} (h : Bx w wr sv nx o dv) {g : Nat} (hg : w.heap.size + 4 ≤ g) (q : Nat) (f : FN) : Bx w (set5 wr g q f) sv nx o dv :=
 ⟨(set5_heap _ _ _ _ (by omega)).trans h.1, (set5_heap _ _ _ _ (by omega)).trans h.2.1, (set5_heap _ _ _ _ (by omega)).trans h.2.2.1, (set5_heap _ _ _ _ (by omega)).trans h.2.2.2.1, set5_below h.2.2.2.2 (by omega) _ _⟩
end Go.Proofs.YtbebgobboccjcaaGreatDoor
namespace Go.Proofs.YtbebgobboccjcaaGreatDoor
open Go.RowKit Kit
set_option linter.unusedVariables false

theorem XI.g {w W : World} {lo K xb g cp : Nat} {x : TreeB} {fs : List FN} (h : XI w W lo K xb g cp x fs) (hm : x.nodes.length ≤ maxLen) : TreeG W (.agg #[.slice (some ⟨g, 0, none⟩) x.nodes.length cp, .int .i64 x.next]) x fs :=
 ⟨_, rfl, seesN_of (by rw [h.len]; exact h.xt.2.1) (by rw [h.len]; exact hm), h.map, h.is⟩
theorem XI.swept_end {w W w8 : World} {lo K xb g cp : Nat} {x : TreeB} {fs : List FN} (h : XI w W lo K xb g cp x fs) (hm : x.nodes.length ≤ 60) (hb : Below W.heap.size W w8) {xo : Option Addr} {n xc : Nat} (hn : n = (keptN x fs).length) (hr : w8.ownsRow W.heap.size 60 5 (.slice xo n xc) n (flat (keptN x fs))) (a0 a1 r0 r1 r2 r3 r4 r5 r6 r7 : Value) :
 TreeAt (outW w8 w.heap.size a0 a1 r0 r1 r2 r3 r4 r5 r6 r7) (.agg #[.slice xo n xc, .int .i64 x.next]) (sweptB x) ∧ Below w.heap.size w (outW w8 w.heap.size a0 a1 r0 r1 r2 r3 r4 r5 r6 r7) := by
 have hb1 := out_below a0 a1 r0 r1 r2 r3 r4 r5 r6 r7 (bel2v h.bel hb)
 have h1 := h.lo4
 have h2 := h.xlo
 have h3 := h.xK
 have h4 := h.KW
 have hu : Upper K W (outW w8 w.heap.size a0 a1 r0 r1 r2 r3 r4 r5 r6 r7) := (upper_below hb).trans (out_upper a0 a1 r0 r1 r2 r3 r4 r5 r6 r7 (by omega))
 have hr2 := out_row a0 a1 r0 r1 r2 r3 r4 r5 r6 r7 hr (B := w.heap.size) (by omega)
 have hle : (keptN x fs).length ≤ 60 := by
  have := List.length_filter_le (fun f : FN => decide (0 < linksB x f.n.ino)) fs
  unfold keptN
  have := h.len
  omega
 subst hn
 refine ⟨⟨_, keptN x fs, rfl, seesN_of hr2 (by unfold maxLen; omega), keptN_swept h.map, fun f hf => ?_⟩, hb1⟩
 exact ((h.each f (List.mem_filter.1 hf).1).upper hu).is hb1
theorem freshN_of {K : Nat} {w w' : World} {n : NodeB} {X Y : Value} (h : FN.is w' ⟨n, .slice none 0 0, X, Y⟩) (hx : Fresh w.heap.size X) (hy : Fresh w.heap.size Y) (hK : K ≤ w.heap.size) : FreshN K w' ⟨n, .slice none 0 0, X, Y⟩ :=
 ⟨h, fresh_nil _ _ _, fun g hg => Nat.le_trans hK (hx g hg), fun g hg => Nat.le_trans hK (hy g hg)⟩
end Go.Proofs.YtbebgobboccjcaaGreatDoor
namespace Go.Proofs.YtbebgobboccjcaaGreatDoor
open Go.RowKit Kit
set_option linter.unusedVariables false

structure LenB (b : Nat) (X : TreeB) : Prop where
 size : X.nodes.length ≤ 60
 each : ∀ n ∈ X.nodes, n.names.length = n.inos.length ∧ n.inos.length ≤ b
theorem lenB_good {t : TreeB} (h : Good t) : LenB 1200 t := ⟨h.1.size, fun n hn => ⟨(h.1.each n hn).len, (names_smallT h.1 hn).2⟩⟩
theorem LenB.at {b : Nat} {X : TreeB} (h : LenB b X) {k : Nat} (hk : k < X.nodes.length) : (nodeAt X k).names.length = (nodeAt X k).inos.length ∧ (nodeAt X k).inos.length ≤ b := h.each _ (nodeAt_mem hk)
theorem LenB.set {b b' : Nat} {X : TreeB} (h : LenB b X) (k : Nat) {n : NodeB} (hn : n.names.length = n.inos.length ∧ n.inos.length ≤ b') (hb : b ≤ b') : LenB b' (setB X k n) := by
 refine ⟨by rw [set_len]; exact h.size, fun m hm => ?_⟩
 rcases List.mem_or_eq_of_mem_set (show m ∈ X.nodes.set k n from hm) with hm | hm
 · have := h.each m hm; omega
 · subst hm; exact hn
theorem without_lenX {n : NodeB} (s : ByteArray) (h : n.names.length = n.inos.length) : (withoutB n s).names.length = (withoutB n s).inos.length ∧ (withoutB n s).inos.length ≤ n.inos.length := by
 have h1 : (withoutB n s).names.length = ((pairsB n).filter fun p => decide (p.1 ≠ s)).length := by show (List.map _ _).length = _; rw [List.length_map]
 have h2 : (withoutB n s).inos.length = ((pairsB n).filter fun p => decide (p.1 ≠ s)).length := by show (List.map _ _).length = _; rw [List.length_map]
 have h3 := List.length_filter_le (fun p : ByteArray × Int => decide (p.1 ≠ s)) (pairsB n)
 have h4 : (pairsB n).length = min n.names.length n.inos.length := by unfold pairsB; rw [List.length_zip]
 omega
theorem with_lenX {n : NodeB} (s : ByteArray) (i : Int) (h : n.names.length = n.inos.length) : (withB n s i).names.length = (withB n s i).inos.length ∧ (withB n s i).inos.length = n.inos.length + 1 := by
 have h1 : (withB n s i).names = n.names.take (goesB n.names s) ++ s :: n.names.drop (goesB n.names s) := rfl
 have h2 : (withB n s i).inos = n.inos.take (goesB n.names s) ++ i :: n.inos.drop (goesB n.names s) := rfl
 rw [h1, h2]
 simp only [List.length_append, List.length_take, List.length_cons, List.length_drop]
 omega
theorem LenB.without {b : Nat} {X : TreeB} (h : LenB b X) {k : Nat} (hk : k < X.nodes.length) (s : ByteArray) : LenB b (setB X k (withoutB (nodeAt X k) s)) := by
 have h1 := h.at hk
 have h2 := without_lenX s h1.1
 exact h.set k ⟨h2.1, by omega⟩ (Nat.le_refl _)
theorem LenB.with {b : Nat} {X : TreeB} (h : LenB b X) {k : Nat} (hk : k < X.nodes.length) (s : ByteArray) (i : Int) : LenB (b + 1) (setB X k (withB (nodeAt X k) s i)) := by
 have h1 := h.at hk
 have h2 := with_lenX s i h1.1
 exact h.set k ⟨h2.1, by omega⟩ (by omega)
theorem LenB.sum {b : Nat} {X : TreeB} (h : LenB b X) (i : Int) : (X.nodes.map fun n => countB n i).sum ≤ 60 * b := by
 have h0 : ∀ l : List NodeB, (∀ n ∈ l, n.names.length = n.inos.length ∧ n.inos.length ≤ b) → (l.map fun n => countB n i).sum ≤ l.length * b := by
  intro l
  induction l with
  | nil => intro _; simp
  | cons a r ih =>
    intro hl
    have h1 := ih fun n hn => hl n (List.mem_cons_of_mem _ hn)
    have h2 := (hl a (by simp)).2
    have h3 : countB a i ≤ a.inos.length := by
     unfold countB
     split
     · exact List.count_le_length
     · omega
    rw [List.map_cons, List.sum_cons, List.length_cons, Nat.add_mul]
    omega
 have h1 := h0 X.nodes h.each
 have h2 := Nat.mul_le_mul_right b h.size
 omega
theorem XI.node5 {w W : World} {lo K xb g cp : Nat} {X : TreeB} {fs : List FN} (h : XI w W lo K xb g cp X fs) {d : Nat} (hd : d < X.nodes.length) :
 ∃ do2 nd dc2 mo2 nm mc2 io2 ni ic2, FN.is W ⟨nodeAt X d, .slice do2 nd dc2, .slice mo2 nm mc2, .slice io2 ni ic2⟩ ∧ At5 W g (d * 5) ⟨nodeAt X d, .slice do2 nd dc2, .slice mo2 nm mc2, .slice io2 ni ic2⟩ := by
 obtain ⟨f, hfn, hfi, ha⟩ := h.node hd
 obtain ⟨nn, dd, mm, ii⟩ := f
 simp only at hfn
 subst hfn
 obtain ⟨do2, dc2, hdd, _⟩ := id hfi.1
 obtain ⟨mo2, mc2, hmm, _⟩ := id hfi.2.1
 obtain ⟨io2, ic2, hii, _⟩ := id hfi.2.2
 simp only at hdd hmm hii
 subst hdd hmm hii
 exact ⟨_, _, _, _, _, _, _, _, _, hfi, ha⟩
def SetTo (w W w' : World) (K xb g cp N d : Nat) (n n' : NodeB) (D M I : Value) (e : Ending) : Prop :=
 ∃ xo xn xc yo yn yc, e = .returned (.agg #[.int .i64 n.ino, .int .i64 n.kind, .slice none 0 0, .slice xo xn xc, .slice yo yn yc]) ∧ Hid (FreshN K w' ⟨n', .slice none 0 0, .slice xo xn xc, .slice yo yn yc⟩ ∧ Below W.heap.size W w') ∧ w'.cell? ⟨xb, 0, none⟩ = some (.slice (some ⟨g, 0, none⟩) N cp) ∧ xb < w'.heap.size ∧ g < w'.heap.size ∧ (∀ j, w'.frozen? ⟨g, j, none⟩ = false) ∧
  w'.cell? ⟨g, d * 5, none⟩ = some (.int .i64 n.ino) ∧ w'.cell? ⟨g, d * 5 + 1, none⟩ = some (.int .i64 n.kind) ∧ w'.cell? ⟨g, d * 5 + 2, none⟩ = some D ∧ w'.cell? ⟨g, d * 5 + 3, none⟩ = some M ∧ w'.cell? ⟨g, d * 5 + 4, none⟩ = some I
theorem setTo_of {w W U w' : World} {lo K xb g cp : Nat} {X : TreeB} {fs : List FN} (h : XI w W lo K xb g cp X fs) {d : Nat} {D M I x y : Value} (ha : At5 W g (d * 5) ⟨nodeAt X d, D, M, I⟩) {n' : NodeB} (hU : Below W.heap.size W U)
 (hi5 : FN.is w' ⟨n', .slice none 0 0, x, y⟩) (hx5 : Fresh U.heap.size x) (hy5 : Fresh U.heap.size y) (hb' : Below U.heap.size U w') :
 SetTo w W w' K xb g cp X.nodes.length d (nodeAt X d) n' D M I (.returned (.agg #[.int .i64 (nodeAt X d).ino, .int .i64 (nodeAt X d).kind, .slice none 0 0, x, y])) := by
 have hbw := bel2v hU hb'
 have hX := h.below hbw
 obtain ⟨z0, z1, z2, z3, z4⟩ := hX.cells
 obtain ⟨xo, xc, hXe, _⟩ := id hi5.2.1
 obtain ⟨yo, yc, hYe, _⟩ := id hi5.2.2
 have hfr := freshN_of (K := K) hi5 hx5 hy5 (Nat.le_trans h.KW hU.size)
 have x3 := h.cells.2.2.2.1
 simp only at hXe hYe
 rw [hXe, hYe] at hfr
 exact ⟨xo, _, xc, yo, _, yc, by rw [← hXe, ← hYe], ⟨hfr, hbw⟩, z0, z2, z3, z4, (hbw.cell (by exact x3)).trans ha.1, (hbw.cell (by exact x3)).trans ha.2.1, (hbw.cell (by exact x3)).trans ha.2.2.1, (hbw.cell (by exact x3)).trans ha.2.2.2.1, (hbw.cell (by exact x3)).trans ha.2.2.2.2⟩
theorem XI.without_calls {w W U : World} {lo K xb g cp : Nat} {X : TreeB} {fs : List FN} (h : XI w W lo K xb g cp X fs) {d : Nat} {D M I : Value} (hf : FN.is W ⟨nodeAt X d, D, M, I⟩) (ha : At5 W g (d * 5) ⟨nodeAt X d, D, M, I⟩)
 (hl : (nodeAt X d).names.length = (nodeAt X d).inos.length ∧ (nodeAt X d).names.length ≤ 1000000) (s : ByteArray) (hU : Below W.heap.size W U) :
 Calls Tryz.prog 88 #[.agg #[.int .i64 (nodeAt X d).ino, .int .i64 (nodeAt X d).kind, D, M, I], .string s] U fun e w' => SetTo w W w' K xb g cp X.nodes.length d (nodeAt X d) (withoutB (nodeAt X d) s) D M I e := by
 refine (without_any ⟨nodeAt X d, D, M, I⟩ s U (hf.below hU) hl.1 hl.2).mono ?_
 rintro e w' ⟨x, y, rfl, hi5, hx5, hy5, hb'⟩
 exact setTo_of h ha hU hi5 hx5 hy5 hb'
theorem XI.with_calls {w W U : World} {lo K xb g cp : Nat} {X : TreeB} {fs : List FN} (h : XI w W lo K xb g cp X fs) {d : Nat} {D M I : Value} (hf : FN.is W ⟨nodeAt X d, D, M, I⟩) (ha : At5 W g (d * 5) ⟨nodeAt X d, D, M, I⟩)
 (hl : (nodeAt X d).names.length = (nodeAt X d).inos.length ∧ (nodeAt X d).names.length ≤ 1000000) (s : ByteArray) (i : Int) (hU : Below W.heap.size W U) :
 Calls Tryz.prog 86 #[.agg #[.int .i64 (nodeAt X d).ino, .int .i64 (nodeAt X d).kind, D, M, I], .string s, .int .i64 i] U fun e w' => SetTo w W w' K xb g cp X.nodes.length d (nodeAt X d) (withB (nodeAt X d) s i) D M I e := by
 refine (with_any ⟨nodeAt X d, D, M, I⟩ s i U (hf.below hU) hl.1 hl.2).mono ?_
 rintro e w' ⟨x, y, rfl, hi5, hx5, hy5, hb'⟩
 exact setTo_of h ha hU hi5 hx5 hy5 hb'
theorem XI.put' {w W w6 : World} {lo K xb g cp : Nat} {X : TreeB} {fs : List FN} (h : XI w W lo K xb g cp X fs) {d : Nat} (hd : d < X.nodes.length) {f' : FN} (hf : FreshN K w6 f') (hb : Below W.heap.size W w6) : XI w (set5 w6 g (d * 5) f') lo K xb g cp (setB X d f'.n) (fs.set d f') :=
 (h.below hb).put (by rw [h.len]; exact hd) hf
end Go.Proofs.YtbebgobboccjcaaGreatDoor
namespace Go.Proofs.YtbebgobboccjcaaGreatDoor
open Go.RowKit Kit
set_option linter.unusedVariables false

theorem XI.out_end {w W : World} {lo K xb g cp : Nat} {x : TreeB} {fs : List FN} (h : XI w W lo K xb g cp x fs) (hm : x.nodes.length ≤ 60) (a0 a1 r0 r1 r2 r3 r4 r5 r6 r7 : Value) :
 TreeAt (outW W w.heap.size a0 a1 r0 r1 r2 r3 r4 r5 r6 r7) (.agg #[.slice (some ⟨g, 0, none⟩) x.nodes.length cp, .int .i64 x.next]) x ∧ Below w.heap.size w (outW W w.heap.size a0 a1 r0 r1 r2 r3 r4 r5 r6 r7) := by
 have hb1 := out_below a0 a1 r0 r1 r2 r3 r4 r5 r6 r7 h.bel
 have h1 := h.lo4
 have h2 := h.xlo
 have h3 := h.xK
 have hu : Upper K W (outW W w.heap.size a0 a1 r0 r1 r2 r3 r4 r5 r6 r7) := out_upper a0 a1 r0 r1 r2 r3 r4 r5 r6 r7 (by omega)
 have hr2 := out_row a0 a1 r0 r1 r2 r3 r4 r5 r6 r7 h.xt.2.1 (B := w.heap.size) (by omega)
 refine ⟨⟨_, fs, rfl, seesN_of (by rw [h.len]; exact hr2) (by rw [h.len]; unfold maxLen; omega), h.map, fun f hf => ?_⟩, hb1⟩
 exact ((h.each f hf).upper hu).is hb1
end Go.Proofs.YtbebgobboccjcaaGreatDoor
