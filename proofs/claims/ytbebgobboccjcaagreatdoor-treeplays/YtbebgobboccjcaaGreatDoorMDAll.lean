/- All. -/
import Derived.Test.YtbebgobboccjcaaGreatDoorMDPlain
import Derived.Test.YtbebgobboccjcaaGreatDoorMDKeys
import Derived.Test.YtbebgobboccjcaaGreatDoorG2
import Derived.Test.YtbebgobboccjcaaGreatDoorG1
namespace Go.Proofs.YtbebgobboccjcaaGreatDoor
open Go.RowKit Kit
set_option linter.unusedVariables false

theorem infoNd : (Tryz.prog.info? 60).map (fun i => (i.zero, i.size, i.bytes)) = some (some (.agg #[.int .i64 0, .int .i64 0, .slice none 0 0, .slice none 0 0, .slice none 0 0]), 5, 88) := by kernel_rfl
theorem data_len5 {n : NodeB} (h : NodeOK n) : n.data.length ≤ 10000 := by
  rcases h.2.2 with h | h
  · rw [h.2.1]; simp
  · have := h.2.2.2.1; omega
theorem names_len5 {t : TreeB} (h : Good t) {k : Nat} (hk : k < t.nodes.length) : (nodeAt t k).names.length ≤ 10000 := by
  have := (names_small h.1 (nodeAt_mem hk)).1
  omega
/-- The box of a plain tree. -/
def TBoxN (w : World) (B : Nat) (v0 v1 : Value) : Prop := w.heap[B]? = some (.cells #[v0, v1] 29)
theorem TBoxN.c {w : World} {B : Nat} {v0 v1 : Value} (h : TBoxN w B v0 v1) : w.cell? ⟨B, 0, none⟩ = some v0 ∧ w.cell? ⟨B, 1, none⟩ = some v1 ∧ (∀ j, w.frozen? ⟨B, j, none⟩ = false) ∧ B < w.heap.size := by
  have hl := (Array.getElem?_eq_some_iff.1 h).1
  unfold TBoxN at h
  refine ⟨?_, ?_, ?_, hl⟩ <;> simp [World.cell?, World.frozen?, h]
theorem TBoxN.below {w w' : World} {B b : Nat} {v0 v1 : Value} (h : TBoxN w B v0 v1) (hb : Below b w w') (hB : B < b) : TBoxN w' B v0 v1 := (hb.block B hB).trans h
theorem row_belowN {w w' : World} {base n sz : Nat} {e : TypeId} {v : Value} {xs : List Value} (h : w.ownsRow base e sz v n xs) (hb : Below w.heap.size w w') : w'.ownsRow base e sz v n xs := by
  obtain ⟨h1, h2⟩ := h
  refine ⟨h1, ?_⟩
  rcases h2 with h2 | ⟨g, cap, cur, hv, hg, hh, r⟩
  · exact .inl h2
  · exact .inr ⟨g, cap, cur, hv, hg, (hb.block g (Array.getElem?_eq_some_iff.1 hh).1).trans hh, r⟩
theorem row_formN {w : World} {base n sz : Nat} {e : TypeId} {v : Value} {xs : List Value} (h : w.ownsRow base e sz v n xs) : ∃ a c, v = .slice a n c := by
  rcases h.2 with ⟨h2, h3⟩ | ⟨g, cap, cur, hv, _⟩
  · exact ⟨none, 0, by rw [h3]; exact h2⟩
  · exact ⟨_, _, hv⟩
/-- A plain node's three slices, as rows of the call's own. -/
def FRow (w : World) (base : Nat) (f : FN) : Prop := RowV w base 5 f.d (intsV .u8 f.n.data) ∧ RowV w base 9 f.m (strs f.n.names) ∧ RowV w base 3 f.i (intsV .i64 f.n.inos)
theorem FRow.is {w : World} {base : Nat} {f : FN} (h : FRow w base f) : f.is w := ⟨h.1.sees, h.2.1.sees, h.2.2.sees⟩
theorem FRow.below {w w' : World} {base : Nat} {f : FN} (h : FRow w base f) (hb : Below w.heap.size w w') : FRow w' base f := ⟨h.1.below hb, h.2.1.below hb, h.2.2.below hb⟩
theorem FRow.mono {w : World} {base b2 : Nat} {f : FN} (h : FRow w base f) (hb : b2 ≤ base) : FRow w b2 f := ⟨h.1.mono hb, h.2.1.mono hb, h.2.2.mono hb⟩
theorem FRow.only {w w' : World} {base B : Nat} {f : FN} {cs : Array Value} (h : FRow w base f) (ho : Only B w w') (hB : w.heap[B]? = some (.cells cs 29)) : FRow w' base f := ⟨rowV_only h.1 ho hB (by decide), rowV_only h.2.1 ho hB (by decide), rowV_only h.2.2 ho hB (by decide)⟩
/-- A row is apart from a row of another type. -/
theorem rowV_kept {w w' : World} {base base2 sz n : Nat} {e t : TypeId} {v X : Value} {xs ys : List Value} (h : RowV w base e v xs) (hX : w.ownsRow base2 t sz X n ys) (hg : w.grownBy w' X.ownBlock) (hne : t ≠ e) : RowV w' base e v xs := by
  refine World.ownsRow.kept h hg ?_
  rcases h.2 with ⟨h2, _⟩ | ⟨g, cap, cur, hv, _, hh, _⟩
  · left; rw [h2]; rfl
  · rcases hX.2 with ⟨h2, _⟩ | ⟨g2, cap2, cur2, hv2, _, hh2, _⟩
    · right; rw [hv, h2]; simp [Value.ownBlock]
    · right
      rw [hv, hv2]
      intro e2
      simp [Value.ownBlock] at e2
      subst e2
      rw [hh] at hh2
      injection hh2 with h3
      injection h3 with h4 h5
      exact hne h5.symm
theorem FRow.kept {w w' : World} {base base2 n : Nat} {f : FN} {X : Value} {ys : List Value} (h : FRow w base f) (hX : w.ownsRow base2 60 5 X n ys) (hg : w.grownBy w' X.ownBlock) : FRow w' base f := ⟨rowV_kept h.1 hX hg (by decide), rowV_kept h.2.1 hX hg (by decide), rowV_kept h.2.2 hX hg (by decide)⟩
/-- A row of the call's own shows its nodes. -/
theorem seesN_row {w : World} {base : Nat} {v : Value} {fs : List FN} (h : w.ownsRow base 60 5 v fs.length (flat fs)) (hm : fs.length ≤ maxLen) : SeesN w v fs := by
  rcases h.2 with ⟨h2, h3⟩ | ⟨g, cap, cur, hv, hg, hh, hn, hcm, hs, ht⟩
  · exact ⟨none, 0, by rw [h3]; exact h2, by omega, by simp, fun _ => rfl, fun h0 => by omega⟩
  · refine ⟨some ⟨g, 0, none⟩, cap, hv, hn, hcm, by simp, fun _ => ⟨g, 0, rfl, (Array.getElem?_eq_some_iff.1 hh).1, fun j x hx => ?_⟩⟩
    have hj : j < (flat fs).length := (List.getElem?_eq_some_iff.1 hx).1
    rw [flat_len] at hj
    rw [Nat.zero_add]
    simp only [World.cell?, hh]
    rw [← ht, List.getElem?_take, if_pos hj, Array.getElem?_toList] at hx
    simpa using hx
/-- A plain tree in rows that are newer than B. -/
def TreeF (w : World) (B : Nat) (v : Value) (t : TreeB) : Prop := ∃ X fs, v = .agg #[X, .int .i64 t.next] ∧ w.ownsRow B 60 5 X fs.length (flat fs) ∧ fs.map FN.n = t.nodes ∧ (∀ f ∈ fs, FRow w B f) ∧ fs.length ≤ maxLen
theorem TreeF.at {w : World} {B : Nat} {v : Value} {t : TreeB} (h : TreeF w B v t) : TreeAt w v t := by
  obtain ⟨X, fs, h1, h2, h3, h4, h5⟩ := h
  exact ⟨X, fs, h1, seesN_row h2 h5, h3, fun f hf => (h4 f hf).is⟩
theorem TreeF.below {w w' : World} {B : Nat} {v : Value} {t : TreeB} (h : TreeF w B v t) (hb : Below w.heap.size w w') : TreeF w' B v t := by
  obtain ⟨X, fs, h1, h2, h3, h4, h5⟩ := h
  exact ⟨X, fs, h1, row_belowN h2 hb, h3, fun f hf => (h4 f hf).below hb, h5⟩
theorem row_turnN {w w' : World} {p b base n sz : Nat} {e : TypeId} {v : Value} {xs : List Value} (h : w.ownsRow base e sz v n xs) (ht : Turn p b w w') (hp : p < base) (hb : b < base) : w'.ownsRow base e sz v n xs := by
  obtain ⟨h1, h2⟩ := h
  refine ⟨h1, ?_⟩
  rcases h2 with h2 | ⟨g, cap, cur, hv, hg, hh, r⟩
  · exact .inl h2
  · exact .inr ⟨g, cap, cur, hv, hg, (ht.block g (Array.getElem?_eq_some_iff.1 hh).1 (by omega) (by omega)).trans hh, r⟩
theorem TreeF.turn {w w' : World} {p b B : Nat} {v : Value} {t : TreeB} (h : TreeF w B v t) (ht : Turn p b w w') (hp : p < B) (hb : b < B) : TreeF w' B v t := by
  obtain ⟨X, fs, h1, h2, h3, h4, h5⟩ := h
  exact ⟨X, fs, h1, row_turnN h2 ht hp hb, h3, fun f hf => ⟨row_turnN (h4 f hf).1 ht hp hb, row_turnN (h4 f hf).2.1 ht hp hb, row_turnN (h4 f hf).2.2 ht hp hb⟩, h5⟩
theorem row_monoN {w : World} {base b2 n sz : Nat} {e : TypeId} {v : Value} {xs : List Value} (h : w.ownsRow base e sz v n xs) (hb : b2 ≤ base) : w.ownsRow b2 e sz v n xs := by
  obtain ⟨h1, h2⟩ := h
  refine ⟨h1, ?_⟩
  rcases h2 with h2 | ⟨g, cap, cur, hv, hg, r⟩
  · exact .inl h2
  · exact .inr ⟨g, cap, cur, hv, Nat.le_trans hb hg, r⟩
/-- Where All's loop stands. -/
def AllAt (w w1 wr : World) (k : Nat) (X nx : Value) (fs : List FN) : Prop := TBoxN wr (w.heap.size + 1) X nx ∧ TBoxN wr w.heap.size (.slice none 0 0) (.int .i64 0) ∧ wr.ownsRow w1.heap.size 60 5 X k (flat fs) ∧ Below w.heap.size w wr ∧ w1.heap.size ≤ wr.heap.size ∧ (∀ j, w.heap.size + 2 ≤ j → j < w1.heap.size → wr.heap[j]? = w1.heap[j]?) ∧ ∀ f ∈ fs, FRow wr w1.heap.size f
theorem lit5 (w : World) (v0 v1 v2 v3 v4 : Value) : ∀ (j : Nat) u, [v0, v1, v2, v3, v4][j]? = some u → (w.alloc (.cells #[v0, v1, v2, v3, v4] 60)).cell? ((⟨w.heap.size, 0, none⟩ : Addr).add j) = some u := by
  intro j u hu
  have h := (MapKept.heap_alloc w (.cells #[v0, v1, v2, v3, v4] 60)).1
  rw [Addr.add_lit, Nat.zero_add]
  simp only [World.cell?, h]
  rw [← hu]
  simp
theorem one5 (i0 i1 : Int) (a1 : Option Addr) (m1 c1 : Nat) (a2 : Option Addr) (m2 c2 : Nat) (a3 : Option Addr) (m3 c3 : Nat) : ∀ u ∈ [Value.int .i64 i0, .int .i64 i1, .slice a1 m1 c1, .slice a2 m2 c2, .slice a3 m3 c3], u.oneCell' = true := by
  intro u hu
  simp at hu
  rcases hu with rfl | rfl | rfl | rfl | rfl <;> rfl
theorem flat_one (fs : List FN) (f : FN) : flat (fs ++ [f]) = flat fs ++ f.cells := by unfold flat; rw [List.flatMap_append]; simp
/-- Behind the append. -/
theorem all_app {w w1 wr w2 w4 : World} {k n' : Nat} {X nx X' : Value} {fs : List FN} {f : FN} {xs : List Value} {o : Obj} (hx : w.heap.size + 1 < w1.heap.size) (hA : AllAt w w1 wr k X nx fs) (hb : Below wr.heap.size wr w2) (hf : FRow w2 w1.heap.size f) (hO : (w2.alloc o).ownsRow w1.heap.size 60 5 X k (flat fs) ∧ w1.heap.size ≤ (w2.alloc o).heap.size) (hr : w4.ownsRow w1.heap.size 60 5 X' n' xs) (hxs : xs = flat (fs ++ [f])) (hg : (w2.alloc o).grownBy w4 X.ownBlock) :
    w4.cell? ⟨w.heap.size + 1, 0, none⟩ = some X ∧ (∀ j, w4.frozen? ⟨w.heap.size + 1, j, none⟩ = false) ∧ w.heap.size + 1 < w4.heap.size ∧ Hid (AllAt w w1 (w4.setCell ⟨w.heap.size + 1, 0, none⟩ X') n' X' nx (fs ++ [f])) ∧ Hid (Below w.heap.size w w4) := by
  have hb4 : Below w1.heap.size (w2.alloc o) w4 := (Below.refl _ _).grown hg hO.2 (fun j hj => (hO.1.lt j hj).1)
  have hr1 : w1.heap.size ≤ wr.heap.size := hA.2.2.2.2.1
  have hb5 : Below w1.heap.size wr w4 := ((hb.mono hr1).trans ((bel_newP w2 o).mono (Nat.le_trans hr1 hb.size))).trans hb4
  have t3 : TBoxN w4 (w.heap.size + 1) X nx := hA.1.below hb5 hx
  have t2 := hA.2.1.below hb5 (by omega : w.heap.size < w1.heap.size)
  have hwb : Below w.heap.size w w4 := hA.2.2.2.1.trans (hb5.mono (by omega))
  refine ⟨t3.c.1, t3.c.2.2.1, t3.c.2.2.2, ⟨?_, ?_, ?_, ?_, ?_, ?_, ?_⟩, hwb⟩
  · unfold TBoxN at *
    exact pset t3 X'
  · exact (Below.heap_setCell _ _ _ w.heap.size (by show w.heap.size ≠ w.heap.size + 1; omega)).trans t2
  · rw [← hxs]; exact ownsRow_setCell_below hr (by exact hx) _
  · exact hwb.setCell (Nat.le_succ _) _
  · have := hb5.size
    simp [World.setCell]
    omega
  · intro j h1 h2
    rw [Below.heap_setCell _ _ _ j (by show j ≠ w.heap.size + 1; omega), hb5.block j h2, hA.2.2.2.2.2.1 j h1 h2]
  · intro g hgm
    have h4 : FRow w4 w1.heap.size g := by
      rcases List.mem_append.1 hgm with hm | hm
      · exact (((hA.2.2.2.2.2.2 g hm).below hb).below (bel_newP _ _)).kept hO.1 hg
      · rw [List.mem_singleton] at hm
        subst hm
        exact (hf.below (bel_newP _ _)).kept hO.1 hg
    exact h4.only (only_set _ _ 0 _) t3
set_option maxRecDepth 4000 in
set_option maxHeartbeats 8000000 in
theorem dall_any (w : World) (p b : Nat) (t : TreeB) (hT : DTree w p b t) (hG : Good t) :
    Calls Tryz.prog 13 #[.pointer (some ⟨p, 0, none⟩)] w fun e w' => ∃ a c, e = .returned (.agg #[.slice a t.nodes.length c, .int .i64 t.next]) ∧ Hid (TreeF w' w.heap.size (.agg #[.slice a t.nodes.length c, .int .i64 t.next]) t ∧ Below w.heap.size w w') := by
  have hpb := hT.cells.2.2.2
  have ht := hG.1.fair
  have HM : Hid (∀ U, Below w.heap.size w U → Calls Tryz.prog 32 #[.pointer (some ⟨p, 0, none⟩)] U fun e w' => e = .returned (.pointer (some ⟨p, 0, none⟩)) ∧ w' = U) := fun U hU => dmade_any U p b t (hT.below hU)
  obtain ⟨ds, hd, hn⟩ := id hT
  have hdl : ds.length = t.nodes.length := by rw [← hn, List.length_map]
  have h60 : t.nodes.length ≤ 60 := hG.1.size
  obtain ⟨W, hW⟩ : ∃ z, z = (w.alloc (.cells #[.slice none 0 0, .int .i64 0] 29)).alloc (.cells #[.slice none 0 0, .int .i64 t.next] 29) := ⟨_, rfl⟩
  have HW : Hid (Below w.heap.size w W ∧ W.heap.size = w.heap.size + 2 ∧ TBoxN W w.heap.size (.slice none 0 0) (.int .i64 0) ∧ TBoxN W (w.heap.size + 1) (.slice none 0 0) (.int .i64 t.next)) := by
    refine ⟨?_, ?_, ?_, ?_⟩
    · rw [hW]; exact ((Below.refl _ _).alloc (Nat.le_refl _) _).alloc (by simp) _
    · rw [hW]; simp
    · rw [hW]; exact ((bel_newP _ _).block _ (by simp)).trans (MapKept.heap_alloc w _).1
    · rw [hW]
      have h1 := (MapKept.heap_alloc (w.alloc (.cells #[.slice none 0 0, .int .i64 0] 29)) (.cells #[.slice none 0 0, .int .i64 t.next] 29)).1
      have h2 : (w.alloc (.cells #[.slice none 0 0, .int .i64 0] 29)).heap.size = w.heap.size + 1 := by simp
      rw [h2] at h1
      exact h1
  have HKy : Hid (∀ U, Calls Tryz.prog 34 #[.map (some b)] U fun e w' => e = .returned (.func (.func 58) #[] #[.pointer (some ⟨U.heap.size, 0, none⟩)]) ∧ w' = U.alloc (.cells #[.map (some b)] 50)) := fun U => keysI_any (some b) U
  have hdW : DAt W p b ds t.next := hd.below HW.out.1
  have HSo : Hid (Calls Tryz.prog 33 _ (W.alloc (.cells #[.map (some b)] 50)) _) := sortedI_any W b (ds.map DN.ent) hdW.2.1 (by rw [List.length_map]; omega)
  have HLK : Hid (∀ k, k < t.nodes.length → ∃ da dc sa sc, dnOf (nodeAt t k) da dc sa sc ∈ ds ∧ (∀ w', MapIs Tryz.prog 3 w' b (ds.map DN.ent) → (Instr.lookup 50 (.map (some b)) (.int .i64 (nodeAt t k).ino) false).run Tryz.prog w' = .ok (.agg #[.int .i64 (nodeAt t k).kind, .slice da (nodeAt t k).data.length dc, .slice sa (nodeAt t k).names.length sc]) w')) := fun k hk => hd.look hn ht hk
  have kp := hd.cells
  go_enter Tryz.func13, Tryz.ntmps13
  go_wp2_with fail
  go_at_call 32
  refine (HM.out _ (bel_newP _ _)).mono ?_
  rintro e w' ⟨rfl, rfl⟩
  go_wp2_with fail
  go_at_call 34
  rw [← hW]
  clear hW
  refine (HKy.out _).mono ?_
  rintro e w' ⟨rfl, rfl⟩
  go_wp2_with fail
  go_at_call 33
  refine HSo.out.mono ?_
  rintro e w1 ⟨kv, rfl, hrow, hb1⟩
  obtain ⟨ak, ck, hkv, _⟩ := id hrow.sees
  rw [List.length_map, List.length_map, hdl] at hkv
  subst hkv
  have HB1 : Hid (Below W.heap.size W w1 ∧ Below w.heap.size w w1 ∧ W.heap.size ≤ w1.heap.size) := ⟨hb1, bel2v HW.out.1 hb1, hb1.size⟩
  have HKR : Hid (RowV w1 W.heap.size 3 (.slice ak t.nodes.length ck) ((ds.map DN.ent).map fun x => .int .i64 x.1)) := hrow
  have HDN : Hid (ds.map DN.n = t.nodes ∧ ds.length = t.nodes.length ∧ DAt w p b ds t.next ∧ Good t ∧ p < w.heap.size ∧ b < w.heap.size) := ⟨hn, hdl, hd, hG, hpb.1, hpb.2⟩
  have nl : (t.nodes.length : Int) ≤ 60 := by omega
  clear hrow hb1 HM HKy HSo hdW hn hdl hd hG hT hpb ht kp
  go_wp2_with fail
  go_loopw [20] (fun s20 wr => ∃ (k : Nat) (X : Value) (fs : List FN), k ≤ t.nodes.length ∧ s20 = .int .i64 (k : Int) ∧ Hid (AllAt w w1 wr k X (.int .i64 t.next) fs ∧ fs.map FN.n = t.nodes.take k)) (fun s20 _ => t.nodes.length - (intOf s20).toNat)
  case atStart =>
    refine ⟨0, .slice none 0 0, [], Nat.zero_le _, rfl, ?_⟩
    have hs := HW.out.2.1
    exact ⟨⟨HW.out.2.2.2.below HB1.out.1 (by omega), HW.out.2.2.1.below HB1.out.1 (by omega), World.ownsRow_nil _ _ _ _, HB1.out.2.1, Nat.le_refl _, fun _ _ _ => rfl, fun f hf => by cases hf⟩, rfl⟩
  case round =>
    obtain ⟨k, X, fs, hk, rfl, HAF⟩ := hrel
    have HA : Hid (AllAt w w1 wr k X (.int .i64 t.next) fs) := HAF.out.1
    have HFN : Hid (fs.map FN.n = t.nodes.take k) := HAF.out.2
    clear HAF
    by_cases hlt : k < t.nodes.length
    · have kl : (k : Int) < (t.nodes.length : Int) := by omega
      obtain ⟨da, dc, sa, sc, hmem, hlook⟩ := HLK.out k hlt
      have ckk : wr.cell? ⟨(ak.getD ⟨0, 0, none⟩).block, (ak.getD ⟨0, 0, none⟩).off + k, none⟩ = some (.int .i64 (nodeAt t k).ino) ∧ ak = some ⟨(ak.getD ⟨0, 0, none⟩).block, (ak.getD ⟨0, 0, none⟩).off, none⟩ := by
        obtain ⟨ao, cap, e, _, _, _, h5⟩ := HKR.out.sees
        have hlen : ((ds.map DN.ent).map fun x => Value.int .i64 x.1).length = t.nodes.length := by rw [List.length_map, List.length_map, HDN.out.2.1]
        rw [hlen] at h5 e
        obtain ⟨g, off, e1, hl, hh⟩ := h5 (by omega)
        injection e with e2 e3 e4
        rw [e1] at e2
        subst e2
        have hbk := HKR.out.block g rfl
        have hwr : wr.heap[g]? = w1.heap[g]? := HA.out.2.2.2.2.2.1 g (by have := HW.out.2.1; omega) hl
        have hkd : k < ds.length := by rw [HDN.out.2.1]; exact hlt
        have hnk : ds[k].n = nodeAt t k := by
          rw [nodeAt_eq t k hlt]
          have : (ds.map DN.n)[k]'(by rw [List.length_map]; exact hkd) = t.nodes[k] := by simp only [HDN.out.1]
          rw [← this, List.getElem_map]
        have hx := hh k (.int .i64 (nodeAt t k).ino) (by
          rw [List.getElem?_map, List.getElem?_map, List.getElem?_eq_getElem hkd]
          simp [DN.ent, hnk])
        refine ⟨?_, rfl⟩
        show wr.cell? ⟨g, off + k, none⟩ = _
        rw [← hx]
        simp only [World.cell?, hwr]
      obtain ⟨ck0, hak⟩ := ckk
      obtain ⟨gk, hgk⟩ : ∃ g, g = (ak.getD ⟨0, 0, none⟩).block := ⟨_, rfl⟩
      obtain ⟨ok, hok⟩ : ∃ g, g = (ak.getD ⟨0, 0, none⟩).off := ⟨_, rfl⟩
      rw [← hgk, ← hok] at ck0 hak
      clear hgk hok
      subst hak
      obtain ⟨ax, cx, hX⟩ := row_formN HA.out.2.2.1
      subst hX
      have HSA : Hid (∀ w', Below w.heap.size w w' → (w'.cell? ⟨p, 0, none⟩ = some (.map (some b)) ∧ (Instr.lookup 50 (.map (some b)) (.int .i64 (nodeAt t k).ino) false).run Tryz.prog w' = .ok (.agg #[.int .i64 (nodeAt t k).kind, .slice da (nodeAt t k).data.length dc, .slice sa (nodeAt t k).names.length sc]) w' ∧ Hid (Below w.heap.size w w'))) := fun w' hb => by
        have hd' := HDN.out.2.2.1.below hb
        exact ⟨hd'.cells.1, hlook w' hd'.2.1, hb⟩
      have HPl : Hid (Calls Tryz.prog 35 #[.agg #[.int .i64 (nodeAt t k).kind, .slice da (nodeAt t k).data.length dc, .slice sa (nodeAt t k).names.length sc], .int .i64 (nodeAt t k).ino] wr.drew fun e w' => ∃ a1 m1 c1 a2 m2 c2 a3 m3 c3, e = .returned (.agg #[.int .i64 (nodeAt t k).ino, .int .i64 (nodeAt t k).kind, .slice a1 m1 c1, .slice a2 m2 c2, .slice a3 m3 c3]) ∧ w'.cell? ⟨w.heap.size + 1, 0, none⟩ = some (.slice ax k cx) ∧ (∀ j, w'.frozen? ⟨w.heap.size + 1, j, none⟩ = false) ∧ w.heap.size + 1 < w'.heap.size ∧ Hid (Below wr.heap.size wr w' ∧ Below w.heap.size w w') ∧ Hid (FRow w' w1.heap.size ⟨nodeAt t k, .slice a1 m1 c1, .slice a2 m2 c2, .slice a3 m3 c3⟩)) := by
        have hbd : Below w.heap.size w wr.drew := HA.out.2.2.2.1.drew
        have hf := (HDN.out.2.2.1.2.2 _ hmem).below hbd
        have hok : NodeOK (nodeAt t k) := HDN.out.2.2.2.1.1.each _ (nodeAt_mem hlt)
        refine (dplain_any (nodeAt t k) da sa dc sc wr.drew hf.1 hf.2 hok (data_len5 hok) (names_len5 HDN.out.2.2.2.1 hlt)).mono ?_
        rintro e w' ⟨vd, vn, vi, he, HX⟩
        obtain ⟨a1, c1, e1, _⟩ := id HX.out.1.sees
        obtain ⟨a2, c2, e2, _⟩ := id HX.out.2.1.sees
        obtain ⟨a3, c3, e3, _⟩ := id HX.out.2.2.1.sees
        subst e1 e2 e3
        have hb3 : Below wr.heap.size wr w' := bel2v ((Below.refl _ _).drew) HX.out.2.2.2
        have t3 : TBoxN w' (w.heap.size + 1) (.slice ax k cx) (.int .i64 t.next) := HA.out.1.below hb3 HA.out.1.c.2.2.2
        exact ⟨a1, _, c1, a2, _, c2, a3, _, c3, he, t3.c.1, t3.c.2.2.1, t3.c.2.2.2, ⟨hb3, bel2v HA.out.2.2.2.1 hb3⟩, FRow.mono (base := wr.drew.heap.size) ⟨HX.out.1, HX.out.2.1, HX.out.2.2.1⟩ HA.out.2.2.2.2.1⟩
      have cx0 := HA.out.1.c.1
      have cxf := HA.out.1.c.2.2.1
      have cxl := HA.out.1.c.2.2.2
      have HB0 : Hid (Below w.heap.size w wr) := HA.out.2.2.2.1
      clear hlook hmem
      have HOW : Hid (∀ w2 o, Below wr.heap.size wr w2 → (w2.alloc o).ownsRow w1.heap.size 60 5 (.slice ax k cx) k (flat fs) ∧ w1.heap.size ≤ (w2.alloc o).heap.size) := fun w2 o hb => ⟨row_belowN (row_belowN HA.out.2.2.1 hb) (bel_newP _ _), by have := hb.size; have := HA.out.2.2.2.2.1; simp; omega⟩
      have HTK : Hid (∀ f : FN, f.n = nodeAt t k → (fs ++ [f]).map FN.n = t.nodes.take (k + 1)) := fun f hf => by rw [List.map_append, HFN.out, List.take_succ_eq_append_getElem hlt, List.map_singleton, hf, nodeAt_eq t k hlt]
      have HXB : Hid (w.heap.size + 1 < w1.heap.size ∧ k ≤ 60) := ⟨by have := HW.out.2.1; have := HB1.out.2.2; omega, by omega⟩
      have hlk0 := (HSA.out _ HB0.out.drew).2.1
      have cp0 := (HSA.out _ HB0.out).1
      go_wp2_with fail
      go_region_law (first
          | (rw [if_pos (by simp [Region.wanted])]; go_wp2_with fail; go_at_call 35; refine HPl.out.mono ?_; rintro e w2 ⟨a1, m1, c1, a2, m2, c2, a3, m3, c3, rfl, d0, df, dl, HB2, HFR⟩)
          | (refine step_appS Tryz.underlying27 infoNd rfl (by decide) (by rfl) _ _ (by rfl) w1.heap.size (.slice ax k cx) k (flat fs) (by rfl) (HOW.out w2 _ HB2.out.1).1 ⟨w2.heap.size, 0, none⟩ 1 1 [.int .i64 (nodeAt t k).ino, .int .i64 (nodeAt t k).kind, .slice a1 m1 c1, .slice a2 m2 c2, .slice a3 m3 c3] (by rfl) (by rfl) (lit5 w2 _ _ _ _ _) (one5 _ _ _ _ _ _ _ _ _ _ _) (by have := HXB.out.2; unfold maxLen; omega) (by have := HXB.out.2; omega) (HOW.out w2 _ HB2.out.1).2 ?_; intro v4 w4 hr4 hg4
             obtain ⟨ax', cx', rfl⟩ := row_formN hr4
             obtain ⟨e0, ef, el, HE, HB4⟩ := all_app HXB.out.1 HA.out HB2.out.1 HFR.out (HOW.out w2 _ HB2.out.1) hr4 (flat_one fs ⟨nodeAt t k, .slice a1 m1 c1, .slice a2 m2 c2, .slice a3 m3 c3⟩).symm hg4
             clear hr4 hg4))
      all_goals (
        go_wp2
        go_roundw
        case rel => exact ⟨k + 1, _, _, by omega, by simp, ⟨HE.out, HTK.out _ rfl⟩⟩
        case measure => simp [intOf]; omega)
    · have kl : ¬ (k : Int) < (t.nodes.length : Int) := by omega
      have ek : k = t.nodes.length := by omega
      subst ek
      obtain ⟨ax, cx, hX⟩ := row_formN HA.out.2.2.1
      subst hX
      obtain ⟨x0, x1, xf, xl⟩ := HA.out.1.c
      obtain ⟨y0, y1, yf, yl⟩ := HA.out.2.1.c
      go_wp2
      have HEN : Hid (TreeF ((wr.setCell ⟨w.heap.size, 0, none⟩ (.slice ax t.nodes.length cx)).setCell ⟨w.heap.size, 1, none⟩ (.int .i64 t.next)) w.heap.size (.agg #[.slice ax t.nodes.length cx, .int .i64 t.next]) t ∧ Below w.heap.size w ((wr.setCell ⟨w.heap.size, 0, none⟩ (.slice ax t.nodes.length cx)).setCell ⟨w.heap.size, 1, none⟩ (.int .i64 t.next))) := by
        have hlt1 : w.heap.size < w1.heap.size := by have := HW.out.2.1; have := HB1.out.2.2; omega
        have hfl : fs.length = t.nodes.length := by
          have := congrArg List.length HFN.out
          simpa using this
        have ho : Only w.heap.size wr ((wr.setCell ⟨w.heap.size, 0, none⟩ (.slice ax t.nodes.length cx)).setCell ⟨w.heap.size, 1, none⟩ (.int .i64 t.next)) := (only_set _ _ 0 _).trans (only_set _ _ 1 _)
        have hrow := ownsRow_setCell_below (ownsRow_setCell_below HA.out.2.2.1 (a := ⟨w.heap.size, 0, none⟩) (by exact hlt1) (.slice ax t.nodes.length cx)) (a := ⟨w.heap.size, 1, none⟩) (by exact hlt1) (.int .i64 t.next)
        refine ⟨?_, (HA.out.2.2.2.1.setCell (by exact Nat.le_refl _) _).setCell (by exact Nat.le_refl _) _⟩
        refine ⟨.slice ax t.nodes.length cx, fs, rfl, ?_, by rw [HFN.out, List.take_length], fun f hf => ((HA.out.2.2.2.2.2.2 f hf).only ho HA.out.2.1).mono (by omega), by have := HDN.out.2.2.2.1.1.size; unfold maxLen; omega⟩
        rw [← hfl] at hrow ⊢
        exact row_monoN hrow (by omega)
      refine bodyPost_ret (v := .agg #[.slice ax t.nodes.length cx, .int .i64 t.next]) (by simp [results, Tryz.results13, go_sem, *]) rfl ?_
      exact ⟨ax, cx, rfl, HEN⟩
end Go.Proofs.YtbebgobboccjcaaGreatDoor
