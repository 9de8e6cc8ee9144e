/- A node as plain data. -/
import Derived.Test.YtbebgobboccjcaaGreatDoorH3
import Derived.Test.YtbebgobboccjcaaGreatDoorH2
import Derived.Deep.RegionWith
import Derived.Deep.RegionHeld3
import Derived.Deep.DeepCutAuto
import Derived.Deep.DeepFit
namespace Go.Proofs.YtbebgobboccjcaaGreatDoor
open Go.RowKit Kit
set_option linter.unusedVariables false

theorem bel_newP (w : World) (o : Obj) : Below w.heap.size w (w.alloc o) := (Below.refl _ _).alloc (Nat.le_refl _) _
theorem infoIp : (Tryz.prog.info? 3).map (fun i => (i.zero, i.size, i.bytes)) = some (some (.int .i64 0), 1, 8) := by kernel_rfl
def PBox (w : World) (B : Nat) (v0 v1 v2 v3 v4 : Value) : Prop := w.heap[B]? = some (.cells #[v0, v1, v2, v3, v4] 60)
theorem PBox.c {w : World} {B : Nat} {v0 v1 v2 v3 v4 : Value} (h : PBox w B v0 v1 v2 v3 v4) : w.cell? ⟨B, 0, none⟩ = some v0 ∧ w.cell? ⟨B, 1, none⟩ = some v1 ∧ w.cell? ⟨B, 2, none⟩ = some v2 ∧ w.cell? ⟨B, 3, none⟩ = some v3 ∧ w.cell? ⟨B, 4, none⟩ = some v4 ∧ (∀ j, w.frozen? ⟨B, j, none⟩ = false) ∧ B < w.heap.size := by
 have hl := (Array.getElem?_eq_some_iff.1 h).1
 unfold PBox at h
 refine ⟨?_, ?_, ?_, ?_, ?_, ?_, hl⟩ <;> simp [World.cell?, World.frozen?, h]
theorem PBox.below {w w' : World} {B : Nat} {v0 v1 v2 v3 v4 : Value} (h : PBox w B v0 v1 v2 v3 v4) (hb : Below w.heap.size w w') : PBox w' B v0 v1 v2 v3 v4 := (hb.block B (Array.getElem?_eq_some_iff.1 h).1).trans h
theorem pbox_new (w : World) (v0 v1 v2 v3 v4 : Value) : PBox (w.alloc (.cells #[v0, v1, v2, v3, v4] 60)) w.heap.size v0 v1 v2 v3 v4 := (MapKept.heap_alloc w _).1
abbrev outQ (W : World) (B : Nat) (r0 r1 r2 r3 r4 : Value) : World := ((((W.setCell ⟨B, 0, none⟩ r0).setCell ⟨B, 1, none⟩ r1).setCell ⟨B, 2, none⟩ r2).setCell ⟨B, 3, none⟩ r3).setCell ⟨B, 4, none⟩ r4
theorem pset {w : World} {B j : Nat} {cs : Array Value} {t : TypeId} (h : w.heap[B]? = some (.cells cs t)) (v : Value) : (w.setCell ⟨B, j, none⟩ v).heap[B]? = some (.cells (cs.setIfInBounds j v) t) := by
 simp [World.setCell, Array.getElem?_modify, h]
theorem outQ_box {w : World} {B : Nat} {v0 v1 v2 v3 v4 : Value} (h : PBox w B v0 v1 v2 v3 v4) (r0 r1 r2 r3 r4 : Value) : PBox (outQ w B r0 r1 r2 r3 r4) B r0 r1 r2 r3 r4 := by
 unfold PBox at *
 exact pset (pset (pset (pset (pset h r0) r1) r2) r3) r4
theorem outQ_below {w0 w : World} {b B : Nat} (h : Below b w0 w) (hB : b ≤ B) (r0 r1 r2 r3 r4 : Value) : Below b w0 (outQ w B r0 r1 r2 r3 r4) := ((((h.setCell hB _).setCell hB _).setCell hB _).setCell hB _).setCell hB _
theorem pboxq (w : World) (o : Obj) : PBox ((w.alloc o).alloc (.cells #[.int .i64 0, .int .i64 0, .slice none 0 0, .slice none 0 0, .slice none 0 0] 60)) (w.heap.size + 1) (.int .i64 0) (.int .i64 0) (.slice none 0 0) (.slice none 0 0) (.slice none 0 0) := by
 have := pbox_new (w.alloc o) (.int .i64 0) (.int .i64 0) (.slice none 0 0) (.slice none 0 0) (.slice none 0 0)
 have hs : (w.alloc o).heap.size = w.heap.size + 1 := by simp
 rw [hs] at this
 exact this
theorem rowV_set {w : World} {base : Nat} {e : TypeId} {v : Value} {xs : List Value} (h : RowV w base e v xs) {a : Addr} (ha : a.block < base) (u : Value) : RowV (w.setCell a u) base e v xs := ownsRow_setCell_below h ha u
theorem rowV_only {w w' : World} {base B : Nat} {e t : TypeId} {v : Value} {xs : List Value} {cs : Array Value} (h : RowV w base e v xs) (ho : Only B w w') (hB : w.heap[B]? = some (.cells cs t)) (hne : t ≠ e) : RowV w' base e v xs := by
 obtain ⟨h1, h2⟩ := h
 refine ⟨h1, ?_⟩
 rcases h2 with h2 | ⟨g, cap, cur, hv, hg, hh, r⟩
 · exact .inl h2
 · refine .inr ⟨g, cap, cur, hv, hg, (ho.block g (Array.getElem?_eq_some_iff.1 hh).1 (fun e2 => ?_)).trans hh, r⟩
   subst e2
   rw [hB] at hh
   injection hh with h3
   injection h3 with h4 h5
   exact hne h5
theorem PBox.cell {w : World} {B : Nat} (h : PBox w B (.int .i64 0) (.int .i64 0) (.slice none 0 0) (.slice none 0 0) (.slice none 0 0)) (o : Nat) (x : Value) (hx : w.cell? ⟨B, o, none⟩ = some x) : x = .int .i64 0 ∨ x = .slice none 0 0 := by
 unfold PBox at h
 simp only [World.cell?, h] at hx
 match o with
 | 0 => simp at hx; exact .inl hx.symm
 | 1 => simp at hx; exact .inl hx.symm
 | 2 => simp at hx; exact .inr hx.symm
 | 3 => simp at hx; exact .inr hx.symm
 | 4 => simp at hx; exact .inr hx.symm
 | o + 5 => simp at hx
theorem outQ_only (W : World) (B : Nat) (r0 r1 r2 r3 r4 : Value) : Only B W (outQ W B r0 r1 r2 r3 r4) :=
 ((((only_set B W 0 r0).trans (only_set B _ 1 r1)).trans (only_set B _ 2 r2)).trans (only_set B _ 3 r3)).trans (only_set B _ 4 r4)
def PMid (w W wc : World) (B : Nat) (n : NodeB) (vd vn : Value) : Prop := PBox wc B (.int .i64 n.ino) (.int .i64 n.kind) vd vn (.slice none 0 0) ∧ W.heap.size ≤ B ∧ RowV wc W.heap.size 5 vd (intsV .u8 n.data) ∧ RowV wc W.heap.size 9 vn (strs n.names) ∧ Below W.heap.size W wc
theorem pm1 {w W w2 : World} {n : NodeB} {vd vn : Value} (h1 : RowV w2 W.heap.size 5 vd (intsV .u8 n.data)) (h2 : RowV w2 W.heap.size 9 vn (strs n.names)) (h3 : Below W.heap.size W w2) : PMid w W (w2.alloc (.cells #[.int .i64 n.ino, .int .i64 n.kind, vd, vn, .slice none 0 0] 60)) w2.heap.size n vd vn :=
 ⟨pbox_new _ _ _ _ _ _, h3.size, h1.below (bel_newP _ _), h2.below (bel_newP _ _), bel2v h3 (bel_newP _ _)⟩
theorem pm2 {w W w2 : World} {B : Nat} {n : NodeB} {vd vn : Value} (h1 : RowV w2 W.heap.size 5 vd (intsV .u8 n.data)) (h2 : RowV w2 W.heap.size 9 vn (strs n.names)) (h3 : Below W.heap.size W w2) (hz : PBox w2 B (.int .i64 0) (.int .i64 0) (.slice none 0 0) (.slice none 0 0) (.slice none 0 0)) (hB : W.heap.size ≤ B) : PMid w W (outQ w2 B (.int .i64 n.ino) (.int .i64 n.kind) vd vn (.slice none 0 0)) B n vd vn := by
 exact ⟨outQ_box hz _ _ _ _ _, hB, rowV_only h1 (outQ_only _ _ _ _ _ _ _) hz (by decide), rowV_only h2 (outQ_only _ _ _ _ _ _ _) hz (by decide), outQ_below h3 hB _ _ _ _ _⟩
theorem rowV_form {w : World} {base : Nat} {e : TypeId} {v : Value} {xs : List Value} (h : RowV w base e v xs) : ∃ a m c, v = .slice a m c := by
 obtain ⟨a, c, h, _⟩ := h.sees
 exact ⟨a, _, c, h⟩
theorem plain_app {wc wr W2 w' : World} {B : Nat} {r0 r1 r2 r3 r4 : Value} (hBc : B < wc.heap.size) (h1 : PBox wr B r0 r1 r2 r3 r4) (h2 : Only B wc wr) (hb1 : Below wr.heap.size wr W2) (hsz : wc.heap.size ≤ W2.heap.size) (hb2 : Below wc.heap.size W2 w') : w'.cell? ⟨B, 4, none⟩ = some r4 ∧ (∀ j, w'.frozen? ⟨B, j, none⟩ = false) ∧ Hid (PBox w' B r0 r1 r2 r3 r4 ∧ Only B wc w') := by
 have hp : PBox w' B r0 r1 r2 r3 r4 := ((hb2.block B hBc).trans (hb1.block B h1.c.2.2.2.2.2.2)).trans h1
 refine ⟨hp.c.2.2.2.2.1, hp.c.2.2.2.2.2.1, hp, ⟨(hb2.os.trans hb1.os).trans h2.os, (hb2.tape.trans hb1.tape).trans h2.tape, (hb2.output.trans hb1.output).trans h2.output, Nat.le_trans hsz hb2.size, ?_⟩⟩
 intro k hk hne
 rw [hb2.block k hk, hb1.block k (Nat.lt_of_lt_of_le hk h2.size), h2.block k hk hne]
theorem plain_end {w W wc wr : World} {B : Nat} {n : NodeB} {vd vn vi : Value} {zs : List Int} (hP : PMid w W wc B n vd vn) (h1 : PBox wr B (.int .i64 n.ino) (.int .i64 n.kind) vd vn vi) (h2 : RowV wr wc.heap.size 3 vi (intsV .i64 zs)) (h3 : Only B wc wr) (h4 : PBox wr (w.heap.size + 1) (.int .i64 0) (.int .i64 0) (.slice none 0 0) (.slice none 0 0) (.slice none 0 0)) (hB : B < wc.heap.size) (hwW : Below w.heap.size w W) (hW2 : W.heap.size = w.heap.size + 2) (hz : zs = n.inos) :
 Hid (RowV (outQ wr (w.heap.size + 1) (.int .i64 n.ino) (.int .i64 n.kind) vd vn vi) w.heap.size 5 vd (intsV .u8 n.data) ∧ RowV (outQ wr (w.heap.size + 1) (.int .i64 n.ino) (.int .i64 n.kind) vd vn vi) w.heap.size 9 vn (strs n.names) ∧ RowV (outQ wr (w.heap.size + 1) (.int .i64 n.ino) (.int .i64 n.kind) vd vn vi) w.heap.size 3 vi (intsV .i64 n.inos) ∧ Below w.heap.size w (outQ wr (w.heap.size + 1) (.int .i64 n.ino) (.int .i64 n.kind) vd vn vi)) := by
 subst hz
 have ho := outQ_only wr (w.heap.size + 1) (.int .i64 n.ino) (.int .i64 n.kind) vd vn vi
 have hs1 := hP.2.2.2.2.size
 refine ⟨(rowV_only (rowV_only hP.2.2.1 h3 hP.1 (by decide)) ho h4 (by decide)).mono (by omega), (rowV_only (rowV_only hP.2.2.2.1 h3 hP.1 (by decide)) ho h4 (by decide)).mono (by omega), (rowV_only h2 ho h4 (by decide)).mono (by omega), ?_⟩
 have hbr : Below w.heap.size w wr := by
  have hBw : w.heap.size ≤ B := by have := hP.2.1; omega
  refine ⟨(h3.os.trans hP.2.2.2.2.os).trans hwW.os, (h3.tape.trans hP.2.2.2.2.tape).trans hwW.tape, (h3.output.trans hP.2.2.2.2.output).trans hwW.output, Nat.le_trans hwW.size (Nat.le_trans hP.2.2.2.2.size h3.size), fun k hk => ?_⟩
  rw [h3.block k (by omega) (by omega), hP.2.2.2.2.block k (by omega), hwW.block k hk]
 exact outQ_below hbr (Nat.le_succ _) _ _ _ _ _
abbrev PKeep (w W w' : World) (n : NodeB) (dv sv : Value) : Prop := w'.cell? ⟨w.heap.size, 0, none⟩ = some (.int .i64 n.kind) ∧ w'.cell? ⟨w.heap.size, 1, none⟩ = some dv ∧ w'.cell? ⟨w.heap.size, 2, none⟩ = some sv ∧ w.heap.size < w'.heap.size ∧ Hid (Below W.heap.size W w')
theorem PKeep.below {w W w1 w' : World} {n : NodeB} {dv sv : Value} (h : PKeep w W w1 n dv sv) (hb : Below w1.heap.size w1 w') : PKeep w W w' n dv sv :=
 ⟨(hb.cell h.2.2.2.1).trans h.1, (hb.cell h.2.2.2.1).trans h.2.1, (hb.cell h.2.2.2.1).trans h.2.2.1, Nat.lt_of_lt_of_le h.2.2.2.1 hb.size, bel2v h.2.2.2.2.out hb⟩
theorem PKeep.out {w W w1 : World} {n : NodeB} {dv sv : Value} {B : Nat} (h : PKeep w W w1 n dv sv) (hW : w.heap.size < W.heap.size) (hB : W.heap.size ≤ B) (r0 r1 r2 r3 r4 : Value) : PKeep w W (outQ w1 B r0 r1 r2 r3 r4) n dv sv := by
 have ho := outQ_only w1 B r0 r1 r2 r3 r4
 have hk : (outQ w1 B r0 r1 r2 r3 r4).heap[w.heap.size]? = w1.heap[w.heap.size]? := ho.block _ h.2.2.2.1 (by omega)
 refine ⟨?_, ?_, ?_, Nat.lt_of_lt_of_le h.2.2.2.1 ho.size, outQ_below h.2.2.2.2.out hB _ _ _ _ _⟩
 · rw [← h.1]; simp only [World.cell?, hk]
 · rw [← h.2.1]; simp only [World.cell?, hk]
 · rw [← h.2.2.1]; simp only [World.cell?, hk]
set_option maxRecDepth 4000 in
set_option maxHeartbeats 8000000 in
theorem dplain_any (n : NodeB) (da sa : Option Addr) (dc sc : Nat) (w : World) (hd : Sees w (.slice da n.data.length dc) (intsV .u8 n.data)) (hs : SeesS w (.slice sa n.names.length sc) (pairsB n)) (ok : NodeOK n) (h1 : n.data.length ≤ 10000) (h2 : n.names.length ≤ 10000) :
 Calls Tryz.prog 35 #[.agg #[.int .i64 n.kind, .slice da n.data.length dc, .slice sa n.names.length sc], .int .i64 n.ino] w fun e w' => ∃ vd vn vi, e = .returned (.agg #[.int .i64 n.ino, .int .i64 n.kind, vd, vn, vi]) ∧ Hid (RowV w' w.heap.size 5 vd (intsV .u8 n.data) ∧ RowV w' w.heap.size 9 vn (strs n.names) ∧ RowV w' w.heap.size 3 vi (intsV .i64 n.inos) ∧ Below w.heap.size w w') := by
 obtain ⟨W, hW⟩ : ∃ z, z = (w.alloc (.cells #[.int .i64 n.kind, .slice da n.data.length dc, .slice sa n.names.length sc] 70)).alloc (.cells #[.int .i64 0, .int .i64 0, .slice none 0 0, .slice none 0 0, .slice none 0 0] 60) := ⟨_, rfl⟩
 have HW0 : Hid (W.heap[w.heap.size]? = some (.cells #[.int .i64 n.kind, .slice da n.data.length dc, .slice sa n.names.length sc] 70) ∧ Below w.heap.size w W ∧ W.heap.size = w.heap.size + 2 ∧ PBox W (w.heap.size + 1) (.int .i64 0) (.int .i64 0) (.slice none 0 0) (.slice none 0 0) (.slice none 0 0)) := by
  refine ⟨?_, ?_, ?_, ?_⟩
  · rw [hW]; exact ((bel_newP _ _).block _ (by simp)).trans (MapKept.heap_alloc w _).1
  · rw [hW]; exact ((Below.refl _ _).alloc (Nat.le_refl _) _).alloc (by simp) _
  · rw [hW]; simp
  · rw [hW]; exact pboxq _ _
 have hk3 : w.heap.size < W.heap.size := by have := HW0.out.2.2.1; omega
 have HK0 : Hid (PKeep w W W n (.slice da n.data.length dc) (.slice sa n.names.length sc)) := ⟨by simp [World.cell?, HW0.out.1], by simp [World.cell?, HW0.out.1], by simp [World.cell?, HW0.out.1], hk3, (Below.refl _ _)⟩
 have HKd : Hid (PKeep w W W.drew n (.slice da n.data.length dc) (.slice sa n.names.length sc)) := HK0.out.below (Below.refl _ _).drew
 have HKv : Hid (PKeep w W (W.alloc (.cells #[.int .i64 0, .int .i64 0, .slice none 0 0, .slice none 0 0, .slice none 0 0] 60)).drew n (.slice da n.data.length dc) (.slice sa n.names.length sc)) := HK0.out.below (bel_newP _ _).drew
 have HC : Hid (∀ U, Hid (PKeep w W U n (.slice da n.data.length dc) (.slice sa n.names.length sc)) → Calls Tryz.prog 59 #[.slice da n.data.length dc] U fun e w' => ∃ ra rc, e = .returned (.slice ra n.data.length rc) ∧ Hid (RowV w' W.heap.size 5 (.slice ra n.data.length rc) (intsV .u8 n.data) ∧ Below U.heap.size U w') ∧ Hid (PKeep w W w' n (.slice da n.data.length dc) (.slice sa n.names.length sc))) := fun U hU => by
  refine (dbclone_any _ n.data U (hd.below (bel2v HW0.out.2.1 hU.out.2.2.2.2.out)) h1).mono ?_
  rintro e w' ⟨r, he, hr, hb⟩
  obtain ⟨ra, rc, e1, _⟩ := id hr.sees
  rw [intsV_len] at e1
  subst e1
  exact ⟨ra, rc, he, ⟨hr.mono hU.out.2.2.2.2.out.size, hb⟩, hU.out.below hb⟩
 have HC3 : Hid (∀ U B, Hid (PKeep w W U n (.slice da n.data.length dc) (.slice sa n.names.length sc)) → PBox U B (.int .i64 0) (.int .i64 0) (.slice none 0 0) (.slice none 0 0) (.slice none 0 0) → Calls Tryz.prog 59 #[.slice da n.data.length dc] U fun e w' => ∃ ra rc, e = .returned (.slice ra n.data.length rc) ∧ w'.cell? ⟨B, 0, none⟩ = some (.int .i64 0) ∧ w'.cell? ⟨B, 1, none⟩ = some (.int .i64 0) ∧ w'.cell? ⟨B, 2, none⟩ = some (.slice none 0 0) ∧ w'.cell? ⟨B, 3, none⟩ = some (.slice none 0 0) ∧ w'.cell? ⟨B, 4, none⟩ = some (.slice none 0 0) ∧ (∀ j, w'.frozen? ⟨B, j, none⟩ = false) ∧ B < w'.heap.size ∧ Hid (RowV w' W.heap.size 5 (.slice ra n.data.length rc) (intsV .u8 n.data) ∧ Below U.heap.size U w') ∧ Hid (PKeep w W w' n (.slice da n.data.length dc) (.slice sa n.names.length sc)) ∧ Hid (PBox w' B (.int .i64 0) (.int .i64 0) (.slice none 0 0) (.slice none 0 0) (.slice none 0 0))) := fun U B hU hZ => by
  refine (HC.out U hU).mono ?_
  rintro e w' ⟨ra, rc, he, HX, hk⟩
  have hz := hZ.below HX.out.2
  have z := hz.c
  exact ⟨ra, rc, he, z.1, z.2.1, z.2.2.1, z.2.2.2.1, z.2.2.2.2.1, z.2.2.2.2.2.1, z.2.2.2.2.2.2, HX, hk, hz⟩
 have HCw : Hid (Calls Tryz.prog 59 _ W.drew _) := HC.out W.drew HKd
 have HCv : Hid (Calls Tryz.prog 59 _ (W.alloc (.cells #[.int .i64 0, .int .i64 0, .slice none 0 0, .slice none 0 0, .slice none 0 0] 60)).drew _) := HC3.out (W.alloc (.cells #[.int .i64 0, .int .i64 0, .slice none 0 0, .slice none 0 0, .slice none 0 0] 60)).drew W.heap.size HKv (pbox_new W _ _ _ _ _)
 have HM : Hid (∀ U, Hid (PKeep w W U n (.slice da n.data.length dc) (.slice sa n.names.length sc)) → Calls Tryz.prog 60 #[.agg #[.int .i64 n.kind, .slice da n.data.length dc, .slice sa n.names.length sc]] U fun e w' => ∃ ra rc, e = .returned (.slice ra n.names.length rc) ∧ Hid (RowV w' W.heap.size 9 (.slice ra n.names.length rc) (strs n.names) ∧ Below U.heap.size U w') ∧ Hid (PKeep w W w' n (.slice da n.data.length dc) (.slice sa n.names.length sc))) := fun U hU => by
  refine (dnames_any n n.kind da sa n.data.length dc sc U (hs.below (bel2v HW0.out.2.1 hU.out.2.2.2.2.out)) ok h2).mono ?_
  rintro e w' ⟨r, he, hr, hb⟩
  obtain ⟨ra, rc, e1, _⟩ := id hr.sees
  rw [strs_len] at e1
  subst e1
  exact ⟨ra, rc, he, ⟨hr.mono hU.out.2.2.2.2.out.size, hb⟩, hU.out.below hb⟩
 have HM3 : Hid (∀ U B, Hid (PKeep w W U n (.slice da n.data.length dc) (.slice sa n.names.length sc)) → PBox U B (.int .i64 0) (.int .i64 0) (.slice none 0 0) (.slice none 0 0) (.slice none 0 0) → Calls Tryz.prog 60 #[.agg #[.int .i64 n.kind, .slice da n.data.length dc, .slice sa n.names.length sc]] U fun e w' => ∃ ra rc, e = .returned (.slice ra n.names.length rc) ∧ w'.cell? ⟨B, 0, none⟩ = some (.int .i64 0) ∧ w'.cell? ⟨B, 1, none⟩ = some (.int .i64 0) ∧ w'.cell? ⟨B, 2, none⟩ = some (.slice none 0 0) ∧ w'.cell? ⟨B, 3, none⟩ = some (.slice none 0 0) ∧ w'.cell? ⟨B, 4, none⟩ = some (.slice none 0 0) ∧ (∀ j, w'.frozen? ⟨B, j, none⟩ = false) ∧ B < w'.heap.size ∧ Hid (RowV w' W.heap.size 9 (.slice ra n.names.length rc) (strs n.names) ∧ Below U.heap.size U w') ∧ Hid (PKeep w W w' n (.slice da n.data.length dc) (.slice sa n.names.length sc)) ∧ Hid (PBox w' B (.int .i64 0) (.int .i64 0) (.slice none 0 0) (.slice none 0 0) (.slice none 0 0))) := fun U B hU hZ => by
  refine (HM.out U hU).mono ?_
  rintro e w' ⟨ra, rc, he, HX, hk⟩
  have hz := hZ.below HX.out.2
  have z := hz.c
  exact ⟨ra, rc, he, z.1, z.2.1, z.2.2.1, z.2.2.2.1, z.2.2.2.2.1, z.2.2.2.2.2.1, z.2.2.2.2.2.2, HX, hk, hz⟩
 have HMw : Hid (Calls Tryz.prog 60 _ W.drew _) := HM.out W.drew HKd
 have HMv : Hid (Calls Tryz.prog 60 _ (W.alloc (.cells #[.int .i64 0, .int .i64 0, .slice none 0 0, .slice none 0 0, .slice none 0 0] 60)).drew _) := HM3.out (W.alloc (.cells #[.int .i64 0, .int .i64 0, .slice none 0 0, .slice none 0 0, .slice none 0 0] 60)).drew W.heap.size HKv (pbox_new W _ _ _ _ _)
 have HSS : Hid (SeesS w (.slice sa n.names.length sc) (pairsB n)) := hs
 have HLN : Hid (n.names.length = n.inos.length ∧ n.names.length ≤ 10000) := ⟨ok.len, h2⟩
 have nl : (n.names.length : Int) ≤ 10000 := by omega
 go_enter Tryz.func35, Tryz.ntmps35
 go_upto_region 1 with fail
 rw [← hW]
 clear hW hd hs ok h1 h2
 go_cut [5] (fun s5 wc => ∃ B vd vn, s5 = .pointer (some ⟨B, 0, none⟩) ∧ Hid (PMid w W wc B n vd vn))
 case first =>
  go_region_held3 (fun w' => w'.cell? ⟨w.heap.size, 0, none⟩ = some (.int .i64 n.kind) ∧ w'.cell? ⟨w.heap.size, 1, none⟩ = some (.slice da n.data.length dc) ∧ w'.cell? ⟨w.heap.size, 2, none⟩ = some (.slice sa n.names.length sc) ∧ w.heap.size < w'.heap.size ∧ Hid (Below W.heap.size W w')) (first | with_reducible exact HKd.out | with_reducible exact HKv.out | with_reducible exact HK1.out | with_reducible exact HK2.out | with_reducible exact HK1.out.below (bel_newP _ _) | with_reducible exact HK2.out.below (bel_newP _ _) | with_reducible exact HK2.out.out hk3 (Nat.le_refl _) _ _ _ _ _ | with_reducible exact HK2.out.out hk3 (HK1.out.2.2.2.2.out.size) _ _ _ _ _) (first
   | (go_at_call 59; go_fit (HCv.out); rintro e w1 ⟨rd, cd, rfl, z0, z1, z2, z3, z4, zf, zs, HXd, HK1, HZ⟩)
   | (go_at_call 59; go_fit (HCw.out); rintro e w1 ⟨rd, cd, rfl, HXd, HK1⟩)
   | (go_at_call 59; go_fit (HC3.out w1 _ HK1 HZ.out); rintro e w2 ⟨rd, cd, rfl, z0', z1', z2', z3', z4', zf', zs', HXd, HK2, HZ2⟩)
   | (go_at_call 59; go_fit (HC3.out (w1.alloc (.cells #[.int .i64 0, .int .i64 0, .slice none 0 0, .slice none 0 0, .slice none 0 0] 60)) w1.heap.size (HK1.out.below (bel_newP _ _)) (pbox_new w1 _ _ _ _ _)); rintro e w2 ⟨rd, cd, rfl, z0', z1', z2', z3', z4', zf', zs', HXd, HK2, HZ2⟩)
   | (go_at_call 59; go_fit (HC.out w1 HK1); rintro e w2 ⟨rd, cd, rfl, HXd, HK2⟩)
   | (go_at_call 60; go_fit (HMv.out); rintro e w1 ⟨rn, cn, rfl, z0, z1, z2, z3, z4, zf, zs, HXn, HK1, HZ⟩)
   | (go_at_call 60; go_fit (HMw.out); rintro e w1 ⟨rn, cn, rfl, HXn, HK1⟩)
   | (go_at_call 60; go_fit (HM3.out w1 _ HK1 HZ.out); rintro e w2 ⟨rn, cn, rfl, z0', z1', z2', z3', z4', zf', zs', HXn, HK2, HZ2⟩)
   | (go_at_call 60; go_fit (HM3.out (w1.alloc (.cells #[.int .i64 0, .int .i64 0, .slice none 0 0, .slice none 0 0, .slice none 0 0] 60)) w1.heap.size (HK1.out.below (bel_newP _ _)) (pbox_new w1 _ _ _ _ _)); rintro e w2 ⟨rn, cn, rfl, z0', z1', z2', z3', z4', zf', zs', HXn, HK2, HZ2⟩)
   | (go_at_call 60; go_fit (HM.out w1 HK1); rintro e w2 ⟨rn, cn, rfl, HXn, HK2⟩)
  )
  · go_wp2_with fail
    go_meet
    case rel => exact ⟨_, _, _, rfl, pm1 (HXd.out.1.below HXn.out.2) HXn.out.1 HK2.out.2.2.2.2.out⟩
  · go_wp2_with fail
    go_meet
    case rel => exact ⟨_, _, _, rfl, pm2 ((HXd.out.1.below (bel_newP _ _)).below HXn.out.2) HXn.out.1 HK2.out.2.2.2.2.out HZ2.out HK1.out.2.2.2.2.out.size⟩
  · go_wp2_with fail
    go_meet
    case rel => exact ⟨_, _, _, rfl, pm2 (HXd.out.1.below HXn.out.2) HXn.out.1 HK2.out.2.2.2.2.out HZ2.out (Nat.le_refl _)⟩
 case rest =>
  obtain ⟨B, vd, vn, rfl, HP⟩ := hcut
  clear HC HC3 HCw HCv HM HM3 HMw HMv HKd HKv HK0
  obtain ⟨ao, cap, e, q1, q2, q3, q4⟩ := id HSS.out
  injection e with e1 e2 e3
  subst e1 e3
  have H4 : Hid (0 < (pairsB n).length → _) := q4
  have HPL : Hid ((pairsB n).length = n.names.length) := e2.symm
  clear q1 q2 q3 q4 e2
  have HBB : Hid (B < wc.heap.size ∧ w.heap.size ≠ B ∧ w.heap.size + 1 ≠ B ∧ w.heap.size < B ∧ w.heap.size + 1 < B) := by
   have h1 := HP.out.1.c.2.2.2.2.2.2
   have h2 := HP.out.2.1
   have h3 := HW0.out.2.2.1
   exact ⟨h1, by omega, by omega, by omega, by omega⟩
  have k2 : wc.cell? ⟨w.heap.size, 2, none⟩ = some (.slice sa n.names.length sc) := by
   have hk := (HP.out.2.2.2.2.block _ hk3).trans HW0.out.1
   simp [World.cell?, hk]
  go_wp2_with fail
  go_loopw [20] (fun s20 wr => ∃ (j : Nat) (vi : Value), j ≤ n.names.length ∧ s20 = .int .i64 (j : Int) ∧ Hid (PBox wr B (.int .i64 n.ino) (.int .i64 n.kind) vd vn vi ∧ RowV wr wc.heap.size 3 vi (intsV .i64 (n.inos.take j)) ∧ Only B wc wr)) (fun s20 _ => n.names.length - (intOf s20).toNat)
  case atStart => exact ⟨0, .slice none 0 0, Nat.zero_le _, rfl, ⟨HP.out.1, rowV_nil _ _ _, ⟨rfl, rfl, rfl, Nat.le_refl _, fun _ _ _ => rfl⟩⟩⟩
  case round =>
   obtain ⟨j, vi, hj, rfl, HR⟩ := hrel
   by_cases hlt : j < n.names.length
   · have jl : (j : Int) < (n.names.length : Int) := by omega
     have hj2 : j < (pairsB n).length := by rw [HPL.out]; exact hlt
     have hj3 : j < n.inos.length := by rw [← HLN.out.1]; exact hlt
     obtain ⟨g, off, hao, hb, hc⟩ := H4.out (by omega)
     subst hao
     have cc := at2_of hc (k := j) hj2
     have hgw : wr.heap[g]? = w.heap[g]? := by
      have h1 : g < w.heap.size := hb
      have h2 := HW0.out.2.1.size
      have h3 := HP.out.2.2.2.2.size
      have h4 := HBB.out
      rw [HR.out.2.2.block g (by omega) (by omega), HP.out.2.2.2.2.block g (by omega), HW0.out.2.1.block g h1]
     have hat : (pairsB n)[j] = (n.names[j], n.inos[j]) := by simp [pairsB]
     rw [hat] at cc
     simp only at cc
     obtain ⟨y, hy⟩ : ∃ y, n.inos[j] = y := ⟨_, rfl⟩
     obtain ⟨x, hx⟩ : ∃ x, n.names[j] = x := ⟨_, rfl⟩
     rw [hy, hx] at cc
     have c0 : wr.cell? ⟨g, off + j * 2, none⟩ = some (.string x) := by rw [← cc.1]; simp only [World.cell?, hgw]
     have c1 : wr.cell? ⟨g, off + j * 2 + 1, none⟩ = some (.int .i64 y) := by rw [← cc.2]; simp only [World.cell?, hgw]
     have HX : Hid (n.inos.take (j + 1) = n.inos.take j ++ [y]) := by show _ = _; rw [List.take_succ_eq_append_getElem hj3, hy]
     have c4 := HR.out.1.c.2.2.2.2.1
     have cf := HR.out.1.c.2.2.2.2.2.1
     have cB := HR.out.1.c.2.2.2.2.2.2
     obtain ⟨ai, ci, hvi⟩ : ∃ a c, vi = .slice a j c := by
      obtain ⟨a, c, h, _⟩ := HR.out.2.1.sees
      rw [intsV_len, List.length_take, Nat.min_eq_left (by omega)] at h
      exact ⟨a, c, h⟩
     subst hvi
     have HRL : Hid ((intsV .i64 (n.inos.take j)).length ≤ 10000) := by show _ ≤ _; rw [intsV_len, List.length_take]; have := HLN.out; omega
     clear cc hc hgw hat hy hx hj2 hj3
     have HW2 : Hid (RowV ((wr.alloc (.cells #[.string x, .int .i64 y] 97)).alloc (.cells #[.int .i64 y] 3)) wc.heap.size 3 (.slice ai j ci) (intsV .i64 (n.inos.take j)) ∧ Sees ((wr.alloc (.cells #[.string x, .int .i64 y] 97)).alloc (.cells #[.int .i64 y] 3)) (.slice (some ⟨wr.heap.size + 1, 0, none⟩) 1 1) [.int .i64 y] ∧ Below wr.heap.size wr ((wr.alloc (.cells #[.string x, .int .i64 y] 97)).alloc (.cells #[.int .i64 y] 3)) ∧ wc.heap.size ≤ ((wr.alloc (.cells #[.string x, .int .i64 y] 97)).alloc (.cells #[.int .i64 y] 3)).heap.size) := by
      have b1 := bel_newP wr (.cells #[.string x, .int .i64 y] 97)
      have b2 := bel_newP (wr.alloc (.cells #[.string x, .int .i64 y] 97)) (.cells #[.int .i64 y] 3)
      have b3 := bel2v b1 b2
      exact ⟨(HR.out.2.1.below b1).below b2, sees_one _ 3 (.int .i64 y) _ (by simp), b3, Nat.le_trans HR.out.2.2.size b3.size⟩
     have HLE : Hid (((intsV .i64 (n.inos.take j)).length + ([.int .i64 y] : List Value).length) * 16 ≤ 140737488355328) := by
      show _ ≤ _
      have := HRL.out
      rw [List.length_singleton]
      omega
     go_wp2_with (at_builtin; refine wpList_appV Tryz.underlying38 infoIp rfl (by omega) rfl _ _ rfl wc.heap.size _ (intsV .i64 (n.inos.take j)) rfl HW2.out.1 _ [.int .i64 y] rfl HW2.out.2.1 (by intro u hu; simp at hu; subst hu; rfl) HLE.out HW2.out.2.2.2 ?_; intro v' w' q1 q2; obtain ⟨a', m', k', rfl⟩ := rowV_form q1; obtain ⟨c4', cf', HB2⟩ := plain_app HBB.out.1 HR.out.1 HR.out.2.2 HW2.out.2.2.1 HW2.out.2.2.2 q2; have HQ : Hid (RowV w' wc.heap.size 3 (.slice a' m' k') (intsV .i64 (n.inos.take j) ++ [.int .i64 y])) := q1; clear q1 q2 c4 cf)
     have HN : Hid (PBox (w'.setCell ⟨B, 4, none⟩ (.slice a' m' k')) B (.int .i64 n.ino) (.int .i64 n.kind) vd vn (.slice a' m' k') ∧ RowV (w'.setCell ⟨B, 4, none⟩ (.slice a' m' k')) wc.heap.size 3 (.slice a' m' k') (intsV .i64 (n.inos.take (j + 1))) ∧ Only B wc (w'.setCell ⟨B, 4, none⟩ (.slice a' m' k'))) := by
      refine ⟨pset HB2.out.1 (.slice a' m' k'), rowV_set ?_ HBB.out.1 _, HB2.out.2.trans (only_set B w' 4 (.slice a' m' k'))⟩
      have q1 := HQ.out
      rw [HX.out]
      unfold intsV at q1 ⊢
      rw [List.map_append]
      exact q1
     clear HQ HB2 HW2 HR HX
     go_roundw
     case rel => exact ⟨j + 1, (.slice a' m' k'), by omega, by simp, HN⟩
     case measure => simp [intOf]; omega
   · have jl : ¬ (j : Int) < (n.names.length : Int) := by omega
     have ej : j = n.names.length := by omega
     obtain ⟨ai, mi, ci, rfl⟩ := rowV_form HR.out.2.1
     obtain ⟨ad, cd, hvd, _⟩ := id HP.out.2.2.1.sees
     obtain ⟨an, cn, hvn, _⟩ := id HP.out.2.2.2.1.sees
     rw [intsV_len] at hvd
     rw [strs_len] at hvn
     subst hvd hvn
     obtain ⟨b0, b1, b2, b3, b4, bf, bl⟩ := HR.out.1.c
     have HZ4 : Hid (PBox wr (w.heap.size + 1) (.int .i64 0) (.int .i64 0) (.slice none 0 0) (.slice none 0 0) (.slice none 0 0)) := by
      have h1 := HP.out.2.2.2.2.block (w.heap.size + 1) (by have := HW0.out.2.2.1; omega)
      have h2 := HR.out.2.2.block (w.heap.size + 1) (by have := HBB.out; omega) HBB.out.2.2.1
      exact (h2.trans h1).trans HW0.out.2.2.2
     obtain ⟨y0, y1, y2, y3, y4, yf, yl⟩ := HZ4.out.c
     go_wp2
     refine bodyPost_ret (v := .agg #[.int .i64 n.ino, .int .i64 n.kind, .slice ad n.data.length cd, .slice an n.names.length cn, .slice ai mi ci]) (by simp [results, Tryz.results35, go_sem, *]) rfl ?_
     refine ⟨_, _, _, rfl, ?_⟩
     refine plain_end HP.out HR.out.1 HR.out.2.1 HR.out.2.2 HZ4.out HBB.out.1 HW0.out.2.1 HW0.out.2.2.1 ?_
     rw [ej, HLN.out.1, List.take_length]
end Go.Proofs.YtbebgobboccjcaaGreatDoor
