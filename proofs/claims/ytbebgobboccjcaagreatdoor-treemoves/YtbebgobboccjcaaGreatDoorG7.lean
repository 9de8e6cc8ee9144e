/- Several texts in one: LOwn L5Awake L5Stutters L5Renames. -/
import Derived.Test.YtbebgobboccjcaaGreatDoorMDDo2
import Derived.Test.YtbebgobboccjcaaGreatDoorMDDo3
import Derived.Test.YtbebgobboccjcaaGreatDoorG4
import Derived.Test.YtbebgobboccjcaaGreatDoorG3
import Derived.Test.YtbebgobboccjcaaGreatDoorMMLimits5
import Derived.Test.YtbebgobboccjcaaGreatDoorMLSmall
import Derived.Test.YtbebgobboccjcaaGreatDoorMLSame
import Derived.Test.YtbebgobboccjcaaGreatDoorMDAll
import Derived.Test.YtbebgobboccjcaaGreatDoorG5
import Derived.Test.YtbebgobboccjcaaGreatDoorMRCode
/- A tree that a law made and works on; New, Do, Links, Find over it. -/
namespace Go.Proofs.YtbebgobboccjcaaGreatDoor
open Go.RowKit Kit
set_option linter.unusedVariables false

/-- A tree of the call's own. -/
structure Own (w0 w : World) (p b : Nat) (t : TreeB) : Prop where
  tree : DTree w p b t
  hp : w0.heap.size ≤ p
  hb : w0.heap.size ≤ b
  bel : Below w0.heap.size w0 w
  good : Good t
theorem Own.below {w0 w w' : World} {p b : Nat} {t : TreeB} (h : Own w0 w p b t) (hb : Below w.heap.size w w') : Own w0 w' p b t := ⟨h.tree.below hb, h.hp, h.hb, bel2e h.bel hb, h.good⟩
theorem Own.turn {w0 w w' : World} {p b : Nat} {t t' : TreeB} (h : Own w0 w p b t) (hT : DTree w' p b t') (ht : Turn p b w w') (hg : Good t') : Own w0 w' p b t' := ⟨hT, h.hp, h.hb, ht.below h.bel h.bel.size h.hp h.hb, hg⟩
theorem Own.lt {w0 w : World} {p b : Nat} {t : TreeB} (h : Own w0 w p b t) : p < w.heap.size ∧ b < w.heap.size := h.tree.cells.2.2.2
theorem turn_block {w w' : World} {p b g : Nat} {o : Obj} (ht : Turn p b w w') (h : w.heap[g]? = some o) (hp : g ≠ p) (hb : g ≠ b) : w'.heap[g]? = some o := (ht.block g (Array.getElem?_eq_some_iff.1 h).1 hp hb).trans h
theorem below_block {w w' : World} {g : Nat} {o : Obj} (hb : Below w.heap.size w w') (h : w.heap[g]? = some o) : w'.heap[g]? = some o := (hb.block g (Array.getElem?_eq_some_iff.1 h).1).trans h
theorem lnew (w : World) : Calls Tryz.prog 9 #[] w fun e w' => ∃ p b, e = .returned (.pointer (some ⟨p, 0, none⟩)) ∧ Hid (Own w w' p b newB) := by
  refine (dnew_any w).mono ?_
  rintro e w' ⟨p, b, h1, h2, h3, h4, h5, h6⟩
  exact ⟨p, b, h1, ⟨h2, h3, h4, h6, newB_good⟩⟩
/-- Do, of any operation. -/
theorem ddo_any (o : OpB) (da : Option Addr) (dc : Nat) (w : World) (p b : Nat) (t : TreeB) (hT : DTree w p b t) (hG : Good t) (hs1 : o.path.size ≤ maxLen) (hs2 : o.to.size ≤ maxLen) (hdv : Sees w (.slice da o.data.length dc) (intsV .u8 o.data)) :
    Calls Tryz.prog 14 #[.pointer (some ⟨p, 0, none⟩), .agg #[.int .i64 o.kind, .string o.path, .string o.to, .int .i64 o.off, .int .i64 o.n, .slice da o.data.length dc, .int .i64 o.snap]] w fun e w' => ToldF w p b (doB t o) o.path e w' := by
  by_cases hc : (doB t o).2.2 = 0
  · exact ddo_ok o da dc w p b t hT hG hs1 hs2 hdv hc
  · exact ddo_err o da dc w p b t hT hG hs1 hs2 hdv hc
/-- An answer without an error. -/
def Took (w0 w : World) (p b : Nat) (t : TreeB) (r : ReplyB) (e : Ending) (w' : World) : Prop := ∃ ra rc na nc sa sc, e = .returned (.tuple #[.agg #[.int .i64 r.ino, .int .i64 r.kind, .int .i64 r.size, .int .i64 r.links, .int .i64 r.n, .slice ra r.data.length rc, .slice na r.names.length nc, .slice sa r.snaps.length sc], .nilIface]) ∧
  Hid (Sees w' (.slice ra r.data.length rc) (intsV .u8 r.data) ∧ Sees w' (.slice na r.names.length nc) (strs r.names) ∧ Own w0 w' p b t ∧ Turn p b w w')
/-- An answer with one. -/
def Fell (w0 w : World) (p b : Nat) (t : TreeB) (r : ReplyB) (c : Int) (path : ByteArray) (e : Ending) (w' : World) : Prop := ∃ ra rc na nc sa sc g, e = .returned (.tuple #[.agg #[.int .i64 r.ino, .int .i64 r.kind, .int .i64 r.size, .int .i64 r.links, .int .i64 r.n, .slice ra r.data.length rc, .slice na r.names.length nc, .slice sa r.snaps.length sc], .iface 85 (.pointer (some ⟨g, 0, none⟩))]) ∧
  Hid (w'.heap[g]? = some (.cells #[.string treeS, .string path, .iface 80 (.int .i64 c)] 89) ∧ Own w0 w' p b t ∧ Turn p b w w')
theorem reply_form {w : World} {v : Value} {r : ReplyB} (h : ReplyAt w v r) : ∃ ra rc na nc sa sc, v = .agg #[.int .i64 r.ino, .int .i64 r.kind, .int .i64 r.size, .int .i64 r.links, .int .i64 r.n, .slice ra r.data.length rc, .slice na r.names.length nc, .slice sa r.snaps.length sc] ∧ Sees w (.slice ra r.data.length rc) (intsV .u8 r.data) ∧ Sees w (.slice na r.names.length nc) (strs r.names) := by
  obtain ⟨dv, nv, sv, h1, h2, h3, h4⟩ := h
  obtain ⟨a1, c1, e1, _⟩ := id h2
  obtain ⟨a2, c2, e2, _⟩ := id h3
  obtain ⟨a3, c3, e3, _⟩ := id h4
  rw [intsV_len] at e1 e3
  rw [strs_len] at e2
  subst e1 e2 e3
  exact ⟨a1, c1, a2, c2, a3, c3, h1, h2, h3⟩
theorem ldo_ok (o : OpB) (da : Option Addr) (dc : Nat) (w0 w : World) (p b : Nat) (t t' : TreeB) (r : ReplyB) (h : Own w0 w p b t) (hs1 : o.path.size ≤ maxLen) (hs2 : o.to.size ≤ maxLen) (hd : bytesIn o.data) (hdv : Sees w (.slice da o.data.length dc) (intsV .u8 o.data)) (hx : doB t o = (t', r, 0)) :
    Calls Tryz.prog 14 #[.pointer (some ⟨p, 0, none⟩), .agg #[.int .i64 o.kind, .string o.path, .string o.to, .int .i64 o.off, .int .i64 o.n, .slice da o.data.length dc, .int .i64 o.snap]] w fun e w' => Took w0 w p b t' r e w' := by
  refine (ddo_any o da dc w p b t h.tree h.good hs1 hs2 hdv).mono ?_
  rintro e w' ⟨rv, ev, he, h1, h2, h3, h4⟩
  have hg := do_good h.good o hd
  rw [hx] at h1 h2 h3 hg
  simp only at h1 h2 h3 hg
  obtain ⟨ra, rc, na, nc, sa, sc, e1, s1, s2⟩ := reply_form h1
  rcases h2 with ⟨_, h2⟩ | ⟨h2, _⟩
  · subst h2 e1
    exact ⟨ra, rc, na, nc, sa, sc, he, ⟨s1, s2, h.turn h3 h4 hg, h4⟩⟩
  · exact absurd rfl h2
theorem ldo_err (o : OpB) (da : Option Addr) (dc : Nat) (w0 w : World) (p b : Nat) (t t' : TreeB) (r : ReplyB) (c : Int) (h : Own w0 w p b t) (hs1 : o.path.size ≤ maxLen) (hs2 : o.to.size ≤ maxLen) (hd : bytesIn o.data) (hdv : Sees w (.slice da o.data.length dc) (intsV .u8 o.data)) (hx : doB t o = (t', r, c)) (hc : c ≠ 0) :
    Calls Tryz.prog 14 #[.pointer (some ⟨p, 0, none⟩), .agg #[.int .i64 o.kind, .string o.path, .string o.to, .int .i64 o.off, .int .i64 o.n, .slice da o.data.length dc, .int .i64 o.snap]] w fun e w' => Fell w0 w p b t' r c o.path e w' := by
  refine (ddo_any o da dc w p b t h.tree h.good hs1 hs2 hdv).mono ?_
  rintro e w' ⟨rv, ev, he, h1, h2, h3, h4⟩
  have hg := do_good h.good o hd
  rw [hx] at h1 h2 h3 hg
  simp only at h1 h2 h3 hg
  obtain ⟨ra, rc, na, nc, sa, sc, e1, s1, s2⟩ := reply_form h1
  rcases h2 with ⟨h2, _⟩ | ⟨_, g, h2, h5⟩
  · exact absurd h2 hc
  · subst h2 e1
    exact ⟨ra, rc, na, nc, sa, sc, g, he, ⟨h5, h.turn h3 h4 hg, h4⟩⟩
theorem sees_noData (w : World) : Sees w (.slice none 0 0) (intsV .u8 []) := sees_nil0 _ _ rfl
theorem bytesIn_nil : bytesIn [] := fun z hz => by cases hz
theorem llinks (i : Int) (w0 w : World) (p b : Nat) (t : TreeB) (h : Own w0 w p b t) :
    Calls Tryz.prog 29 #[.pointer (some ⟨p, 0, none⟩), .int .i64 i] w fun e w' => e = .returned (.int .i64 (linksD t i : Nat)) ∧ Hid (Below w.heap.size w w') := dlinks_any i w p b t h.tree (h.good.1.fair)
end Go.Proofs.YtbebgobboccjcaaGreatDoor
/- dolmenlaw5.awake. -/
namespace Go.Proofs.YtbebgobboccjcaaGreatDoor
open Go.RowKit Kit
set_option linter.unusedVariables false

theorem bel_new (w : World) (o : Obj) : Below w.heap.size w (w.alloc o) := (Below.refl _ _).alloc (Nat.le_refl _) _
/-- A box that stands, behind a Do. -/
theorem box_turn {w w' : World} {p b : Nat} {o : Obj} (hp : p < w.heap.size) (hb : b < w.heap.size) (ht : Turn p b (w.alloc o) w') : w'.heap[w.heap.size]? = some o := turn_block ht (MapKept.heap_alloc w o).1 (by omega) (by omega)
theorem cell_of {w : World} {g j : Nat} {cs : Array Value} {t : TypeId} {v : Value} (h : w.heap[g]? = some (.cells cs t)) (hj : cs[j]? = some v) : w.cell? ⟨g, j, none⟩ = some v := by simp [World.cell?, h, hj]
set_option maxRecDepth 4000 in
set_option maxHeartbeats 4000000 in
theorem awake5_any (w : World) (hg : Tied w) : Calls Tryz.prog 8 #[] w fun e w' => e = .returned (.bool true) ∧ Below w.heap.size w w' := by
  have HG : Hid (Tied w) := hg
  have HN : Hid (Calls Tryz.prog 9 _ _ _) := lnew w
  have hx1 : doB newB (opB 1 pA) = (tA, (doB newB (opB 1 pA)).2.1, 0) := Prod.ext rfl (Prod.ext rfl awake1.1)
  have hi1 := awake1.2
  have hx2 : doB tA (opB 1 pA) = ((doB tA (opB 1 pA)).1, (doB tA (opB 1 pA)).2.1, 6) := Prod.ext rfl (Prod.ext rfl awake2)
  have hi2 := awake3
  generalize (doB newB (opB 1 pA)).2.1 = r1 at hx1 hi1
  generalize (doB tA (opB 1 pA)).1 = t2 at hx2 hi2
  generalize (doB tA (opB 1 pA)).2.1 = r2 at hx2
  have HD1 : Hid (∀ w1 p b, Own w w1 p b newB → Calls Tryz.prog 14 #[.pointer (some ⟨p, 0, none⟩), .agg #[.int .i64 1, .string ⟨#[47, 97]⟩, .string ⟨#[]⟩, .int .i64 0, .int .i64 0, .slice none 0 0, .int .i64 0]] w1 fun e w' => Took w w1 p b tA r1 e w') := fun w1 p b h => ldo_ok (opB 1 pA) none 0 w w1 p b newB tA r1 h (by decide) (by decide) bytesIn_nil (sees_noData _) hx1
  have HD2 : Hid (∀ w1 p b, Own w w1 p b tA → Calls Tryz.prog 14 #[.pointer (some ⟨p, 0, none⟩), .agg #[.int .i64 1, .string ⟨#[47, 97]⟩, .string ⟨#[]⟩, .int .i64 0, .int .i64 0, .slice none 0 0, .int .i64 0]] w1 fun e w' => Fell w w1 p b t2 r2 6 ⟨#[47, 97]⟩ e w') := fun w1 p b h => ldo_err (opB 1 pA) none 0 w w1 p b tA t2 r2 6 h (by decide) (by decide) bytesIn_nil (sees_noData _) hx2 (by decide)
  have HI : Hid (∀ w1 g, Tied w1 → w1.heap[g]? = some (.cells #[.string treeS, .string ⟨#[47, 97]⟩, .iface 80 (.int .i64 6)] 89) → Calls Tryz.prog 19 #[.iface 85 (.pointer (some ⟨g, 0, none⟩)), .int .i64 6, .string ⟨#[116, 114, 101, 101]⟩, .string ⟨#[47, 97]⟩] w1 fun e w' => e = .returned (.bool true) ∧ Below w1.heap.size w1 w') := fun w1 g h1 h2 => ais_fault 6 w1 g treeS ⟨#[47, 97]⟩ h1 (by omega) (by omega) h2 (by decide) (by decide)
  have HL : Hid (∀ w1 p b, Own w w1 p b t2 → Calls Tryz.prog 29 #[.pointer (some ⟨p, 0, none⟩), .int .i64 2] w1 fun e w' => e = .returned (.int .i64 1) ∧ Hid (Below w1.heap.size w1 w')) := fun w1 p b h => by
    have := llinks 2 w w1 p b t2 h
    rw [hi2] at this
    exact this
  clear hx1 hx2 hi2 hg
  go_enter Tryz.func8, Tryz.ntmps8
  go_wp2_with fail
  go_at_call 9
  refine HN.out.mono ?_
  rintro e w1 ⟨p, b, rfl, HO⟩
  clear HN
  go_wp2_with fail
  go_at_call 14
  refine (HD1.out _ _ _ HO.out).mono ?_
  rintro e w2 ⟨ra, rc, na, nc, sa, sc, rfl, HT⟩
  have HO2 : Hid (Own w w2 p b tA) := HT.out.2.2.1
  clear HO HT HD1
  go_wp2_with fail
  go_at_call 14
  refine (HD2.out _ _ _ (HO2.out.below (bel_new _ _))).mono ?_
  rintro e w3 ⟨ra2, rc2, na2, nc2, sa2, sc2, g, rfl, HF⟩
  have c0 : w3.cell? ⟨w2.heap.size, 0, none⟩ = some (.int .i64 2) := by
    have h1 := HO2.out.lt
    have h2 := box_turn h1.1 h1.2 HF.out.2.2
    exact cell_of h2 rfl
  have hl3 : w2.heap.size < w3.heap.size := cell_lt c0
  have HO3 : Hid (Own w w3 p b t2) := HF.out.2.1
  have HQ : Hid (w3.heap[g]? = some (.cells #[.string treeS, .string ⟨#[47, 97]⟩, .iface 80 (.int .i64 6)] 89)) := HF.out.1
  clear HF HO2 HD2
  go_wp2_with fail
  go_at_call 19
  refine (HI.out _ _ (tied_below HG.out (HO3.out.below (bel_new _ _)).bel) (below_block (bel_new _ _) HQ.out)).mono ?_
  rintro e w4 ⟨rfl, hb4⟩
  have HO4 : Hid (Own w w4 p b t2) := (HO3.out.below (bel_new _ _)).below hb4
  clear hb4 HO3 HQ HI HG
  go_wp2_with fail
  go_at_call 29
  refine (HL.out _ _ _ HO4.out).mono ?_
  rintro e w5 ⟨rfl, HB5⟩
  have HO5 : Hid (Own w w5 p b t2) := HO4.out.below HB5.out
  clear HB5 HO4 HL
  go_wp2
  go_ret
  exact ⟨rfl, HO5.out.bel⟩
end Go.Proofs.YtbebgobboccjcaaGreatDoor
/- dolmenlaw5.TreeStutters. -/
namespace Go.Proofs.YtbebgobboccjcaaGreatDoor
open Go.RowKit Kit
set_option linter.unusedVariables false

theorem own_from {w w2 w3 : World} {p b : Nat} {t : TreeB} (hb : Below w.heap.size w w2) (h : Own w2 w3 p b t) : Own w w3 p b t := ⟨h.tree, Nat.le_trans hb.size h.hp, Nat.le_trans hb.size h.hb, bel2e hb h.bel, h.good⟩
theorem ldo_go (o : OpB) (da : Option Addr) (dc : Nat) (w0 w : World) (p b : Nat) (t : TreeB) (h : Own w0 w p b t) (hf : OpFit w o da dc) :
    Calls Tryz.prog 14 #[.pointer (some ⟨p, 0, none⟩), .agg #[.int .i64 o.kind, .string o.path, .string o.to, .int .i64 o.off, .int .i64 o.n, .slice da o.data.length dc, .int .i64 o.snap]] w fun e w' => ∃ rv ev, e = .returned (.tuple #[rv, ev]) ∧ Hid (Own w0 w' p b (doB t o).1 ∧ Turn p b w w') := by
  refine (ddo_any o da dc w p b t h.tree h.good hf.2.2.1 hf.2.2.2 hf.1).mono ?_
  rintro e w' ⟨rv, ev, he, h1, h2, h3, h4⟩
  exact ⟨rv, ev, he, ⟨h.turn h3 h4 (do_good h.good o hf.2.1), h4⟩⟩
theorem lallF (w0 w : World) (p b : Nat) (t : TreeB) (h : Own w0 w p b t) : Calls Tryz.prog 13 #[.pointer (some ⟨p, 0, none⟩)] w fun e w' => ∃ a c, e = .returned (.agg #[.slice a t.nodes.length c, .int .i64 t.next]) ∧ Hid (TreeF w' w.heap.size (.agg #[.slice a t.nodes.length c, .int .i64 t.next]) t ∧ Below w.heap.size w w') := dall_any w p b t h.tree h.good
theorem good_kinds {t : TreeB} (h : Good t) : ∀ n ∈ t.nodes, n.kind = 1 ∨ n.kind = 2 := fun n hn => h.1.fair.kind hn
end Go.Proofs.YtbebgobboccjcaaGreatDoor
/- dolmenlaw5.TreeRenames. -/
namespace Go.Proofs.YtbebgobboccjcaaGreatDoor
open Go.RowKit Kit
set_option linter.unusedVariables false

theorem lfind (s : ByteArray) (w0 w : World) (p b : Nat) (t : TreeB) (h : Own w0 w p b t) (hs : s.size ≤ maxLen) : Calls Tryz.prog 22 #[.pointer (some ⟨p, 0, none⟩), .string s] w fun e w' => e = .returned (.tuple #[.int .i64 (outW2 t (findB t s)).1, errV (outW2 t (findB t s)).2]) ∧ Hid (Own w0 w' p b t) := (dfind_any s w p b t h.tree h.good.1.fair hs).mono fun e w' hh => ⟨hh.1, h.below hh.2⟩
theorem outW2_ok {t : TreeB} {s : ByteArray} {k : Nat} (h : findB t s = .ok k) : outW2 t (findB t s) = ((nodeAt t k).ino, 0) := by rw [h]; rfl
theorem outW2_err {t : TreeB} {s : ByteArray} {x : Int} (h : findB t s = .error x) : outW2 t (findB t s) = (0, x) := by rw [h]; rfl
end Go.Proofs.YtbebgobboccjcaaGreatDoor
