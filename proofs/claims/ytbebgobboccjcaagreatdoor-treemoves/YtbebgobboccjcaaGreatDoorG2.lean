/- Several texts in one: DMem DNew First AsF0 More NSplit NSplit2 NJoin NParent TLaw. -/
import Derived.Test.YtbebgobboccjcaaGreatDoorG1
import Derived.WalkSpells
import Derived.Test.YtbebgobboccjcaaGreatDoorMIs
import Derived.Test.YtbebgobboccjcaaGreatDoorMShelf
import Derived.Lib.SplitLaws
import Derived.Lib.IndexMore
import Derived.Shelf.Strings.OnBuilder
import Derived.Deep.RegionHeld3
/- The program's tree in memory. -/
namespace Go.Proofs.YtbebgobboccjcaaGreatDoor
open Go.RowKit Kit
set_option linter.unusedVariables false

/-- A node of the program's, with its two slices. -/
structure DN where
  n : NodeB
  d : Value
  s : Value
def DN.val (f : DN) : Value := .agg #[.int .i64 f.n.kind, f.d, f.s]
def DN.ent (f : DN) : Int × Value := (f.n.ino, f.val)
def slotC (p : ByteArray × Int) : List Value := [.string p.1, .int .i64 p.2]
def flatS (ps : List (ByteArray × Int)) : List Value := ps.flatMap slotC
theorem flatS_len (ps : List (ByteArray × Int)) : (flatS ps).length = ps.length * 2 := by
  induction ps with
  | nil => rfl
  | cons f fs ih => unfold flatS at *; rw [List.flatMap_cons, List.length_append, ih]; simp [slotC]; omega
theorem flatS_append (a b : List (ByteArray × Int)) : flatS (a ++ b) = flatS a ++ flatS b := by unfold flatS; rw [List.flatMap_append]
theorem flatS_at : ∀ (fs : List (ByteArray × Int)) (k : Nat) (h : k < fs.length) (j : Nat) (hj : j < 2), (flatS fs)[k * 2 + j]? = (slotC fs[k])[j]?
  | f :: fs, 0, _, j, hj => by
    unfold flatS
    rw [List.flatMap_cons, List.getElem?_append_left (by simp [slotC]; omega)]
    simp
  | f :: fs, k + 1, h, j, hj => by
    have ih := flatS_at fs k (by simpa using h) j hj
    unfold flatS at *
    rw [List.flatMap_cons, List.getElem?_append_right (by simp [slotC]; omega)]
    have e : (k + 1) * 2 + j - (slotC f).length = k * 2 + j := by simp [slotC]; omega
    rw [e, ih]; rfl
/-- What a slice of names with numbers shows. -/
def SeesS (w : World) (v : Value) (ps : List (ByteArray × Int)) : Prop :=
  ∃ ao cap, v = .slice ao ps.length cap ∧ ps.length ≤ cap ∧ cap ≤ maxLen ∧ (ao = none → cap = 0) ∧ (0 < ps.length → ∃ b off, ao = some ⟨b, off, none⟩ ∧ b < w.heap.size ∧ ∀ j x, (flatS ps)[j]? = some x → w.cell? ⟨b, off + j, none⟩ = some x)
theorem SeesS.below {w w' : World} {v : Value} {ps : List (ByteArray × Int)} (h : SeesS w v ps) (hb : Below w.heap.size w w') : SeesS w' v ps := by
  obtain ⟨ao, cap, h1, h2, h3, h4, h5⟩ := h
  refine ⟨ao, cap, h1, h2, h3, h4, fun h0 => ?_⟩
  obtain ⟨b, off, e, hl, hh⟩ := h5 h0
  exact ⟨b, off, e, Nat.lt_of_lt_of_le hl hb.size, fun i x hx => (hb.cell (by exact hl)).trans (hh i x hx)⟩
theorem at2_of {w : World} {b off : Nat} {ps : List (ByteArray × Int)} (hh : ∀ j x, (flatS ps)[j]? = some x → w.cell? ⟨b, off + j, none⟩ = some x) {k : Nat} (hk : k < ps.length) :
    w.cell? ⟨b, off + k * 2, none⟩ = some (.string ps[k].1) ∧ w.cell? ⟨b, off + k * 2 + 1, none⟩ = some (.int .i64 ps[k].2) := by
  have hc : ∀ j, j < 2 → ∀ x, (slotC ps[k])[j]? = some x → w.cell? ⟨b, off + k * 2 + j, none⟩ = some x := fun j hj x hx => by
    have := hh (k * 2 + j) x ((flatS_at ps k hk j hj).trans hx)
    rw [Nat.add_assoc]; exact this
  exact ⟨hc 0 (by omega) _ rfl, hc 1 (by omega) _ rfl⟩
def DN.is (w : World) (f : DN) : Prop := Sees w f.d (intsV .u8 f.n.data) ∧ SeesS w f.s (pairsB f.n)
theorem DN.is.below {w w' : World} {f : DN} (h : f.is w) (hb : Below w.heap.size w w') : f.is w' := ⟨h.1.below hb, h.2.below hb⟩
/-- The variable at block p holds a tree whose map is block b. -/
def DAt (w : World) (p b : Nat) (ds : List DN) (nx : Int) : Prop :=
  w.heap[p]? = some (.cells #[.map (some b), .int .i64 nx] 52) ∧ MapIs Tryz.prog 3 w b (ds.map DN.ent) ∧ ∀ f ∈ ds, f.is w
def DTree (w : World) (p b : Nat) (t : TreeB) : Prop := ∃ ds, DAt w p b ds t.next ∧ ds.map DN.n = t.nodes
/-- Nothing has turned but blocks p and b; new ones may be there. -/
structure Turn (p b : Nat) (w w' : World) : Prop where
  os : w'.os = w.os
  tape : w'.tape = w.tape
  output : w'.output = w.output
  size : w.heap.size ≤ w'.heap.size
  block : ∀ k, k < w.heap.size → k ≠ p → k ≠ b → w'.heap[k]? = w.heap[k]?
theorem Turn.refl (p b : Nat) (w : World) : Turn p b w w := ⟨rfl, rfl, rfl, Nat.le_refl _, fun _ _ _ _ => rfl⟩
theorem Turn.trans {p b : Nat} {w w1 w2 : World} (h : Turn p b w w1) (k : Turn p b w1 w2) : Turn p b w w2 :=
  ⟨k.os.trans h.os, k.tape.trans h.tape, k.output.trans h.output, Nat.le_trans h.size k.size, fun i h1 h2 h3 => (k.block i (Nat.lt_of_lt_of_le h1 h.size) h2 h3).trans (h.block i h1 h2 h3)⟩
theorem turn_below {p b : Nat} {w w' : World} (h : Below w.heap.size w w') : Turn p b w w' := ⟨h.os, h.tape, h.output, h.size, fun k h1 _ _ => h.block k h1⟩
theorem turn_grown {p b : Nat} {w w' : World} (h : w.grownBy w' (some b)) : Turn p b w w' := ⟨h.os, h.tape, h.output, h.size, fun k h1 _ h3 => h.block k h1 (fun e => by injection e with e; exact h3 e)⟩
theorem turn_set (p b : Nat) (w : World) (o : Nat) (v : Value) : Turn p b w (w.setCell ⟨p, o, none⟩ v) := ⟨rfl, rfl, rfl, by simp [World.setCell], fun k _ h2 _ => Below.heap_setCell _ _ _ k h2⟩
theorem Turn.below {p b B : Nat} {w0 w w' : World} (h : Turn p b w w') (h0 : Below B w0 w) (hB : B ≤ w.heap.size) (hp : B ≤ p) (hb : B ≤ b) : Below B w0 w' :=
  h0.trans ⟨h.os, h.tape, h.output, h.size, fun k hk => h.block k (by omega) (by omega) (by omega)⟩
/-- Bytes that are shown are no part of a tree's variable, nor of its map. -/
theorem sees_turn {p b : Nat} {w w' : World} {v : Value} {l : List Int} {ds : List DN} {nx : Int} (h : Sees w v (intsV .u8 l)) (hd : DAt w p b ds nx) (ht : Turn p b w w') : Sees w' v (intsV .u8 l) := by
  obtain ⟨ao, cap, h1, h2, h3, h4, h5⟩ := h
  refine ⟨ao, cap, h1, h2, h3, h4, fun h0 => ?_⟩
  obtain ⟨g, off, e, hl, hh⟩ := h5 h0
  have h00 := hh 0 _ (intsV_at .u8 l 0 (by rw [intsV_len] at h0; exact h0))
  have hp : g ≠ p := fun e2 => by
    subst e2
    simp only [World.cell?, hd.1] at h00
    match off with
    | 0 => simp at h00
    | 1 => simp at h00
    | o + 2 => simp at h00
  have hb : g ≠ b := fun e2 => by
    subst e2
    rw [hd.2.1.nocell] at h00
    cases h00
  refine ⟨g, off, e, Nat.lt_of_lt_of_le hl ht.size, fun i x hx => ?_⟩
  rw [← hh i x hx]
  simp only [World.cell?, ht.block g hl hp hb]
theorem SeesS.turn {p b : Nat} {w w' : World} {v : Value} {ps : List (ByteArray × Int)} {ds : List DN} {nx : Int} (h : SeesS w v ps) (hd : DAt w p b ds nx) (ht : Turn p b w w') : SeesS w' v ps := by
  obtain ⟨ao, cap, h1, h2, h3, h4, h5⟩ := h
  refine ⟨ao, cap, h1, h2, h3, h4, fun h0 => ?_⟩
  obtain ⟨g, off, e, hl, hh⟩ := h5 h0
  have h00 := (at2_of hh h0).1
  have hp : g ≠ p := fun e2 => by
    subst e2
    simp only [World.cell?, hd.1] at h00
    match off with
    | 0 => simp at h00
    | 1 => simp at h00
    | o + 2 => simp at h00
  have hb : g ≠ b := fun e2 => by
    subst e2
    rw [hd.2.1.nocell] at h00
    cases h00
  refine ⟨g, off, e, Nat.lt_of_lt_of_le hl ht.size, fun i x hx => ?_⟩
  rw [← hh i x hx]
  simp only [World.cell?, ht.block g hl hp hb]
theorem DN.is.turn {p b : Nat} {w w' : World} {f : DN} {ds : List DN} {nx : Int} (h : f.is w) (hd : DAt w p b ds nx) (ht : Turn p b w w') : f.is w' := ⟨sees_turn h.1 hd ht, h.2.turn hd ht⟩
theorem DAt.ne {w : World} {p b : Nat} {ds : List DN} {nx : Int} (h : DAt w p b ds nx) : p ≠ b := fun e => by
  obtain ⟨xs, c, hb⟩ := h.2.1.isMap
  rw [← e, h.1] at hb
  cases hb
theorem DAt.lt {w : World} {p b : Nat} {ds : List DN} {nx : Int} (h : DAt w p b ds nx) : p < w.heap.size ∧ b < w.heap.size := ⟨(Array.getElem?_eq_some_iff.1 h.1).1, h.2.1.lt⟩
theorem DAt.below {w w' : World} {p b : Nat} {ds : List DN} {nx : Int} (h : DAt w p b ds nx) (hb : Below w.heap.size w w') : DAt w' p b ds nx :=
  ⟨(hb.block p h.lt.1).trans h.1, h.2.1.below hb, fun f hf => (h.2.2 f hf).below hb⟩
theorem DTree.below {w w' : World} {p b : Nat} {t : TreeB} (h : DTree w p b t) (hb : Below w.heap.size w w') : DTree w' p b t := by
  obtain ⟨ds, h1, h2⟩ := h
  exact ⟨ds, h1.below hb, h2⟩
theorem DAt.cells {w : World} {p b : Nat} {ds : List DN} {nx : Int} (h : DAt w p b ds nx) : w.cell? ⟨p, 0, none⟩ = some (.map (some b)) ∧ w.cell? ⟨p, 1, none⟩ = some (.int .i64 nx) ∧ (∀ j, w.frozen? ⟨p, j, none⟩ = false) := by
  have := h.1
  simp [World.cell?, World.frozen?, this]
theorem DAt.setNext {w : World} {p b : Nat} {ds : List DN} {nx : Int} (h : DAt w p b ds nx) (n : Int) : DAt (w.setCell ⟨p, 1, none⟩ (.int .i64 n)) p b ds n := by
  have hne := h.ne
  refine ⟨?_, h.2.1.block (Below.heap_setCell _ _ _ b (fun e => hne e.symm)), fun f hf => (h.2.2 f hf).turn h (turn_set p b w 1 _)⟩
  have := h.1
  simp [World.setCell, Array.getElem?_modify, this]
/-- The map turned: the nodes are others. -/
theorem DAt.mapTo {w w' : World} {p b : Nat} {ds ds' : List DN} {nx : Int} (h : DAt w p b ds nx) (hm : MapIs Tryz.prog 3 w' b (ds'.map DN.ent)) (hg : w.grownBy w' (some b)) (hf : ∀ f ∈ ds', f ∈ ds ∨ f.is w) : DAt w' p b ds' nx := by
  have ht : Turn p b w w' := turn_grown hg
  refine ⟨(hg.block p h.lt.1 (fun e => by injection e with e; exact h.ne e)).trans h.1, hm, fun f h1 => ?_⟩
  rcases hf f h1 with h2 | h2
  · exact (h.2.2 f h2).turn h ht
  · exact h2.turn h ht
def zeroN : Value := .agg #[.int .i64 0, .slice none 0 0, .slice none 0 0]
/-- The node at a place of a list that rises. -/
theorem get_ent {ds : List DN} {t : TreeB} (h : ds.map DN.n = t.nodes) (i : Int) : getK (ds.map DN.ent) i = (placeO t i).map fun k => (ds.getD k ⟨noNode, zeroN, zeroN⟩).val := by
  unfold getK placeO
  rw [← h]
  clear h
  induction ds with
  | nil => rfl
  | cons f r ih =>
    rw [List.map_cons, List.map_cons, List.find?_cons, List.findIdx?_cons]
    have : (f.ent.1 == i) = (f.n.ino == i) := rfl
    rw [this]
    cases f.n.ino == i
    · rw [ih]
      simp only [Bool.false_eq_true, if_false, Option.map_map]
      rfl
    · rfl
end Go.Proofs.YtbebgobboccjcaaGreatDoor
/- tree.New, made. -/
namespace Go.Proofs.YtbebgobboccjcaaGreatDoor
open Go.RowKit Kit
set_option linter.unusedVariables false

theorem newT_at {w : World} {p b : Nat} (hp : w.heap[p]? = some (.cells #[.map (some b), .int .i64 2] 52)) (hm : MapIs Tryz.prog 3 w b [(1, .agg #[.int .i64 2, .slice none 0 0, .slice none 0 0])]) : DTree w p b newB := by
  refine ⟨[⟨⟨1, 2, [], [], []⟩, .slice none 0 0, .slice none 0 0⟩], ⟨hp, hm, ?_⟩, rfl⟩
  intro f hf
  simp at hf
  subst hf
  exact ⟨⟨none, 0, rfl, by simp [intsV], by simp, fun _ => rfl, fun h => by simp [intsV] at h⟩, ⟨none, 0, rfl, by simp [pairsB], by simp, fun _ => rfl, fun h => by simp [pairsB] at h⟩⟩
set_option maxRecDepth 4000 in
set_option maxHeartbeats 4000000 in
theorem dnew_any (w : World) : Calls Tryz.prog 9 #[] w fun e w' => ∃ p b, e = .returned (.pointer (some ⟨p, 0, none⟩)) ∧ DTree w' p b newB ∧ w.heap.size ≤ p ∧ w.heap.size ≤ b ∧ w'.heap.size = w.heap.size + 2 ∧ Below w.heap.size w w' := by
  have hmm := @run_makeMap Tryz.prog
  obtain ⟨w1, hrun, m1, g1, s1⟩ := (mapIs_made Tryz.prog 3 w).put (t := 50) (e := 70) Tryz.underlying3 Tryz.underlying50 (by simp [maxLen]) (i := 1) (by omega) (.agg #[.int .i64 2, .slice none 0 0, .slice none 0 0])
  have H1 : Hid (MapIs Tryz.prog 3 w1 w.heap.size [(1, .agg #[.int .i64 2, .slice none 0 0, .slice none 0 0])] ∧ w1.heap.size = w.heap.size + 1 ∧ Below w.heap.size w w1) := ⟨m1, by rw [s1]; simp, ((Below.refl _ w).alloc (Nat.le_refl _) _).grown g1 (by simp) (fun k hk => by injection hk with hk; omega)⟩
  clear m1 g1 s1
  go_enter Tryz.func9, Tryz.ntmps9
  go_wp2
  go_ret
  have hs := H1.out.2.1
  refine ⟨w1.heap.size, w.heap.size, by first | rfl | simp, newT_at (MapKept.heap_alloc w1 _).1 (H1.out.1.block (Below.heap_alloc _ _ _ (by omega))), by omega, Nat.le_refl _, by simp; omega, H1.out.2.2.alloc (by omega) _⟩
set_option maxRecDepth 4000 in
set_option maxHeartbeats 4000000 in
theorem dmade_any (w : World) (p b : Nat) (t : TreeB) (h : DTree w p b t) : Calls Tryz.prog 32 #[.pointer (some ⟨p, 0, none⟩)] w fun e w' => e = .returned (.pointer (some ⟨p, 0, none⟩)) ∧ w' = w := by
  obtain ⟨ds, hd, _⟩ := h
  obtain ⟨c0, _, _⟩ := hd.cells
  have hq := Go.run_eql_map_nil (P := Tryz.prog) w 50 3 70 (some b) Tryz.underlying50
  clear hd
  go_enter Tryz.func32, Tryz.ntmps32
  go_wp2
  go_ret
  first | exact ⟨rfl, rfl⟩ | trivial
end Go.Proofs.YtbebgobboccjcaaGreatDoor
/- The first one of a type within; what errors.as leaves. -/
namespace Go.Proofs.YtbebgobboccjcaaGreatDoor
open Go.RowKit Go.Extern.Stop Go.Stop Go.Extern
set_option linter.unusedVariables false

def firstOf (T : Nat) (ns : List Nd) : Option Value := (ns.find? fun x => x.1 == T).map fun x => x.2.1
theorem firstOf_skip (T t : Nat) (x : Value × List (ByteArray × ByteArray)) (ns : List Nd) (h : (t == T) = false) : firstOf T ((t, x) :: ns) = firstOf T ns := by
  unfold firstOf; rw [List.find?_cons]; simp only [h]
theorem firstOf_hit (T : Nat) (x : Value) (l : List (ByteArray × ByteArray)) (ns : List Nd) : firstOf T ((T, x, l) :: ns) = some x := by
  unfold firstOf; rw [List.find?_cons]; simp
theorem firstOf_nil (T : Nat) : firstOf T [] = none := rfl
theorem firstOf_left (T : Nat) (a b : List Nd) (x : Value) (h : firstOf T a = some x) : firstOf T (a ++ b) = some x := by
  unfold firstOf at *
  rw [List.find?_append]
  obtain ⟨y, hy, rfl⟩ := Option.map_eq_some_iff.1 h
  rw [hy]; rfl
theorem firstOf_right (T : Nat) (a b : List Nd) (h : firstOf T a = none) : firstOf T (a ++ b) = firstOf T b := by
  unfold firstOf at *
  rw [List.find?_append]
  rw [Option.map_eq_none_iff.1 h]; rfl
theorem chainOf_skip (t : Nat) (x : Value × List (ByteArray × ByteArray)) (ns : List Nd) (h : (t == 85) = false) : chainOf ((t, x) :: ns) = chainOf ns := by
  unfold chainOf; rw [List.find?_cons]; simp only [h]
theorem chainOf_hit (x : Value) (l : List (ByteArray × ByteArray)) (ns : List Nd) : chainOf ((85, x, l) :: ns) = l := by
  unfold chainOf; rw [List.find?_cons]; simp
theorem chainOf_none (ns : List Nd) (h : firstOf 85 ns = none) : chainOf ns = [] := by
  unfold chainOf firstOf at *
  rw [Option.map_eq_none_iff.1 h]; rfl
theorem chainOf_left (a b : List Nd) (x : Value) (h : firstOf 85 a = some x) : chainOf (a ++ b) = chainOf a := by
  unfold chainOf firstOf at *
  rw [List.find?_append]
  obtain ⟨y, hy, rfl⟩ := Option.map_eq_some_iff.1 h
  rw [hy]; rfl
theorem chainOf_right (a b : List Nd) (h : firstOf 85 a = none) : chainOf (a ++ b) = chainOf b := by
  unfold chainOf firstOf at *
  rw [List.find?_append]
  rw [Option.map_eq_none_iff.1 h]; rfl
/-- The first Fault within: its cells, and what is within its own error. -/
theorem Pre.fault {w : World} : ∀ {f : Nat} {v : Value} {ns : List Nd} {x : Value}, Pre w f v ns → firstOf 85 ns = some x →
    ∃ (b : Nat) (op path : ByteArray) (e : Value) (ms : List Nd) (k : Nat), x = .pointer (some ⟨b, 0, none⟩) ∧ w.cell? ⟨b, 0, none⟩ = some (.string op) ∧ w.cell? ⟨b, 1, none⟩ = some (.string path) ∧ w.cell? ⟨b, 2, none⟩ = some e ∧ (op.size ≤ 1000 ∧ path.size ≤ 1000) ∧ e ≠ .nilIface ∧ Pre w k e ms ∧ k < f ∧ chainOf ns = (op, path) :: chainOf ms
  | 0, v, ns, x, h, hx => by rw [h.2] at hx; cases hx
  | f + 1, v, ns, x, h, hx => by
    rcases h with h | ⟨m, h, hm⟩ | ⟨b, op, path, e, ms', h, h2, h3, h4, h9, h5, h6, hm⟩
    · rw [h.2] at hx; cases hx
    · subst hm; rw [firstOf_skip 85 80 _ _ rfl, firstOf_nil] at hx; cases hx
    · subst hm
      rw [firstOf_hit] at hx
      cases hx
      exact ⟨b, op, path, e, ms', f, rfl, h2, h3, h4, h9, h5, h6, Nat.lt_succ_self _, chainOf_hit _ _ _⟩
/-- What errors.as leaves: nothing that was there has turned; or the target holds x. -/
def AsPost (w w' : World) (t : Addr) : Option Value → Prop
  | none => Below w.heap.size w w'
  | some x => ∃ w1, Below w.heap.size w w1 ∧ w' = w1.setCell t x
theorem frozen_old {w w' : World} {a : Addr} {v : Value} (hb : Below w.heap.size w w') (h : w.cell? a = some v) (hf : w.frozen? a = false) : w'.frozen? a = false := by
  have hlt : a.block < w.heap.size := by
    rcases Nat.lt_or_ge a.block w.heap.size with h' | h'
    · exact h'
    · simp [World.cell?, Array.getElem?_eq_none h'] at h
  exact (hb.frozen hlt).trans hf
theorem AsPost.from {w w0 w' : World} {t : Addr} {r : Option Value} (h : AsPost w0 w' t r) (hb : Below w.heap.size w w0) : AsPost w w' t r := by
  cases r with
  | none => exact bel2e hb h
  | some x => obtain ⟨w1, h1, h2⟩ := h; exact ⟨w1, bel2e hb h1, h2⟩
end Go.Proofs.YtbebgobboccjcaaGreatDoor
/- Closed facts for errors.as at a target. -/
namespace Go.Proofs.YtbebgobboccjcaaGreatDoor.A0
open Go.RowKit Go.Extern.Stop Go.Stop Go.Extern
set_option linter.unusedVariables false

theorem rlm (z : Sem Value) (f : TypeId → Addr → Nat → Nat → Sem Value) (v : Value) :
    ReflectliteValue.method z f #[v] = (do match ← ReflectliteValue.parts v with | none => z | some (t, a, fl) => f t a fl (fl % 32)) := rfl
theorem methodAssignableTo (h : Value) (w : World) : (Go.method 354 159 (.agg #[h]) "AssignableTo").run Tryz.prog w = .ok (197, .agg #[h]) w := by kernel_rfl
theorem typeOf80 (v : Value) (w : World) : (ReflectliteType.typeOf #[.iface 80 v]).run Tryz.prog w = .ok (.iface 159 (.agg #[.pointer (some ⟨4, 80, none⟩)])) w := by kernel_rfl
theorem assignable80 (w : World) : (ReflectliteType.relation "AssignableTo" ReflectliteType.assignableTo #[.agg #[.pointer (some ⟨4, 80, none⟩)], .iface 159 (.agg #[.pointer (some ⟨4, 85, none⟩)])]).run Tryz.prog w = .ok (.bool false) w := by kernel_rfl
theorem lacks163_80 (v : Value) (xT : TypeId) (w : World) : (Instr.typeAssert (.iface 80 v) xT 163 true).run Tryz.prog w = .ok (.tuple #[.nilIface, .bool false]) w := run_typeAssert_lacksB Tryz.underlying163 (by kernel_rfl) (by kernel_rfl) v xT w
theorem typeOf85 (v : Value) (w : World) : (ReflectliteType.typeOf #[.iface 85 v]).run Tryz.prog w = .ok (.iface 159 (.agg #[.pointer (some ⟨4, 85, none⟩)])) w := by kernel_rfl
theorem assignable85 (w : World) : (ReflectliteType.relation "AssignableTo" ReflectliteType.assignableTo #[.agg #[.pointer (some ⟨4, 85, none⟩)], .iface 159 (.agg #[.pointer (some ⟨4, 85, none⟩)])]).run Tryz.prog w = .ok (.bool true) w := by kernel_rfl
theorem lacks163_85 (v : Value) (xT : TypeId) (w : World) : (Instr.typeAssert (.iface 85 v) xT 163 true).run Tryz.prog w = .ok (.tuple #[.nilIface, .bool false]) w := run_typeAssert_lacksB Tryz.underlying163 (by kernel_rfl) (by kernel_rfl) v xT w
theorem valueOfT (x : Addr) (w : World) : (ReflectliteValue.unpack (.iface 85 (.pointer (some x)))).run Tryz.prog w
    = .ok (.agg #[.pointer (some ⟨4, 85, none⟩), .pointer (some ⟨w.heap.size, 0, none⟩), .int .u64 150]) (w.alloc (.cells #[(.pointer (some x))] 85)) := by kernel_rfl
theorem partsP (a : Addr) (w : World) : (ReflectliteValue.parts (.agg #[.pointer (some ⟨4, 87, none⟩), .pointer (some a), .int .u64 150])).run Tryz.prog w = .ok (some (87, a, 150)) w := by kernel_rfl
theorem elemOfP (w : World) : (Rtype.elem? 87).run Tryz.prog w = .ok (some 85) w := by kernel_rfl
theorem mkT (p : Addr) (w : World) : (ReflectliteValue.mk 85 p ReflectliteValue.flagAddr).run Tryz.prog w = .ok (.agg #[.pointer (some ⟨4, 85, none⟩), .pointer (some p), .int .u64 406]) w := by kernel_rfl
theorem elemV (a p : Addr) (W : World) (ha : W.cell? a = some (.pointer (some p))) :
    (ReflectliteValue.method (ReflectliteValue.valueError "reflectlite.Value.Elem" 0) ReflectliteValue.elem #[.agg #[.pointer (some ⟨4, 87, none⟩), .pointer (some a), .int .u64 150]]).run Tryz.prog W
      = .ok (.agg #[.pointer (some ⟨4, 85, none⟩), .pointer (some p), .int .u64 406]) W := by
  rw [rlm]
  simp only [Sem.run_bind, partsP, Result.andThen]
  simp [ReflectliteValue.elem, loadVar, isAgg, underlying, Tryz.underlying87, ha, Result.andThen, elemOfP, mkT]
theorem rls (v x : Value) : ∃ (u1 u2 : Sem Value) (k : TypeId → TypeId → Addr → Value → Sem Value), ReflectliteValue.set #[v, x] = (do
    let (some (dst, a, fl), some (src, b, _)) := (← ReflectliteValue.parts v, ← ReflectliteValue.parts x)
      | u1
    if fl / ReflectliteValue.flagAddr % 2 == 0 then u2
    else
      let val ← loadVar src b
      if ← Rtype.directlyAssignable dst src then (do storeVar dst a val; pure (.tuple #[])) else k dst src a val) := ⟨_, _, _, rfl⟩
theorem partsA (a : Addr) (w : World) : (ReflectliteValue.parts (.agg #[.pointer (some ⟨4, 85, none⟩), .pointer (some a), .int .u64 406])).run Tryz.prog w = .ok (some (85, a, 406)) w := by kernel_rfl
theorem partsT (a : Addr) (w : World) : (ReflectliteValue.parts (.agg #[.pointer (some ⟨4, 85, none⟩), .pointer (some a), .int .u64 150])).run Tryz.prog w = .ok (some (85, a, 150)) w := by kernel_rfl
theorem direct (w : World) : (Rtype.directlyAssignable 85 85).run Tryz.prog w = .ok true w := by kernel_rfl
theorem setT (ta b : Addr) (x : Addr) (old : Value) (W : World) (hb : W.cell? b = some (.pointer (some x))) (ht : W.cell? ta = some old) (hf : W.frozen? ta = false) :
    (ReflectliteValue.set #[.agg #[.pointer (some ⟨4, 85, none⟩), .pointer (some ta), .int .u64 406], .agg #[.pointer (some ⟨4, 85, none⟩), .pointer (some b), .int .u64 150]]).run Tryz.prog W
      = .ok (.tuple #[]) (W.setCell ta (.pointer (some x))) := by
  obtain ⟨u1, u2, k, hk⟩ := rls (.agg #[.pointer (some ⟨4, 85, none⟩), .pointer (some ta), .int .u64 406]) (.agg #[.pointer (some ⟨4, 85, none⟩), .pointer (some b), .int .u64 150])
  rw [hk]
  simp only [Sem.run_bind, partsA, partsT, Result.andThen]
  simp [ReflectliteValue.flagAddr, loadVar, isAgg, underlying, Tryz.underlying85, hb, Result.andThen, direct, storeVar, Value.cells, storeCells, Addr.add]
  rw [run_store Tryz.prog W ta _ _ (by rfl)]
  simp [ht, hf]
end Go.Proofs.YtbebgobboccjcaaGreatDoor.A0
/- Of an error: its numbers; how long its chain is; what single Unwraps lead to. -/
namespace Go.Proofs.YtbebgobboccjcaaGreatDoor
open Go.RowKit Go.Extern.Stop Go.Stop Go.Extern
set_option linter.unusedVariables false

theorem nums_skip (t : Nat) (x : Value × List (ByteArray × ByteArray)) (a : List Nd) (h : (t == 80) = false) : nums ((t, x) :: a) = nums a := by unfold nums; simp [h]
/-- The first number within. -/
theorem Pre.number {w : World} : ∀ {f : Nat} {v : Value} {ns : List Nd}, Pre w f v ns → (firstOf 80 ns = none ∧ nums ns = []) ∨ ∃ n l, firstOf 80 ns = some (.int .i64 n) ∧ nums ns = n :: l
  | 0, v, ns, h => .inl ⟨by rw [h.2]; rfl, by rw [h.2]; rfl⟩
  | f + 1, v, ns, h => by
    rcases h with h | ⟨m, h, hm⟩ | ⟨b, op, path, e, ms', h, h2, h3, h4, h9, h5, h6, hm⟩
    · exact .inl ⟨by rw [h.2]; rfl, by rw [h.2]; rfl⟩
    · subst hm; exact .inr ⟨m, [], firstOf_hit _ _ _ _, rfl⟩
    · subst hm; rw [firstOf_skip 80 85 _ _ rfl, nums_skip 85 _ _ rfl]; exact Pre.number h6
/-- A chain is no longer than the error is deep. -/
theorem Pre.short {w : World} : ∀ (f : Nat) {v : Value} {ns : List Nd}, Pre w f v ns → (chainOf ns).length ≤ f := by
  intro f
  induction f using Nat.strongRecOn with
  | _ f ih =>
    intro v ns h
    rcases hh : firstOf 85 ns with _ | x
    · rw [chainOf_none _ hh]; simp
    · obtain ⟨b, op, path, e, ms, k, _, _, _, _, _, _, h7, h8, h9⟩ := Pre.fault h hh
      have := ih k h8 h7
      rw [h9]; simp; omega
/-- What single Unwraps lead to: the Faults ahead are gone. -/
def innerOf (ns : List Nd) : List Nd := ns.dropWhile fun x => x.1 == 85
theorem innerOf_fault (x : Value × List (ByteArray × ByteArray)) (ns : List Nd) : innerOf ((85, x) :: ns) = innerOf ns := by unfold innerOf; simp
theorem innerOf_skip (t : Nat) (x : Value × List (ByteArray × ByteArray)) (ns : List Nd) (h : (t == 85) = false) : innerOf ((t, x) :: ns) = (t, x) :: ns := by unfold innerOf; simp [h]
theorem pre_num (w : World) (f : Nat) (n : Int) : Pre w (f + 1) (.iface 80 (.int .i64 n)) [(80, .int .i64 n, [])] := .inr (.inl (⟨n, rfl, rfl⟩))
theorem pre_fault {w : World} {f b : Nat} {op path : ByteArray} {e : Value} {ms : List Nd} (h2 : w.cell? ⟨b, 0, none⟩ = some (.string op)) (h3 : w.cell? ⟨b, 1, none⟩ = some (.string path)) (h4 : w.cell? ⟨b, 2, none⟩ = some e) (ho : op.size ≤ 1000) (ha : path.size ≤ 1000) (he : e ≠ .nilIface) (hp : Pre w f e ms) :
    Pre w (f + 1) (.iface 85 (.pointer (some ⟨b, 0, none⟩))) ((85, .pointer (some ⟨b, 0, none⟩), (op, path) :: chainOf ms) :: ms) := .inr (.inr (⟨b, op, path, e, ms, rfl, h2, h3, h4, ⟨ho, ha⟩, he, hp, rfl⟩))
end Go.Proofs.YtbebgobboccjcaaGreatDoor
/- names.pieces, broken, Split: what one call answers. -/
namespace Go.Proofs.YtbebgobboccjcaaGreatDoor
open Go.RowKit Kit
set_option linter.unusedVariables false

theorem index_byte (c : UInt8) : ∀ s : List UInt8, Lib.index s [c] = Lib.indexByte s c := by
  intro s
  induction s with
  | nil => rfl
  | cons b l ih =>
    unfold Lib.index Lib.indexByte
    rw [ih]
    by_cases h : b = c
    · subst h; simp [List.isPrefixOf]
    · have h2 : (c == b) = false := beq_eq_false_iff_ne.2 (fun e => h e.symm)
      have h3 : (b == c) = false := beq_eq_false_iff_ne.2 h
      simp [List.isPrefixOf, h2, h3]
set_option maxHeartbeats 1000000 in
theorem sindex_any (x : ByteArray) (w : World) : Calls Tryz.prog 151 #[.string x, .string ⟨#[47]⟩] w fun e w' => e = .returned (.int .i64 (Lib.indexB x ⟨#[47]⟩)) ∧ w' = w := by
  have HX : Hid (Calls Tryz.prog 160 #[.string x, .string ⟨#[47]⟩] w fun e w' => e = .returned (.int .i64 (Lib.indexB x ⟨#[47]⟩)) ∧ w' = w) := by
    have h := Any.stringslite_Index_one Tryz.lays219 x 47 w
    have e : Lib.indexB x ⟨#[47]⟩ = Lib.indexByte x.data.toList 47 := index_byte 47 x.data.toList
    show Calls _ _ _ _ _
    rw [e]
    exact h
  go_enter Tryz.func151, Tryz.ntmps151
  go_wp2_with fail
  go_at_call 160
  refine HX.out.mono ?_
  rintro e1 w1 ⟨rfl, rfl⟩
  clear HX
  go_wp2
  go_ret
  exact ⟨rfl, rfl⟩
/-- What stands between the slashes. -/
def cutB (s : ByteArray) : List ByteArray := (cutL 47 (bytesOf s)).map strOf
set_option maxHeartbeats 1000000 in
theorem ssplit_any (s : ByteArray) (w : World) (hs : s.size ≤ 1000) : Calls Tryz.prog 115 #[.string s, .string ⟨#[47]⟩] w fun e w' =>
    e = .returned (.slice (some ⟨w.heap.size, 0, none⟩) (cutB s).length (cutB s).length) ∧ w' = w.alloc (.cells (strs (cutB s)).toArray 9) := by
  have hle := Lib.countB_le ⟨#[47]⟩ (by decide) s.size s (Nat.le_refl _)
  have hlen := Lib.splitB_all ⟨#[47]⟩ (by decide) 0 _ s rfl
  have hcut : Lib.splitB ⟨#[47]⟩ 0 (Lib.countB s ⟨#[47]⟩) s = cutB s := split_cut s.size s (Nat.le_refl _)
  have hC : Calls Tryz.prog 150 #[.string s, .string ⟨#[47]⟩] w fun e w' => e = .returned (.int .i64 (Lib.countB s ⟨#[47]⟩)) ∧ w' = w := by
    have h := Any.strings_Count_one Tryz.lays138 s 47 w
    have e : Lib.countB s ⟨#[47]⟩ = Lib.countByte s.data.toList 47 := Lib.count_one 47 s.data.toList
    rw [e]
    exact h
  have HG : Hid (Calls Tryz.prog 137 #[.string s, .string ⟨#[47]⟩, .int .i64 0, .int .i64 (-1)] w fun e w' =>
      e = .returned (.slice (some ⟨w.heap.size, 0, none⟩) (cutB s).length (cutB s).length) ∧ w' = w.alloc (.cells (strs (cutB s)).toArray 9)) := by
    have h := Any.strings_genSplit_core Tryz.lays221 (by kernel_rfl) s ⟨#[47]⟩ 0 (-1) (Lib.countB s ⟨#[47]⟩ + 1) w (by omega) (by decide) (Nat.zero_le _) (fun x c _ => sindex_any x _) hC (by decide) (by decide) (by rw [if_pos (by decide)]; omega)
    rw [Nat.add_sub_cancel, hlen] at h
    have e2 : Lib.cellsOf (Lib.splitB ⟨#[47]⟩ 0 (Lib.countB s ⟨#[47]⟩) s) (Lib.countB s ⟨#[47]⟩ + 1) = (strs (cutB s)).toArray := by
      rw [← hlen, Lib.cellsOf_full, hcut]; rfl
    rw [e2] at h
    rw [hcut] at hlen
    rw [hlen]
    exact h
  clear hC hcut hlen hle hs
  go_enter Tryz.func115, Tryz.ntmps115
  go_wp2_with fail
  go_at_call 137
  refine HG.out.mono ?_
  rintro e1 w1 ⟨rfl, rfl⟩
  clear HG
  go_wp2
  go_ret
  exact ⟨rfl, rfl⟩
/-- A path's pieces. -/
def piecesB (s : ByteArray) : List ByteArray := if s = ⟨#[47]⟩ then [] else partsB s
theorem sees_none (w : World) : Sees w (.slice none 0 0) (strs []) := ⟨none, 0, rfl, by simp [strs], by simp, fun _ => rfl, fun h => by simp [strs] at h⟩
theorem cutL_num (c : Int) : ∀ l : List Int, (cutL c l).length ≤ l.length + 1
  | [] => by simp [cutL]
  | x :: r => by
    have ih := cutL_num c r
    rw [cutL]
    split
    · simp; omega
    · cases h : cutL c r with
      | nil => simp
      | cons p q => rw [h] at ih; simp at ih ⊢; omega
theorem sees_cells (w : World) (l : List ByteArray) (hl : l.length ≤ maxLen) (t : TypeId) : Sees (w.alloc (.cells (strs l).toArray t)) (.slice (some ⟨w.heap.size, 0, none⟩) l.length l.length) (strs l) := by
  have h := (rowV_lit w 0 t (strs l) (Nat.zero_le _) (by rw [strs_len]; exact hl)).sees
  rw [strs_len] at h
  exact h
set_option maxHeartbeats 1000000 in
theorem pieces_any (s : ByteArray) (w : World) (hs : s.size ≤ 200) (h0 : 0 < s.size) : Calls Tryz.prog 77 #[.string s] w fun e w' => ∃ r, e = .returned r ∧ Sees w' r (strs (piecesB s)) ∧ Below w.heap.size w w' := by
  by_cases h1 : s = ⟨#[47]⟩
  · have HP : Hid (piecesB s = []) := by show _ = _; unfold piecesB; rw [if_pos h1]
    subst h1
    clear hs h0
    go_enter Tryz.func77, Tryz.ntmps77
    go_wp2
    go_ret
    rw [HP.out]
    exact ⟨_, rfl, sees_none _, Below.refl _ _⟩
  · have HP : Hid (piecesB s = cutB (s.extract 1 s.size)) := by show _ = _; unfold piecesB; rw [if_neg h1]; rfl
    have q1 : (s.toList == [47]) = false := beq_eq_false_iff_ne.2 (by rw [Ne, toList_eq_iff]; exact h1)
    have HX : Hid (Calls Tryz.prog 115 _ _ _) := ssplit_any (s.extract 1 s.size) w (by rw [ByteArray.size_extract]; omega)
    have hz : (s.extract 1 s.size).size ≤ 200 := by rw [ByteArray.size_extract]; omega
    have HL : Hid ((cutB (s.extract 1 s.size)).length ≤ maxLen) := by
      have := cutL_num 47 (bytesOf (s.extract 1 s.size))
      rw [bytesOf_len] at this
      show _ ≤ _
      unfold cutB maxLen
      rw [List.length_map]
      omega
    have i1 : (1 : Int) ≤ (s.size : Int) := by omega
    have i2 : (s.size : Int) ≤ 200 := by omega
    clear h1 hs h0 hz
    go_enter Tryz.func77, Tryz.ntmps77
    go_wp2_with fail
    go_at_call 115
    refine HX.out.mono ?_
    rintro e1 w1 ⟨rfl, rfl⟩
    clear HX
    go_wp2
    go_ret
    rw [HP.out]
    exact ⟨_, rfl, sees_cells w _ HL.out _, (Below.refl _ _).alloc (Nat.le_refl _) _⟩
end Go.Proofs.YtbebgobboccjcaaGreatDoor
/- names.broken, names.Split: what one call answers. -/
namespace Go.Proofs.YtbebgobboccjcaaGreatDoor
open Go.RowKit Kit
set_option linter.unusedVariables false

/-- A bare number as an error. -/
def errV (c : Int) : Value := if c = 0 then .nilIface else .iface 80 (.int .i64 c)
/-- Texts of a machine's size. -/
abbrev Small : Type := { q : ByteArray // q.size ≤ maxLen }
def encS (x : Small) : Value := .string x.1
theorem smalls : ∀ l : List ByteArray, (∀ q ∈ l, q.size ≤ maxLen) → ∃ zs : List Small, zs.map (fun x => x.1) = l
  | [], _ => ⟨[], rfl⟩
  | a :: r, h => by
    obtain ⟨zs, hz⟩ := smalls r (fun q hq => h q (by simp [hq]))
    exact ⟨⟨a, h a (by simp)⟩ :: zs, by rw [List.map_cons, hz]⟩
theorem drewB {B : Nat} {a w : World} (h : Below B a w) (q : Nat) : Below B a (w.drewN q) := ⟨h.os, h.tape, h.output, h.size, h.block⟩
theorem enters39 : ∀ args w, (callFunc 113 args).run Tryz.prog w = .ok (.enter 113 args) w := enters_of Tryz.func113 (by kernel_rfl) rfl
theorem enters40 : ∀ args w, (callFunc 114 args).run Tryz.prog w = .ok (.enter 114 args) w := enters_of Tryz.func114 (by kernel_rfl) rfl
theorem cf_any (g : Nat) (p : ByteArray → Bool) (eg : ∀ args w, (callFunc g args).run Tryz.prog w = .ok (.enter g args) w) (hp : ∀ q w, q.size ≤ maxLen → Calls Tryz.prog g #[.string q] w fun e w' => e = .returned (.bool (p q)) ∧ w' = w)
    (v : Value) (l : List ByteArray) (w : World) (hv : Sees w v (strs l)) (hl : ∀ q ∈ l, q.size ≤ maxLen) :
    Calls Tryz.prog 112 #[v, .func (.func g) #[] #[]] w fun e w' => e = .returned (.bool (l.any p)) ∧ Below w.heap.size w w' := by
  haveI : Inhabited Small := ⟨⟨⟨#[]⟩, Nat.zero_le _⟩⟩
  obtain ⟨ao, cap, rfl, h1, h2, h3, h4⟩ := hv
  rw [strs_len] at *
  cases l with
  | nil =>
    refine (AnyE.slices_ContainsFunc_empty Tryz.laysH8 ao cap (.func (.func g) #[] #[]) w).mono ?_
    rintro e w' ⟨rfl, rfl⟩
    exact ⟨rfl, Below.refl _ _⟩
  | cons a r =>
    obtain ⟨b, off, rfl, hb, hc⟩ := h4 (by simp)
    obtain ⟨zs, hzm⟩ := smalls (a :: r) hl
    have hzl : zs.length = (a :: r).length := by rw [← hzm, List.length_map]
    have hz1 : ∀ j, j < zs.length → (zs[j]!).1 = (a :: r).getD j ⟨#[]⟩ := by
      intro j hj
      rw [getElem!_pos zs j hj, ← hzm, List.getD, List.getElem?_map, List.getElem?_eq_getElem hj]
      rfl
    have hany : (zs.take (a :: r).length).any (fun x => p x.1) = (a :: r).any p := by
      rw [← hzl, List.take_length, ← hzm, List.any_map]; rfl
    have h := AnyE.slices_ContainsFunc Tryz.laysH8 encS (fun x => p x.1) g #[] eg b off (a :: r).length cap zs w
      (fun W x _ => (hp x.1 W x.2).mono fun e w' ⟨he, hw⟩ => ⟨he, 0, hw⟩) (by omega) (by unfold maxLen at h2; omega)
      (fun j hj => by
        have hj2 : j < (a :: r).length := by rw [← hzl]; exact hj
        rw [hc j _ (strs_at _ j hj2)]
        unfold encS
        rw [hz1 j hj])
    rw [hany] at h
    refine h.mono ?_
    rintro e w' ⟨rfl, q, rfl⟩
    exact ⟨rfl, drewB (Below.refl _ _) q⟩
/-- The rule that a path breaks, of its pieces. -/
def codeB (l : List ByteArray) : Int := if l.any (fun q => !okB q) = true then 2 else if l.any longB = true then 3 else if 6 < l.length then 4 else 0
theorem split_code2 (s : ByteArray) (h1 : ¬ 200 < s.size) (h2 : (bytesOf s).getD 0 0 = 47) : (splitB s).2 = codeB (piecesB s) := by
  unfold splitB codeB piecesB
  by_cases e : s = ⟨#[47]⟩
  · rw [if_pos e, if_pos e]; rfl
  · have e2 : ¬ s = ⟨#[]⟩ := fun h => by subst h; simp [bytesOf] at h2
    rw [if_neg e, if_neg e, if_neg (by simp only [not_or]; exact ⟨e2, h1, fun h => h h2⟩)]
    have ea : ((partsB s).all okB = false) ↔ ((partsB s).any (fun q => !okB q) = true) := by
      rw [List.all_eq_false, List.any_eq_true]
      constructor
      · rintro ⟨x, hx, h⟩; exact ⟨x, hx, by simpa using h⟩
      · rintro ⟨x, hx, h⟩; exact ⟨x, hx, by simpa using h⟩
    by_cases h3 : (partsB s).all okB = false
    · rw [if_pos h3, if_pos (ea.1 h3)]
    · rw [if_neg h3, if_neg (fun h => h3 (ea.2 h))]
      by_cases h4 : (partsB s).any longB = true
      · rw [if_pos h4, if_pos h4]
      · rw [if_neg h4, if_neg h4]
        by_cases h5 : 6 < (partsB s).length
        · rw [if_pos h5, if_pos h5]
        · rw [if_neg h5, if_neg h5]
theorem pieces_small (s : ByteArray) (hs : s.size ≤ 200) : ∀ q ∈ piecesB s, q.size ≤ maxLen := by
  intro q hq
  unfold piecesB at hq
  split at hq
  · simp at hq
  · unfold partsB at hq
    obtain ⟨p, hp, rfl⟩ := List.mem_map.1 hq
    have := cutL_len 47 _ p hp
    rw [bytesOf_len, ByteArray.size_extract] at this
    have e : (strOf p).size = p.length := by simp [strOf, ByteArray.size]
    rw [e]
    unfold maxLen
    omega
theorem pieces_len (s : ByteArray) (hs : s.size ≤ 200) : (piecesB s).length ≤ 201 := by
  unfold piecesB
  split
  · simp
  · unfold partsB
    rw [List.length_map]
    have := cutL_num 47 (bytesOf (s.extract 1 s.size))
    rw [bytesOf_len, ByteArray.size_extract] at this
    omega
theorem has_slash (s : ByteArray) : Lib.hasPrefix s.data.toList [47] = decide ((bytesOf s).getD 0 0 = 47) := by
  unfold Lib.hasPrefix bytesOf
  cases s.data.toList with
  | nil => simp
  | cons a t =>
    rw [Bool.eq_iff_iff]
    simp only [List.isPrefixOf, Bool.and_true, beq_iff_eq, List.map_cons, List.getD_cons_zero, decide_eq_true_eq]
    constructor
    · intro h; rw [← h]; rfl
    · intro h; apply UInt8.toNat_inj.1; show 47 = a.toNat; omega
theorem shas_any (s : ByteArray) (w : World) : Calls Tryz.prog 111 #[.string s, .string ⟨#[47]⟩] w fun e w' => e = .returned (.bool (decide ((bytesOf s).getD 0 0 = 47))) ∧ w' = w := by
  have h := Any.strings_HasPrefix Tryz.lays99 s ⟨#[47]⟩ w
  rw [← has_slash]
  exact h
theorem out_code (s : ByteArray) (h : 200 < s.size ∨ ¬ (bytesOf s).getD 0 0 = 47) : (splitB s).2 = 2 := by
  unfold splitB
  have e : ¬ s = ⟨#[47]⟩ := fun e => by
    subst e
    rcases h with h | h
    · exact absurd h (by decide)
    · exact h (by decide)
  rw [if_neg e, if_pos (by rcases h with h | h; exact .inr (.inl h); exact .inr (.inr h))]
set_option maxRecDepth 4000 in
set_option maxHeartbeats 4000000 in
theorem broken_any (s : ByteArray) (w : World) (hs : s.size ≤ maxLen) : Calls Tryz.prog 76 #[.string s] w fun e w' => e = .returned (errV (splitB s).2) ∧ Below w.heap.size w w' := by
  have hm : (s.size : Int) ≤ 9223372036854775807 := by unfold maxLen at hs; omega
  by_cases h1 : 200 < s.size
  · have HE : Hid (errV (splitB s).2 = .iface 80 (.int .i64 2)) := by show _ = _; rw [out_code s (.inl h1)]; rfl
    have i1 : (200 : Int) < (s.size : Int) := by omega
    clear hs h1
    go_enter Tryz.func76, Tryz.ntmps76
    go_wp2
    go_ret
    exact ⟨by rw [HE.out]; rfl, Below.refl _ _⟩
  · have i1 : ¬ (200 : Int) < (s.size : Int) := by omega
    have hs2 : s.size ≤ 200 := by omega
    by_cases h2 : (bytesOf s).getD 0 0 = 47
    · have h0 : 0 < s.size := by
        rw [← bytesOf_len]
        cases hb : bytesOf s with
        | nil => rw [hb] at h2; simp at h2
        | cons a t => simp
      have HH : Hid (Calls Tryz.prog 111 _ _ _) := shas_any s w
      rw [decide_eq_true h2] at HH
      have HP : Hid (∀ w, Calls Tryz.prog 77 #[.string s] w fun e w' => ∃ r, e = .returned r ∧ Sees w' r (strs (piecesB s)) ∧ Below w.heap.size w w') := fun w => pieces_any s w hs2 h0
      have HC := split_code2 s h1 h2
      have HS : Hid ((∀ q ∈ piecesB s, q.size ≤ maxLen) ∧ (piecesB s).length ≤ 201) := ⟨pieces_small s hs2, pieces_len s hs2⟩
      rw [HC]
      generalize piecesB s = l at HP HS
      have HC : Hid (codeB l = if l.any (fun q => !okB q) = true then 2 else if l.any longB = true then 3 else if 6 < l.length then 4 else 0) := rfl
      obtain ⟨b1, hb1⟩ : ∃ b, l.any (fun q => !okB q) = b := ⟨_, rfl⟩
      obtain ⟨b2, hb2⟩ : ∃ b, l.any longB = b := ⟨_, rfl⟩
      have HN : Hid (∀ v w, Sees w v (strs l) → Calls Tryz.prog 112 #[v, .func (.func 113) #[] #[]] w fun e w' => e = .returned (.bool b1) ∧ Below w.heap.size w w') := fun v w h => by
        rw [← hb1]; exact cf_any 113 (fun q => !okB q) enters39 noName_any v l w h HS.out.1
      have HL : Hid (∀ v w, Sees w v (strs l) → Calls Tryz.prog 112 #[v, .func (.func 114) #[] #[]] w fun e w' => e = .returned (.bool b2) ∧ Below w.heap.size w w') := fun v w h => by
        rw [← hb2]; exact cf_any 114 longB enters40 long_any v l w h HS.out.1
      rw [hb1, hb2] at HC
      clear hb1 hb2 h1 h2 h0 hs hs2
      go_enter Tryz.func76, Tryz.ntmps76
      go_wp2_with fail
      go_at_call 111
      refine HH.out.mono ?_
      rintro e1 w1 ⟨rfl, rfl⟩
      clear HH
      go_wp2_with fail
      go_at_call 77
      refine (HP.out _).mono ?_
      rintro e2 w2 ⟨r2, rfl, hr2, hb2⟩
      have H2 : Hid (Sees w2 r2 (strs l) ∧ Below w1.heap.size w1 w2) := ⟨hr2, hb2⟩
      clear hr2 hb2
      go_wp2_with fail
      go_at_call 112
      refine (HN.out _ _ H2.out.1).mono ?_
      rintro e3 w3 ⟨rfl, hb3⟩
      have H3 : Hid (Below w1.heap.size w1 w3) := bel2v H2.out.2 hb3
      clear hb3 H2 HN
      cases b1 with
      | true =>
        clear HP HL HS
        go_wp2
        go_ret
        exact ⟨by rw [HC.out]; rfl, H3.out⟩
      | false =>
        go_wp2_with fail
        go_at_call 77
        refine (HP.out _).mono ?_
        rintro e4 w4 ⟨r4, rfl, hr4, hb4⟩
        have H4 : Hid (Sees w4 r4 (strs l) ∧ Below w1.heap.size w1 w4) := ⟨hr4, bel2v H3.out hb4⟩
        clear hr4 hb4 H3
        go_wp2_with fail
        go_at_call 112
        refine (HL.out _ _ H4.out.1).mono ?_
        rintro e5 w5 ⟨rfl, hb5⟩
        have H5 : Hid (Below w1.heap.size w1 w5) := bel2v H4.out.2 hb5
        clear hb5 H4 HL
        cases b2 with
        | true =>
          clear HP HS
          go_wp2
          go_ret
          exact ⟨by rw [HC.out]; rfl, H5.out⟩
        | false =>
          go_wp2_with fail
          go_at_call 77
          refine (HP.out _).mono ?_
          rintro e6 w6 ⟨r6, rfl, hr6, hb6⟩
          have H6 : Hid (Below w1.heap.size w1 w6) := bel2v H5.out hb6
          obtain ⟨ao, cap, rfl, _, _, _, _⟩ := hr6
          clear hb6 H5 HP
          rw [strs_len]
          have hl : (l.length : Int) ≤ 201 := by have := HS.out.2; omega
          by_cases h6 : 6 < l.length
          · have HF : Hid (errV (codeB l) = .iface 80 (.int .i64 4)) := by show _ = _; rw [HC.out]; simp [h6]; rfl
            have i6 : (6 : Int) < (l.length : Int) := by omega
            clear HC HS h6
            go_wp2
            go_ret
            exact ⟨by rw [HF.out]; rfl, H6.out⟩
          · have HF : Hid (errV (codeB l) = .nilIface) := by show _ = _; rw [HC.out]; simp [h6]; rfl
            have i6 : ¬ (6 : Int) < (l.length : Int) := by omega
            clear HC HS h6
            go_wp2
            go_ret
            exact ⟨by rw [HF.out]; rfl, H6.out⟩
    · have HE : Hid (errV (splitB s).2 = .iface 80 (.int .i64 2)) := by show _ = _; rw [out_code s (.inr h2)]; rfl
      have HH : Hid (Calls Tryz.prog 111 _ _ _) := shas_any s w
      rw [decide_eq_false h2] at HH
      clear hs h1 h2 hs2
      go_enter Tryz.func76, Tryz.ntmps76
      go_wp2_with fail
      go_at_call 111
      refine HH.out.mono ?_
      rintro e1 w1 ⟨rfl, rfl⟩
      clear HH
      go_wp2
      go_ret
      exact ⟨by rw [HE.out]; rfl, Below.refl _ _⟩
theorem split_okP (s : ByteArray) (h : (splitB s).2 = 0) : 0 < s.size ∧ s.size ≤ 200 ∧ (splitB s).1 = piecesB s := by
  by_cases h1 : 200 < s.size ∨ ¬ (bytesOf s).getD 0 0 = 47
  · rw [out_code s h1] at h; cases h
  · have h2 : ¬ 200 < s.size := fun h => h1 (.inl h)
    have h3 : (bytesOf s).getD 0 0 = 47 := Decidable.byContradiction fun h => h1 (.inr h)
    refine ⟨?_, by omega, ?_⟩
    · rw [← bytesOf_len]
      cases hb : bytesOf s with
      | nil => rw [hb] at h3; simp at h3
      | cons a t => simp
    · unfold splitB at h ⊢
      unfold piecesB
      split
      · rfl
      · rename_i e
        rw [if_neg e] at h
        split at h
        · cases h
        · split at h
          · cases h
          · split at h
            · cases h
            · split at h
              · cases h
              · rename_i a b c d
                rw [if_neg a, if_neg b, if_neg c, if_neg d]
set_option maxHeartbeats 1000000 in
theorem nsplit_any (s : ByteArray) (w : World) (hs : s.size ≤ maxLen) :
    Calls Tryz.prog 44 #[.string s] w fun e w' => ∃ r, e = .returned (.tuple #[r, errV (splitB s).2]) ∧ Sees w' r (strs (splitB s).1) ∧ Below w.heap.size w w' := by
  have HX : Hid (Calls Tryz.prog 76 _ _ _) := broken_any s w hs
  have cp := split_code s
  have ok := split_okP s
  obtain ⟨⟨a, c⟩, he⟩ : ∃ x, splitB s = x := ⟨_, rfl⟩
  rw [he] at HX cp ok ⊢
  simp only at HX cp ok ⊢
  clear hs he
  by_cases h0 : c = 0
  · obtain ⟨k1, k2, rfl⟩ := ok h0
    subst h0
    have HP : Hid (∀ w, Calls Tryz.prog 77 #[.string s] w fun e w' => ∃ r, e = .returned r ∧ Sees w' r (strs (piecesB s)) ∧ Below w.heap.size w w') := fun w => pieces_any s w k2 k1
    have e0 : errV 0 = .nilIface := rfl
    rw [e0] at HX ⊢
    clear cp ok k1 k2 e0
    go_enter Tryz.func44, Tryz.ntmps44
    go_wp2_with fail
    go_at_call 76
    refine HX.out.mono ?_
    rintro e1 w1 ⟨rfl, hb1⟩
    have H1 : Hid (Below w.heap.size w w1) := hb1
    clear hb1 HX
    go_wp2_with fail
    go_at_call 77
    refine (HP.out _).mono ?_
    rintro e2 w2 ⟨r2, rfl, hr2, hb2⟩
    have H2 : Hid (Sees w2 r2 (strs (piecesB s)) ∧ Below w.heap.size w w2) := ⟨hr2, bel2v H1.out hb2⟩
    clear hr2 hb2 HP H1
    go_wp2
    go_ret2
    exact ⟨r2, rfl, H2.out⟩
  · have ha : a = [] := (cp.resolve_left h0).2
    subst ha
    have HE : errV c = .iface 80 (.int .i64 c) := by unfold errV; rw [if_neg h0]
    rw [HE] at HX ⊢
    clear cp ok h0 HE
    go_enter Tryz.func44, Tryz.ntmps44
    go_wp2_with fail
    go_at_call 76
    refine HX.out.mono ?_
    rintro e1 w1 ⟨rfl, hb1⟩
    have H1 : Hid (Below w.heap.size w w1) := hb1
    clear hb1 HX
    go_wp2
    go_ret2
    exact ⟨_, rfl, sees_none _, H1.out⟩
end Go.Proofs.YtbebgobboccjcaaGreatDoor
/- names.Join, Parent, Under, Less: what one call answers. -/
namespace Go.Proofs.YtbebgobboccjcaaGreatDoor
open Go.RowKit Kit
set_option linter.unusedVariables false

theorem builderX : Builder.Extra Tryz.prog Tryz.lays156_ren :=
  { sizeBuilder := by kernel_rfl, liesBuilder := by kernel_rfl, t5 := Tryz.underlying5, a5 := Tryz.isAgg5, z5 := Tryz.sizeOf5, v5 := Tryz.zeroValue5, infoByte := by kernel_rfl, cellsByte := by kernel_rfl, sizeByte := by kernel_rfl, neB5 := by decide }
theorem join_len (ss : List ByteArray) : (Lib.join (ss.map (·.data.toList)) [47]).length ≤ tot ss := by
  have h := congrArg ByteArray.size (join_slash ss)
  rw [ByteArray.size_append] at h
  have e1 : (⟨(Lib.join (ss.map (·.data.toList)) [47]).toArray⟩ : ByteArray).size = (Lib.join (ss.map (·.data.toList)) [47]).length := by simp [ByteArray.size]
  have e2 : (⟨#[47]⟩ : ByteArray).size = 1 := rfl
  have e3 : (joinB ss).size ≤ tot ss + 1 := by
    unfold joinB
    split
    · rw [e2]; omega
    · have := joinTo_size ss ss.length (Nat.le_refl _)
      rw [List.take_length] at this
      omega
  omega
theorem sjoin_any (x : Value) (ss : List ByteArray) (w : World) (hx : Sees w x (strs ss)) (hb : tot ss ≤ 1000000) :
    Calls Tryz.prog 148 #[x, .string ⟨#[47]⟩] w fun e w' => e = .returned (.string ⟨(Lib.join (ss.map (·.data.toList)) [47]).toArray⟩) ∧ Below w.heap.size w w' := by
  obtain ⟨ao, cap, rfl, h1, h2, h3, h4⟩ := hx
  rw [strs_len] at *
  cases ss with
  | nil =>
    refine (Any.strings_Join_none Tryz.lays156 builderX ao cap ⟨#[47]⟩ w).mono ?_
    rintro e w' ⟨rfl, rfl⟩
    exact ⟨by simp [Lib.join], Below.refl _ _⟩
  | cons a r =>
    obtain ⟨b, off, rfl, hbk, hc⟩ := h4 (by simp)
    have hl := join_len (a :: r)
    have hn : (a :: r).length ≤ tot (a :: r) := by
      unfold tot
      have : ∀ l : List ByteArray, l.length ≤ (l.map fun s => s.size + 1).sum := by
        intro l
        induction l with
        | nil => simp
        | cons q t ih => simp only [List.map_cons, List.sum_cons, List.length_cons]; omega
      exact this _
    refine (Any.strings_Join Tryz.lays156 builderX b off cap (a :: r) ⟨#[47]⟩ w ?_ hbk (by omega) h1 (by show (Lib.join ((a :: r).map (·.data.toList)) [47]).length ≤ _; omega)).mono ?_
    · intro j y hy
      refine hc j _ ?_
      unfold strs
      rw [List.getElem?_map, hy]; rfl
    · rintro e w' ⟨rfl, hb⟩
      exact ⟨rfl, hb⟩
set_option maxHeartbeats 1000000 in
theorem njoin_any (x : Value) (ss : List ByteArray) (w : World) (hx : Sees w x (strs ss)) (hb : tot ss ≤ 1000000) :
    Calls Tryz.prog 130 #[x] w fun e w' => e = .returned (.string (joinB ss)) ∧ Below w.heap.size w w' := by
  have HX : Hid (Calls Tryz.prog 148 _ _ _) := sjoin_any x ss w hx hb
  have HJ : Hid (joinB ss = _) := join_slash ss
  have hl := join_len ss
  obtain ⟨j, hj⟩ : ∃ j : ByteArray, (⟨(Lib.join (ss.map (·.data.toList)) [47]).toArray⟩ : ByteArray) = j := ⟨_, rfl⟩
  have hz : j.size ≤ 1000000 := by rw [← hj]; simp [ByteArray.size]; omega
  rw [hj] at HX HJ
  have i1 : (j.size : Int) ≤ 1000000 := by omega
  clear hx hb hl hj
  go_enter Tryz.func130, Tryz.ntmps130
  go_wp2_with fail
  go_at_call 148
  refine HX.out.mono ?_
  rintro e1 w1 ⟨rfl, hb1⟩
  have H1 : Hid (Below w.heap.size w w1) := hb1
  clear HX hb1
  go_wp2
  go_ret
  exact ⟨by rw [HJ.out]; rfl, H1.out⟩
theorem nless_any (a b : ByteArray) (w : World) :
    Calls Tryz.prog 133 #[.string a, .string b] w fun e w' => e = .returned (.bool (Op.bytesLess a.toList b.toList)) ∧ Below w.heap.size w w' := by
  go_enter Tryz.func133, Tryz.ntmps133
  go_wp2
  go_ret
  exact ⟨rfl, Below.refl _ _⟩
end Go.Proofs.YtbebgobboccjcaaGreatDoor
/- names.Parent, Under: what one call answers. -/
namespace Go.Proofs.YtbebgobboccjcaaGreatDoor
open Go.RowKit Kit
set_option linter.unusedVariables false

theorem keepP {w a b : World} {p : Addr} {x v : Value} {l : List ByteArray} (h : a.cell? p = some x ∧ Hid (Sees a v (strs l) ∧ p.block < a.heap.size ∧ Below w.heap.size w a)) (k : Below a.heap.size a b) : b.cell? p = some x ∧ Hid (Sees b v (strs l) ∧ p.block < b.heap.size ∧ Below w.heap.size w b) := by
  obtain ⟨h1, h2⟩ := h
  have h2 := h2.out
  have := k.size
  exact ⟨(k.cell h2.2.1).trans h1, ⟨h2.1.below k, by omega, bel2v h2.2.2 k⟩⟩
set_option maxRecDepth 4000 in
set_option maxHeartbeats 8000000 in
theorem nparent_any (s : ByteArray) (w : World) (hs : s.size ≤ maxLen) :
    Calls Tryz.prog 96 #[.string s] w fun e w' => e = .returned (.tuple #[.string (parentB s).1, .string (parentB s).2.1, errV (parentB s).2.2]) ∧ Below w.heap.size w w' := by
  have HX : Hid (Calls Tryz.prog 44 _ _ _) := nsplit_any s w hs
  have cp := split_code s
  have sp := split_small s
  have HU : Hid (parentB s = if (splitB s).2 ≠ 0 then (⟨#[]⟩, ⟨#[]⟩, (splitB s).2) else if (splitB s).1.length = 0 then (⟨#[]⟩, ⟨#[]⟩, 2) else (joinB ((splitB s).1.take ((splitB s).1.length - 1)), (splitB s).1.getD ((splitB s).1.length - 1) ⟨#[]⟩, 0)) := rfl
  obtain ⟨⟨a, e⟩, he⟩ : ∃ x, splitB s = x := ⟨_, rfl⟩
  rw [he] at HX cp sp HU
  simp only at HX cp sp HU
  have HSM : Hid (a.length ≤ 6 ∧ ∀ q ∈ a, q.size ≤ 12) := sp
  clear hs he sp
  rcases cp with hp0 | ⟨hp0, _⟩
  · subst hp0
    have e0 : errV 0 = .nilIface := rfl
    rw [e0] at HX
    clear e0
    go_enter Tryz.func96, Tryz.ntmps96
    go_wp2_with fail
    go_at_call 44
    refine HX.out.mono ?_
    rintro e1 w1 ⟨r1, rfl, hr1, hb1⟩
    have H1 : Hid (Sees w1 r1 (strs a) ∧ Below w.heap.size w w1) := ⟨hr1, hb1⟩
    clear hr1 hb1 HX
    obtain ⟨ao, ac, ha, hcap, _, _, hac⟩ := H1.out.1
    rw [strs_len] at ha hac hcap
    subst ha
    rcases Nat.eq_zero_or_pos a.length with h0 | h0
    · have HR : Hid (parentB s = (⟨#[]⟩, ⟨#[]⟩, 2)) := by show _ = _; rw [HU.out, if_neg (by simp), if_pos h0]
      rw [h0]
      clear HU hac hcap
      go_wp2
      go_ret3
      exact ⟨by rw [HR.out]; rfl, H1.out.2⟩
    · obtain ⟨m, hm⟩ : ∃ m, a.length = m + 1 := ⟨a.length - 1, by omega⟩
      have HR : Hid (parentB s = (joinB (a.take m), a.getD m ⟨#[]⟩, 0)) := by
        show _ = _
        rw [HU.out, if_neg (by simp), if_neg (by omega), hm]; rfl
      obtain ⟨b, off, hao, hbl, hc⟩ := hac h0
      subst hao
      have HSE : Sees w1 (.slice (some ⟨b, off, none⟩) m ac) (strs (a.take m)) := Sees.cut H1.out.1 m (by omega)
      have hml : m < a.length := by omega
      have c0 := hc m _ (strs_at a m hml)
      have HTT : Hid (tot (a.take m) ≤ 1000000) := by
        have h1 := tot_take a m
        have h2 := tot_small a HSM.out.2
        have := HSM.out.1
        show _ ≤ _
        omega
      have m6 : (m : Int) ≤ 6 := by have := HSM.out.1; omega
      have m0 : (0 : Int) ≤ (m : Int) := by omega
      have mc : (m : Int) ≤ (ac : Int) := by
        omega
      obtain ⟨q, hq⟩ : ∃ q, a.getD m ⟨#[]⟩ = q := ⟨_, rfl⟩
      rw [hq] at c0 HR
      have HS0 : Hid (w1.cell? ⟨b, off + m, none⟩ = some (.string q) ∧ Hid (Sees w1 (.slice (some ⟨b, off, none⟩) m ac) (strs (a.take m)) ∧ b < w1.heap.size ∧ Below w.heap.size w w1)) := ⟨c0, ⟨HSE, hbl, H1.out.2⟩⟩
      have HJ : Hid (∀ W, (W.cell? ⟨b, off + m, none⟩ = some (.string q) ∧ Hid (Sees W (.slice (some ⟨b, off, none⟩) m ac) (strs (a.take m)) ∧ b < W.heap.size ∧ Below w.heap.size w W)) → Calls Tryz.prog 130 #[.slice (some ⟨b, off, none⟩) m ac] W fun e w' => e = .returned (.string (joinB (a.take m))) ∧ Below W.heap.size W w') := fun W h => njoin_any _ (a.take m) W h.2.out.1 HTT.out
      rw [hm]
      clear hac hc hbl hm hml h0 hq HU hcap HSE HTT HSM H1
      have f0 : ((m : Int) + 1 - 1) = (m : Int) := by omega
      have f1 : (m : Int) < (m : Int) + 1 := by omega
      have f2 : IntKind.i64.wrap (m : Int) = (m : Int) := by rw [IntKind.wrap_i64]; omega
      go_wp2
      go_region_held3 (fun w' => w'.cell? ⟨b, off + m, none⟩ = some (.string q) ∧ Hid (Sees w' (.slice (some ⟨b, off, none⟩) m ac) (strs (a.take m)) ∧ b < w'.heap.size ∧ Below w.heap.size w w')) (first | exact HS0.out | exact keepP HS0.out ((Below.refl _ _).drew) | exact keepP (by assumption) (by assumption))
        (first
          | (go_at_call 130; refine (HJ.out _ (by assumption)).mono ?_; rintro e w2 ⟨rfl, hb2⟩))
      rename_i hS
      have HB : Hid (Below w.heap.size w w2) := hS.2.out.2.2
      clear hS HJ HS0
      go_wp2
      go_ret3
      exact ⟨by rw [HR.out]; rfl, HB.out⟩
  · have HE : errV e = .iface 80 (.int .i64 e) := by unfold errV; rw [if_neg hp0]
    have HR : Hid (parentB s = (⟨#[]⟩, ⟨#[]⟩, e)) := by show _ = _; rw [HU.out, if_pos hp0]
    have HE2 : Hid (errV e = .iface 80 (.int .i64 e)) := HE
    rw [HE] at HX
    clear HU hp0 HE
    go_enter Tryz.func96, Tryz.ntmps96
    go_wp2_with fail
    go_at_call 44
    refine HX.out.mono ?_
    rintro e1 w1 ⟨r1, rfl, hr1, hb1⟩
    have H1 : Hid (Below w.heap.size w w1) := hb1
    clear hr1 hb1 HX
    go_wp2
    go_ret3
    exact ⟨by rw [HR.out]; simp only; rw [HE2.out]; rfl, H1.out⟩
theorem equal_any (x y : Value) (a b : List ByteArray) (w : World) (hx : Sees w x (strs a)) (hy : Sees w y (strs b)) (hl : a.length = b.length) :
    Calls Tryz.prog 131 #[x, y] w fun e w' => e = .returned (.bool (decide (a = b))) ∧ Below w.heap.size w w' := by
  obtain ⟨ao, ac, rfl, h1, h2, h3, h4⟩ := hx
  obtain ⟨bo, bc, rfl, k1, k2, k3, k4⟩ := hy
  rw [strs_len] at h1 h4 k1 k4
  rw [strs_len, strs_len]
  unfold maxLen at h2 k2
  rcases Nat.eq_zero_or_pos a.length with h0 | h0
  · rw [h0, ← hl, h0]
    refine (Any.slices_Equal_string_empty Tryz.lays193 ao bo ac 0 bc w (by omega)).mono ?_
    rintro e w' ⟨rfl, rfl⟩
    have ea : a = [] := List.eq_nil_of_length_eq_zero h0
    have eb : b = [] := List.eq_nil_of_length_eq_zero (by omega)
    subst ea eb
    exact ⟨rfl, Below.refl _ _⟩
  · obtain ⟨p, o, rfl, hp, hc⟩ := h4 h0
    obtain ⟨q, o2, rfl, hq, kc⟩ := k4 (by omega)
    refine (Any.slices_Equal_string Tryz.lays193 p o a.length ac q o2 b.length bc a b w (Nat.le_refl _) (Nat.le_refl _) (by omega) (by omega) (fun j hj => hc j _ (strs_at a j hj)) (fun j hj => kc j _ (strs_at b j hj))).mono ?_
    rintro e w' ⟨rfl, m, rfl⟩
    rw [List.take_length, List.take_length]
    exact ⟨rfl, drewB (Below.refl _ _) m⟩
set_option maxRecDepth 4000 in
set_option maxHeartbeats 8000000 in
theorem nunder_any (p d : ByteArray) (w : World) (hp : p.size ≤ maxLen) (hd : d.size ≤ maxLen) :
    Calls Tryz.prog 99 #[.string p, .string d] w fun e w' => e = .returned (.bool (underB p d)) ∧ Below w.heap.size w w' := by
  have HX : Hid (Calls Tryz.prog 44 _ _ _) := nsplit_any p w hp
  have HY : Hid (∀ w, Calls Tryz.prog 44 #[.string d] w fun e w' => ∃ r, e = .returned (.tuple #[r, errV (splitB d).2]) ∧ Sees w' r (strs (splitB d).1) ∧ Below w.heap.size w w') := fun w => nsplit_any d w hd
  have cp := split_code p
  have cd := split_code d
  have sp := (split_small p).1
  have sd := (split_small d).1
  have HU : Hid (underB p d = decide ((splitB p).2 = 0 ∧ (splitB d).2 = 0 ∧ (splitB p).1.take (splitB d).1.length = (splitB d).1)) := rfl
  obtain ⟨⟨a, e⟩, he⟩ : ∃ x, splitB p = x := ⟨_, rfl⟩
  obtain ⟨⟨b, f⟩, hf⟩ : ∃ x, splitB d = x := ⟨_, rfl⟩
  rw [he] at HX cp sp HU
  rw [hf] at HY cd sd HU
  simp only at HX HY cp cd sp sd HU
  clear hp hd he hf
  rcases cp with hp0 | ⟨hp0, _⟩
  · subst hp0
    have e0 : errV 0 = .nilIface := rfl
    rw [e0] at HX
    clear e0
    go_enter Tryz.func99, Tryz.ntmps99
    go_wp2_with fail
    go_at_call 44
    refine HX.out.mono ?_
    rintro e1 w1 ⟨r1, rfl, hr1, hb1⟩
    have H1 : Hid (Sees w1 r1 (strs a) ∧ Below w.heap.size w w1) := ⟨hr1, hb1⟩
    clear hr1 hb1 HX
    rcases cd with hd0 | ⟨hd0, _⟩
    · subst hd0
      have e0 : errV 0 = .nilIface := rfl
      rw [e0] at HY
      clear e0
      go_wp2_with fail
      go_at_call 44
      refine (HY.out w1).mono ?_
      rintro e2 w2 ⟨r2, rfl, hr2, hb2⟩
      have H2 : Hid (Sees w2 r1 (strs a) ∧ Sees w2 r2 (strs b) ∧ Below w.heap.size w w2) := ⟨H1.out.1.below hb2, hr2, bel2v H1.out.2 hb2⟩
      clear hr2 hb2 HY H1
      obtain ⟨ao, ac, ha, h1, _, _, _⟩ := H2.out.1
      obtain ⟨bo, bc, hb, k1, _, _, _⟩ := H2.out.2.1
      rw [strs_len] at ha hb h1 k1
      subst ha hb
      have la : (a.length : Int) ≤ 6 := by omega
      have lb : (b.length : Int) ≤ 6 := by omega
      by_cases hl : (a.length : Int) < (b.length : Int)
      · have HR : Hid (underB p d = false) := by
          show _ = _
          rw [HU.out]
          refine decide_eq_false ?_
          rintro ⟨_, _, h⟩
          have := congrArg List.length h
          simp at this
          omega
        clear HU
        go_wp2
        go_ret
        exact ⟨congrArg (fun b => Ending.returned (.bool b)) HR.out.symm, H2.out.2.2⟩
      · have HQ : Hid (Calls Tryz.prog 131 _ _ _) := equal_any _ _ (a.take b.length) b w2 (Sees.cut H2.out.1 b.length (by omega)) H2.out.2.1 (by simp; omega)
        have HR : Hid (underB p d = decide (a.take b.length = b)) := by
          show _ = _
          rw [HU.out]
          simp
        obtain ⟨u, hu⟩ : ∃ u, decide (a.take b.length = b) = u := ⟨_, rfl⟩
        rw [hu] at HQ HR
        have lc : (b.length : Int) ≤ (ac : Int) := by omega
        have ld : (0 : Int) ≤ (b.length : Int) := by omega
        clear HU hu
        go_wp2_with fail
        go_at_call 131
        refine HQ.out.mono ?_
        rintro e3 w3 ⟨rfl, hb3⟩
        have H3 : Hid (Below w.heap.size w w3) := bel2v H2.out.2.2 hb3
        clear hb3 HQ
        go_wp2
        go_ret
        exact ⟨congrArg (fun b => Ending.returned (.bool b)) HR.out.symm, H3.out⟩
    · have HE : errV f = .iface 80 (.int .i64 f) := by unfold errV; rw [if_neg hd0]
      have HR : Hid (underB p d = false) := by
        show _ = _
        rw [HU.out]
        refine decide_eq_false ?_
        rintro ⟨_, h, _⟩
        exact hd0 h
      rw [HE] at HY
      clear HU hd0 HE
      go_wp2_with fail
      go_at_call 44
      refine (HY.out w1).mono ?_
      rintro e2 w2 ⟨r2, rfl, hr2, hb2⟩
      have H2 : Hid (Below w.heap.size w w2) := bel2v H1.out.2 hb2
      clear hr2 hb2 HY H1
      go_wp2
      go_ret
      exact ⟨congrArg (fun b => Ending.returned (.bool b)) HR.out.symm, H2.out⟩
  · have HE : errV e = .iface 80 (.int .i64 e) := by unfold errV; rw [if_neg hp0]
    have HR : Hid (underB p d = false) := by
      show _ = _
      rw [HU.out]
      refine decide_eq_false ?_
      rintro ⟨h, _⟩
      exact hp0 h
    rw [HE] at HX
    clear HU hp0 cd HE HY
    go_enter Tryz.func99, Tryz.ntmps99
    go_wp2_with fail
    go_at_call 44
    refine HX.out.mono ?_
    rintro e1 w1 ⟨r1, rfl, hr1, hb1⟩
    have H1 : Hid (Below w.heap.size w w1) := hb1
    clear hr1 hb1 HX
    go_wp2
    go_ret
    exact ⟨congrArg (fun b => Ending.returned (.bool b)) HR.out.symm, H1.out⟩
end Go.Proofs.YtbebgobboccjcaaGreatDoor
/- What is refused, what only reads, changes nothing; the codes that are told. (No walk of a program in it.) -/
namespace Go.Proofs.YtbebgobboccjcaaGreatDoor
open Go.RowKit Kit
set_option linter.unusedVariables false

theorem makes_refused (t : TreeB) (o : OpB) (h : (makesB t o).2.2 ≠ 0) : (makesB t o).1 = t ∧ (makesB t o).2.1 = noReply := by
  unfold makesB at *
  cases hh : homeB t o.path with
  | error x => exact ⟨rfl, rfl⟩
  | ok ds =>
    rw [hh] at h
    simp only at h ⊢
    split
    · exact ⟨rfl, rfl⟩
    · rename_i h1
      rw [if_neg h1] at h
      split
      · exact ⟨rfl, rfl⟩
      · rename_i h2
        rw [if_neg h2] at h
        exact absurd rfl h
theorem removes_refused (t : TreeB) (o : OpB) (h : (removesB t o).2.2 ≠ 0) : (removesB t o).1 = t ∧ (removesB t o).2.1 = noReply := by
  unfold removesB at *
  split
  · exact ⟨rfl, rfl⟩
  · rename_i h1
    rw [if_neg h1] at h
    cases hf : findB t o.path with
    | error x => exact ⟨rfl, rfl⟩
    | ok k =>
      rw [hf] at h
      simp only at h ⊢
      split
      · exact ⟨rfl, rfl⟩
      rename_i h2
      rw [if_neg h2] at h
      split
      · exact ⟨rfl, rfl⟩
      rename_i h3
      rw [if_neg h3] at h
      split
      · exact ⟨rfl, rfl⟩
      rename_i h4
      rw [if_neg h4] at h
      cases hh : homeB t o.path with
      | error x => exact ⟨rfl, rfl⟩
      | ok ds => rw [hh] at h; exact absurd rfl h
theorem rename_refused (t : TreeB) (o : OpB) (h : (renameB t o).2.2 ≠ 0) : (renameB t o).1 = t ∧ (renameB t o).2.1 = noReply := by
  unfold renameB at *
  split
  · exact ⟨rfl, rfl⟩
  rename_i h1
  rw [if_neg h1] at h
  split
  · exact ⟨rfl, rfl⟩
  rename_i h2
  rw [if_neg h2] at h
  cases hf : findB t o.path with
  | error x => exact ⟨rfl, rfl⟩
  | ok k =>
    rw [hf] at h
    simp only at h ⊢
    split
    · exact ⟨rfl, rfl⟩
    rename_i h3
    rw [if_neg h3] at h
    cases hh : homeB t o.to with
    | error x => exact ⟨rfl, rfl⟩
    | ok ds =>
      rw [hh] at h
      simp only at h ⊢
      cases hp : homeB t o.path with
      | error x => exact ⟨rfl, rfl⟩
      | ok po =>
        rw [hp] at h
        simp only at h ⊢
        split
        · rename_i h4
          rw [if_pos h4] at h
          split
          · exact ⟨rfl, rfl⟩
          rename_i h5
          rw [if_neg h5] at h
          split
          · exact ⟨rfl, rfl⟩
          rename_i h6
          rw [if_neg h6] at h
          split
          · exact ⟨rfl, rfl⟩
          rename_i h7
          rw [if_neg h7] at h
          split
          · exact ⟨rfl, rfl⟩
          rename_i h8
          rw [if_neg h8] at h
          exact absurd rfl h
        · rename_i h4
          rw [if_neg h4] at h
          exact absurd rfl h
theorem link_refused (t : TreeB) (o : OpB) (h : (linkB t o).2.2 ≠ 0) : (linkB t o).1 = t ∧ (linkB t o).2.1 = noReply := by
  unfold linkB at *
  split
  · exact ⟨rfl, rfl⟩
  rename_i h1
  rw [if_neg h1] at h
  cases hf : findB t o.path with
  | error x => exact ⟨rfl, rfl⟩
  | ok k =>
    rw [hf] at h
    simp only at h ⊢
    split
    · exact ⟨rfl, rfl⟩
    rename_i h2
    rw [if_neg h2] at h
    cases hh : homeB t o.to with
    | error x => exact ⟨rfl, rfl⟩
    | ok ds =>
      rw [hh] at h
      simp only at h ⊢
      split
      · exact ⟨rfl, rfl⟩
      rename_i h3
      rw [if_neg h3] at h
      split
      · exact ⟨rfl, rfl⟩
      rename_i h4
      rw [if_neg h4] at h
      exact absurd rfl h
theorem file_refused (t : TreeB) (o : OpB) (h : (fileB t o).2.2 ≠ 0) : (fileB t o).1 = t ∧ (fileB t o).2.1 = noReply := by
  unfold fileB at *
  cases hf : findB t o.path with
  | error x => exact ⟨rfl, rfl⟩
  | ok k =>
    rw [hf] at h
    simp only at h ⊢
    split
    · exact ⟨rfl, rfl⟩
    rename_i h1
    rw [if_neg h1] at h
    split
    · rename_i h2
      rw [if_pos h2] at h
      split
      · exact ⟨rfl, rfl⟩
      · rename_i h3; rw [if_neg h3] at h; exact absurd rfl h
    rename_i h2
    rw [if_neg h2] at h
    split
    · rename_i h3
      rw [if_pos h3] at h
      split
      · exact ⟨rfl, rfl⟩
      rename_i h4
      rw [if_neg h4] at h
      split
      · rename_i h5; rw [if_pos h5] at h; exact absurd rfl h
      · rename_i h5; rw [if_neg h5] at h; exact absurd rfl h
    rename_i h3
    rw [if_neg h3] at h
    split
    · exact ⟨rfl, rfl⟩
    · rename_i h4; rw [if_neg h4] at h; exact absurd rfl h
theorem looks_refused (t : TreeB) (o : OpB) (h : (looksB t o).2.2 ≠ 0) : (looksB t o).2.1 = noReply := by
  unfold looksB at *
  cases hf : findB t o.path with
  | error x => rfl
  | ok k =>
    rw [hf] at h
    simp only at h ⊢
    split
    · rename_i h1; rw [if_pos h1] at h; exact absurd rfl h
    · rename_i h1
      rw [if_neg h1] at h
      split
      · rfl
      · rename_i h2; rw [if_neg h2] at h; exact absurd rfl h
/-- What is refused changes nothing. -/
theorem do_refused (t : TreeB) (o : OpB) (h : (doB t o).2.2 ≠ 0) : (doB t o).1 = t ∧ (doB t o).2.1 = noReply := by
  unfold doB at *
  split
  · rename_i h1; rw [if_pos h1] at h; exact makes_refused t o h
  rename_i h1; rw [if_neg h1] at h
  split
  · rename_i h2; rw [if_pos h2] at h; exact removes_refused t o h
  rename_i h2; rw [if_neg h2] at h
  split
  · rename_i h3; rw [if_pos h3] at h; exact rename_refused t o h
  rename_i h3; rw [if_neg h3] at h
  split
  · rename_i h4; rw [if_pos h4] at h; exact link_refused t o h
  rename_i h4; rw [if_neg h4] at h
  split
  · rename_i h5; rw [if_pos h5] at h; exact file_refused t o h
  rename_i h5; rw [if_neg h5] at h
  split
  · rename_i h6; rw [if_pos h6] at h; exact ⟨looks_good o, looks_refused t o h⟩
  · exact ⟨rfl, rfl⟩
def readsB (k : Int) : Bool := k == 7 || k == 10 || k == 11
/-- What only reads changes nothing. -/
theorem do_reads (t : TreeB) (o : OpB) (h : readsB o.kind = true) : (doB t o).1 = t := by
  unfold readsB at h
  simp at h
  unfold doB
  rw [if_neg (by omega), if_neg (by omega), if_neg (by omega), if_neg (by omega)]
  rcases h with (h | h) | h
  · rw [if_pos (.inl h)]
    unfold fileB
    cases hf : findB t o.path with
    | error x => rfl
    | ok k =>
      simp only
      split
      · rfl
      · split <;> first | rfl | (split <;> rfl)
  · rw [if_neg (by omega), if_pos (.inl h)]; exact looks_good o
  · rw [if_neg (by omega), if_pos (.inr h)]; exact looks_good o
theorem find_code {t : TreeB} {p : ByteArray} {x : Int} (h : findB t p = .error x) : x = 2 ∨ x = 3 ∨ x = 4 ∨ x = 5 ∨ x = 8 := by
  unfold findB at h
  split at h
  · rename_i h1
    injection h with h
    subst h
    have h0 := h1
    unfold splitB at h0 ⊢
    split
    · rename_i e; rw [if_pos e] at h0; exact absurd rfl h0
    split
    · exact .inl rfl
    split
    · exact .inl rfl
    split
    · exact .inr (.inl rfl)
    split
    · exact .inr (.inr (.inl rfl))
    · rename_i a b c d e; rw [if_neg a, if_neg b, if_neg c, if_neg d, if_neg e] at h0; exact absurd rfl h0
  · have : ∀ (l : List ByteArray) (k : Nat), walkB t k l = .error x → x = 5 ∨ x = 8 := by
      intro l
      induction l with
      | nil => intro k h; rw [walkB] at h; cases h
      | cons s r ih =>
        intro k h
        rw [walkB] at h
        split at h
        · injection h with h; exact .inr h.symm
        · split at h
          · injection h with h; exact .inl h.symm
          · exact ih _ h
    rcases this _ _ h with h1 | h1
    · exact .inr (.inr (.inr (.inl h1)))
    · exact .inr (.inr (.inr (.inr h1)))
end Go.Proofs.YtbebgobboccjcaaGreatDoor
