/- dolmenref5.reached of a tree: all its inodes. -/
import Derived.Test.YtchajlaflehodaaGreatDoorG2
import Derived.Test.YtchajlaflehodaaGreatDoorG3
import Derived.Test.YtchajlaflehodaaGreatDoorG1
import Derived.WalkSmall
import Derived.Deep.OwnRows
import Derived.Deep.RegionLaw
namespace Go.Proofs.YtchajlaflehodaaGreatDoor
open Go.RowKit Kit
set_option linter.unusedVariables false

theorem infoBl5 : (Tryz.prog.info? 4).map (fun i => (i.zero, i.size, i.bytes)) = some (some (.bool false), 1, 1) := by kernel_rfl
theorem infoIn5 : (Tryz.prog.info? 3).map (fun i => (i.zero, i.size, i.bytes)) = some (some (.int .i64 0), 1, 8) := by kernel_rfl
def natsV (l : List Nat) : List Value := l.map fun (k : Nat) => Value.int .i64 (k : Int)
theorem natsV_len (l : List Nat) : (natsV l).length = l.length := by simp [natsV]
def seenC (N : Nat) (S : Nat → Bool) : Array Value := ((List.range N).map fun j => Value.bool (S j)).toArray
theorem seenC_at (N : Nat) (S : Nat → Bool) (k : Nat) (h : k < N) : (seenC N S)[k]? = some (.bool (S k)) := by simp [seenC, h]
theorem seenC_made (N : Nat) : madeCells #[Value.bool false] N = seenC N fun _ => false := by
  apply Array.ext'
  unfold seenC
  apply List.ext_getElem?
  intro i
  by_cases h : i < N
  · simp [madeCells, h, Nat.mod_one]
  · simp [madeCells, h]
theorem psetR {w : World} {B j : Nat} {cs : Array Value} {t : TypeId} (h : w.heap[B]? = some (.cells cs t)) (v : Value) : (w.setCell ⟨B, j, none⟩ v).heap[B]? = some (.cells (cs.setIfInBounds j v) t) := by
  obtain ⟨hl, he⟩ := Array.getElem?_eq_some_iff.1 h
  simp only [World.setCell]
  rw [Array.getElem?_modify, if_pos rfl, h]
  rfl
theorem seenC_set (N : Nat) (S : Nat → Bool) (k : Nat) (h : k < N) : (seenC N S).setIfInBounds k (.bool true) = seenC N (seeS S k) := by
  apply Array.ext'
  unfold seenC
  simp only [Array.toList_setIfInBounds]
  apply List.ext_getElem
  · simp
  · intro j h1 h2
    simp at h1 h2 ⊢
    rw [List.getElem_set]
    unfold seeS
    by_cases e : k = j
    · simp [e]
    · rw [if_neg e]
      have : j ≠ k := fun x => e x.symm
      simp [this]
def lenV : Value → Nat
  | .slice _ n _ => n
  | _ => 0
/-- Where the walk's memory stands. -/
structure RchAt (w wr : World) (v0 v1 : Value) (N : Nat) (S : Nat → Bool) (tv : Value) (todo : List Nat) : Prop where
  box : wr.heap[w.heap.size]? = some (.cells #[v0, v1] 41)
  seen : wr.heap[w.heap.size + 1]? = some (.cells (seenC N S) 4)
  row : RowV wr (w.heap.size + 2) 3 tv (natsV todo)
  bel : Below w.heap.size w wr
  size : w.heap.size + 2 ≤ wr.heap.size
theorem RchAt.below {w wr w' : World} {v0 v1 tv : Value} {N : Nat} {S : Nat → Bool} {todo : List Nat} (h : RchAt w wr v0 v1 N S tv todo) (hb : Below wr.heap.size wr w') : RchAt w w' v0 v1 N S tv todo :=
  ⟨(hb.block _ (Array.getElem?_eq_some_iff.1 h.box).1).trans h.box, (hb.block _ (Array.getElem?_eq_some_iff.1 h.seen).1).trans h.seen, h.row.below hb, h.bel.trans (hb.mono h.bel.size), Nat.le_trans h.size hb.size⟩
theorem RchAt.c {w wr : World} {v0 v1 tv : Value} {N : Nat} {S : Nat → Bool} {todo : List Nat} (h : RchAt w wr v0 v1 N S tv todo) : wr.cell? ⟨w.heap.size, 0, none⟩ = some v0 ∧ wr.cell? ⟨w.heap.size, 1, none⟩ = some v1 ∧ w.heap.size < wr.heap.size ∧ w.heap.size + 1 < wr.heap.size ∧ (∀ k, k < N → wr.cell? ⟨w.heap.size + 1, k, none⟩ = some (.bool (S k))) ∧ ∀ j, wr.frozen? ⟨w.heap.size + 1, j, none⟩ = false := by
  have h1 := h.box
  have h2 := h.seen
  have l1 := (Array.getElem?_eq_some_iff.1 h1).1
  have l2 := (Array.getElem?_eq_some_iff.1 h2).1
  refine ⟨?_, ?_, l1, l2, fun k hk => ?_, fun j => ?_⟩
  · simp [World.cell?, h1]
  · simp [World.cell?, h1]
  · simp only [World.cell?, h2]
    exact seenC_at N S k hk
  · simp [World.frozen?, h2]
theorem RchAt.pop {w wr : World} {v0 v1 : Value} {g cap : Nat} {N : Nat} {S : Nat → Bool} {l : List Nat} {k : Nat} (h : RchAt w wr v0 v1 N S (.slice (some ⟨g, 0, none⟩) (l.length + 1) cap) (l ++ [k])) : RchAt w wr v0 v1 N S (.slice (some ⟨g, 0, none⟩) l.length cap) l := by
  refine ⟨h.box, h.seen, ?_, h.bel, h.size⟩
  have h1 := h.row
  unfold RowV at h1 ⊢
  rw [natsV_len] at h1 ⊢
  have e : natsV (l ++ [k]) = natsV l ++ [.int .i64 (k : Int)] := by simp [natsV]
  rw [e, List.length_append] at h1
  exact ownsRow_pop (by rw [natsV_len]; omega) h1
theorem RchAt.last {w wr : World} {v0 v1 : Value} {a : Option Addr} {cap : Nat} {N : Nat} {S : Nat → Bool} {l : List Nat} {k : Nat} (h : RchAt w wr v0 v1 N S (.slice a (l.length + 1) cap) (l ++ [k])) : ∃ g, a = some ⟨g, 0, none⟩ ∧ wr.cell? ⟨g, l.length, none⟩ = some (.int .i64 (k : Int)) ∧ l.length + 1 ≤ cap ∧ cap ≤ maxLen := by
  have h1 := h.row
  have e : natsV (l ++ [k]) = natsV l ++ [.int .i64 (k : Int)] := by simp [natsV]
  rcases h1.2 with ⟨h2, h3⟩ | ⟨g, cap', cur, hv, hg, hh, hn, hcm, hs, ht⟩
  · cases h2
  · injection hv with q1 q2 q3
    subst q1 q3
    have hg2 := World.ownsRow.cellAt (h := by unfold RowV at h1; rw [natsV_len, List.length_append] at h1; exact h1) (j := l.length) (by simp)
    refine ⟨g, rfl, ?_, by rw [natsV_len, List.length_append] at hn; exact hn, hcm⟩
    rw [hg2, e, List.getElem?_append_right (by rw [natsV_len]; omega), natsV_len]
    simp
theorem RchAt.mark {w wr : World} {v0 v1 tv : Value} {N : Nat} {S : Nat → Bool} {todo : List Nat} {k : Nat} (h : RchAt w wr v0 v1 N S tv todo) (hk : k < N) : RchAt w (wr.setCell ⟨w.heap.size + 1, k, none⟩ (.bool true)) v0 v1 N (seeS S k) tv todo := by
  refine ⟨?_, ?_, ?_, ?_, ?_⟩
  · exact (Below.heap_setCell _ _ _ w.heap.size (by show w.heap.size ≠ w.heap.size + 1; omega)).trans h.box
  · rw [← seenC_set N S k hk]
    exact psetR h.seen _
  · exact ownsRow_setCell_below h.row (by show w.heap.size + 1 < w.heap.size + 2; omega) _
  · exact h.bel.setCell (Nat.le_succ _) _
  · have := h.size
    simp [World.setCell]
    omega
theorem RchAt.app {w wr w2 w4 : World} {v0 v1 : Value} {a : Option Addr} {c n : Nat} {v4 : Value} {N : Nat} {S : Nat → Bool} {l l' : List Nat} {q : Nat} {o : Obj} (h : RchAt w wr v0 v1 N S (.slice a n c) l) (hb : Below wr.heap.size wr w2) (hO : (w2.alloc o).ownsRow (w.heap.size + 2) 3 1 (.slice a n c) n (natsV l)) (hr : w4.ownsRow (w.heap.size + 2) 3 1 v4 (n + 1) (natsV l ++ [.int .i64 (q : Int)])) (hg : (w2.alloc o).grownBy w4 (Value.slice a n c).ownBlock) (hl : l' = l ++ [q]) (hn : n = l.length) : RchAt w w4 v0 v1 N S v4 l' := by
  have hsz : w.heap.size + 2 ≤ (w2.alloc o).heap.size := by have := hb.size; have := h.size; simp; omega
  have hb4 : Below (w.heap.size + 2) (w2.alloc o) w4 := (Below.refl _ _).grown hg hsz (fun j hj => (hO.lt j hj).1)
  have hb2 : Below wr.heap.size wr (w2.alloc o) := bel2v hb ((Below.refl _ _).alloc (Nat.le_refl _) _)
  have hb5 : Below (w.heap.size + 2) wr w4 := (hb2.mono h.size).trans hb4
  refine ⟨(hb5.block _ (by omega)).trans h.box, (hb5.block _ (by omega)).trans h.seen, ?_, h.bel.trans (hb5.mono (by omega)), Nat.le_trans h.size hb5.size⟩
  subst hl hn
  unfold RowV
  rw [natsV_len, List.length_append]
  have e : natsV (l ++ [q]) = natsV l ++ [.int .i64 (q : Int)] := by simp [natsV]
  rw [e]
  exact hr
theorem lit1R (w : World) (v0 : Value) (ty : TypeId) : ∀ (j : Nat) u, [v0][j]? = some u → (w.alloc (.cells #[v0] ty)).cell? ((⟨w.heap.size, 0, none⟩ : Addr).add j) = some u := by
  intro j u hu
  have h := (MapKept.heap_alloc w (.cells #[v0] ty)).1
  rw [Addr.add_lit, Nat.zero_add]
  simp only [World.cell?, h]
  rw [← hu]
  simp
theorem rowR_form {w : World} {base n : Nat} {e : TypeId} {v : Value} {xs : List Value} (h : w.ownsRow base e 1 v n xs) : ∃ a c, v = .slice a n c := by
  rcases h.2 with ⟨h2, h3⟩ | ⟨g, cap, cur, hv, _⟩
  · exact ⟨none, 0, by rw [h3]; exact h2⟩
  · exact ⟨_, _, hv⟩
theorem split_last {α : Type} (l : List α) (h : 0 < l.length) : ∃ m k, l = m ++ [k] := ⟨l.dropLast, l.getLast (List.ne_nil_of_length_pos h), (List.dropLast_concat_getLast _).symm⟩
set_option maxRecDepth 4000 in
set_option maxHeartbeats 8000000 in
theorem reached_any (v : Value) (t : TreeB) (w : World) (hT : TreeAt w v t) (hG : Good t) :
    Calls Tryz.prog 36 #[v] w fun e w' => e = .returned (.int .i64 (t.nodes.length : Int)) ∧ Below w.heap.size w w' := by
  have HT : Hid (TreeAt w v t) := hT
  obtain ⟨ao, cap, fs, rfl, h1, h2, h3, h4, h5⟩ := hT.opened
  have hl := fs_len h3
  have h60 : t.nodes.length ≤ 60 := hG.1.size
  have lm : (t.nodes.length : Int) ≤ 60 := by omega
  have l0 : (0 : Int) ≤ (t.nodes.length : Int) := by omega
  have H5 : Hid (_ → _) := h5
  have H3 : Hid (fs.map FN.n = t.nodes ∧ ∀ f ∈ fs, f.is w) := ⟨h3, h4⟩
  have HG : Hid (Good t) := hG
  obtain ⟨W0, hW0⟩ : ∃ z, z = w.alloc (.cells #[.slice ao t.nodes.length cap, .int .i64 t.next] 41) := ⟨_, rfl⟩
  have hs0 : W0.heap.size = w.heap.size + 1 := by rw [hW0]; simp
  have hm := run_make_row' (P := Tryz.prog) 100 4 (.bool false) 1 Tryz.underlying100 infoBl5 rfl .i64 .i64 t.nodes.length (by omega) (by omega) W0
  rw [hs0] at hm
  obtain ⟨W1, hW1⟩ : ∃ W, W = W0.alloc (.cells (madeCells #[.bool false] t.nodes.length) 4) := ⟨_, rfl⟩
  rw [← hW1] at hm
  have HW1 : Hid (W1.heap[w.heap.size]? = some (.cells #[.slice ao t.nodes.length cap, .int .i64 t.next] 41) ∧ W1.heap[w.heap.size + 1]? = some (.cells (seenC t.nodes.length fun _ => false) 4) ∧ Below w.heap.size w W1 ∧ W1.heap.size = w.heap.size + 2) := by
    have b0 : Below w.heap.size w W0 := by rw [hW0]; exact (Below.refl _ _).alloc (Nat.le_refl _) _
    have b1 : Below W0.heap.size W0 W1 := by rw [hW1]; exact (Below.refl _ _).alloc (Nat.le_refl _) _
    refine ⟨?_, ?_, bel2v b0 b1, by rw [hW1]; simp [hs0]⟩
    · rw [b1.block _ (by omega), hW0]; exact (MapKept.heap_alloc w _).1
    · rw [← hs0, hW1, seenC_made]; exact (MapKept.heap_alloc W0 _).1
  have HP1 : Hid (Calls Tryz.prog 35 _ _ _) := place_any _ t 1 W1 (HT.out.below HW1.out.2.2.1)
  have e1 : placeB t 1 = 0 := by unfold placeB; rw [hG.1.one]; rfl
  rw [e1] at HP1
  have k0 : W1.cell? ⟨w.heap.size, 0, none⟩ = some (.slice ao t.nodes.length cap) := by simp [World.cell?, HW1.out.1]
  have k1 : W1.cell? ⟨w.heap.size, 1, none⟩ = some (.int .i64 t.next) := by simp [World.cell?, HW1.out.1]
  have k2 : w.heap.size < W1.heap.size := by rw [HW1.out.2.2.2]; omega
  rw [hW0] at hm
  clear h1 h2 h3 h4 h5 hT hG hW0 hW1 hs0
  go_enter Tryz.func36, Tryz.ntmps36
  go_wp2_with fail
  go_at_call 35
  refine HP1.out.mono ?_
  rintro e w2 ⟨rfl, hb2⟩
  have HST : Hid (RchAt w (w2.alloc (.cells #[.int .i64 0] 3)) (.slice ao t.nodes.length cap) (.int .i64 t.next) t.nodes.length (fun _ => false) (.slice (some ⟨w2.heap.size, 0, none⟩) 1 1) [0]) := by
    have hbx : Below W1.heap.size W1 (w2.alloc (.cells #[.int .i64 0] 3)) := bel2v hb2 ((Below.refl _ _).alloc (Nat.le_refl _) _)
    have hsz := HW1.out.2.2.2
    refine ⟨(hbx.block _ (by omega)).trans HW1.out.1, (hbx.block _ (by omega)).trans HW1.out.2.1, ?_, bel2v HW1.out.2.2.1 hbx, by have := hbx.size; omega⟩
    exact rowV_lit w2 _ _ [.int .i64 0] (by have := hb2.size; omega) (by unfold maxLen; simp)
  clear hm k0 k1 k2 hb2 HP1 HW1 e1
  go_wp2_with fail
  go_loopw [4, 5, 6, 7] (fun s4 s5 _ _ wr => ∃ (S : Nat → Bool) (todo : List Nat) (n : Nat) (a : Option Addr) (c : Nat), s4 = .slice a todo.length c ∧ s5 = .int .i64 (n : Int) ∧ Hid (RchAt w wr (.slice ao t.nodes.length cap) (.int .i64 t.next) t.nodes.length S (.slice a todo.length c) todo ∧ Walks t S todo n)) (fun s4 s5 _ _ _ => (t.nodes.length - (intOf s5).toNat) * 2000 + lenV s4)
  case atStart => exact ⟨fun _ => false, [0], 0, _, _, rfl, rfl, ⟨HST.out, Walks.start HG.out⟩⟩
  case round =>
    obtain ⟨S, todo, n, a, c, rfl, rfl, HR⟩ := hrel
    clear HST
    by_cases h0 : 0 < todo.length
    · obtain ⟨l, k, rfl⟩ := split_last todo h0
      have hle : (l ++ [k]).length = l.length + 1 := by simp
      rw [hle] at HR ⊢
      obtain ⟨g, rfl, cg, hcap, hcm⟩ := HR.out.1.last
      have hk : k < t.nodes.length := HR.out.2.lt k (by simp)
      have hn60 : n ≤ 60 := Nat.le_trans HR.out.2.most h60
      have hll : l.length ≤ 100000 := by have := HR.out.2.len; rw [hle] at this; omega
      have HRP : Hid (RchAt w wr (.slice ao t.nodes.length cap) (.int .i64 t.next) t.nodes.length S (.slice (some ⟨g, 0, none⟩) l.length c) l) := HR.out.1.pop
      obtain ⟨b, off, hao, hb, hc⟩ := H5.out (by omega)
      have hfk : k < fs.length := by omega
      have a5w := hc k hfk
      have a5 := At5.below a5w hb HR.out.1.bel
      have hn : nodeAt t k = fs[k].n := fs_at H3.out.1 hfk
      have HFI : Hid (fs[k].is w) := H3.out.2 _ (List.getElem_mem hfk)
      obtain ⟨x0, x1, x2, x3, x4, x5⟩ := HR.out.1.c
      have xs := x4 k hk
      have bl : b < wr.heap.size := Nat.lt_of_lt_of_le hb HR.out.1.bel.size
      obtain ⟨f, hf⟩ : ∃ f, fs[k] = f := ⟨_, rfl⟩
      rw [hf] at a5 a5w hn HFI
      have HOK : Hid (NodeOK f.n) := by have := HG.out.1.each _ (nodeAt_mem hk); rw [hn] at this; exact this
      have HKP : Hid (kidP t k = f.n.inos.map fun i => (placeO t i).getD 0) := by show _ = _; unfold kidP; rw [hn]
      have HKN : Hid (nodeAt t k = f.n) := hn
      obtain ⟨⟨ino, kind, data, names, inos⟩, d, m, iv⟩ := f
      obtain ⟨_, y1, _, _, y4⟩ := a5
      obtain ⟨_, z1, _, _, z4⟩ := a5w
      simp only at y1 y4 z1 z4 HKP HKN HOK
      have hfi : Sees w iv (intsV .i64 inos) := HFI.out.2.2
      clear HFI
      obtain ⟨io, ic, rfl, q1, q2, q3, q4⟩ := hfi
      simp only [intsV_len] at q1 q4 y4 z4
      have HZ : Hid (w.cell? ⟨b, off + k * 5 + 1, none⟩ = some (.int .i64 kind) ∧ w.cell? ⟨b, off + k * 5 + 4, none⟩ = some (.slice io inos.length ic)) := ⟨z1, z4⟩
      clear z1 z4
      have HI : Hid (0 < inos.length → _) := q4
      have qm : (inos.length : Int) ≤ 1200 := by
        have := (names_small HG.out.1 (nodeAt_mem hk)).2
        rw [HKN.out] at this
        simp only at this
        omega
      have kl : (k : Int) < (t.nodes.length : Int) := by omega
      have kz : (0 : Int) ≤ (k : Int) := by omega
      have ml : ((l.length : Nat) : Int) + 1 ≤ (c : Int) := by omega
      have mz : (0 : Int) ≤ (l.length : Int) := by omega
      have mq : (l.length : Int) ≤ 100000 := by omega
      have cm : (c : Int) ≤ 9223372036854775807 := by unfold maxLen at hcm; omega
      have HND : Hid (n ≤ 60 ∧ b < w.heap.size ∧ k < t.nodes.length) := ⟨hn60, hb, hk⟩
      have n6 : (n : Int) ≤ 60 := by omega
      subst hao
      clear x4 hc hn hf hfk q1 q2 q3 q4 h0 hle hcm hcap hll h60 hn60
      cases hsk : S k with
      | true =>
        rw [hsk] at xs
        have HTW : Hid ((nodeAt t k).kind ≠ 2 ∧ Walks t S l n) := HR.out.2.twice HG.out hsk
        have hkd : kind ≠ 2 := by have := HTW.out.1; rw [HKN.out] at this; exact this
        have hke : (kind == 2) = false := beq_eq_false_iff_ne.2 hkd
        clear hsk
        go_wp2
        exact ⟨⟨S, l, n, _, _, rfl, rfl, ⟨HRP.out, HTW.out.2⟩⟩, by simp [lenV]⟩
      | false =>
        rw [hsk] at xs
        have HNX : Hid (Walks t (seeS S k) (l ++ kidP t k) (n + 1)) := HR.out.2.next HG.out hsk
        obtain ⟨W5, hW5⟩ : ∃ z, z = wr.setCell ⟨w.heap.size + 1, k, none⟩ (.bool true) := ⟨_, rfl⟩
        have HM5 : Hid (RchAt w W5 (.slice (some ⟨b, off, none⟩) t.nodes.length cap) (.int .i64 t.next) t.nodes.length (seeS S k) (.slice (some ⟨g, 0, none⟩) l.length c) l) := by rw [hW5]; exact HRP.out.mark HND.out.2.2
        have HAt : Hid (∀ U, Below w.heap.size w U → U.cell? ⟨b, off + k * 5 + 1, none⟩ = some (.int .i64 kind) ∧ U.cell? ⟨b, off + k * 5 + 4, none⟩ = some (.slice io inos.length ic) ∧ b < U.heap.size) := fun U hU => by
          exact ⟨(hU.cell (by exact HND.out.2.1)).trans HZ.out.1, (hU.cell (by exact HND.out.2.1)).trans HZ.out.2, Nat.lt_of_lt_of_le HND.out.2.1 hU.size⟩
        clear hsk HR HRP
        go_wp2_with fail
        rw [← hW5]
        clear hW5 xs x0 x1 x2 x3 x5 y1 y4 bl cg
        go_loopw [4, 7] (fun s4 s7 wr => ∃ (i : Nat) (a : Option Addr) (c : Nat), i ≤ inos.length ∧ s7 = .int .i64 (i : Int) ∧ s4 = .slice a (l.length + i) c ∧ Hid (RchAt w wr (.slice (some ⟨b, off, none⟩) t.nodes.length cap) (.int .i64 t.next) t.nodes.length (seeS S k) (.slice a (l.length + i) c) (l ++ (kidP t k).take i))) (fun _ s7 _ => inos.length - (intOf s7).toNat)
        case atStart => exact ⟨0, _, _, Nat.zero_le _, rfl, rfl, by simpa using HM5⟩
        case round =>
          obtain ⟨i, a, c2, hi, rfl, rfl, HRi⟩ := hrel
          clear HM5
          obtain ⟨x0, x1, x2, x3, _, _⟩ := HRi.out.c
          obtain ⟨y1, y4, bl⟩ := HAt.out _ HRi.out.bel
          by_cases hil : i < inos.length
          · have l0 : (i : Int) < (inos.length : Int) := by omega
            have l1 : (0 : Int) ≤ (i : Int) := by omega
            have hkd : kind = 2 := HOK.out.dir (List.ne_nil_of_length_pos (by show 0 < inos.length; omega))
            subst hkd
            obtain ⟨ib, jf, hio, hib, hicell⟩ := HI.out (by omega)
            subst hio
            have ci := (HRi.out.bel.cell (by exact hib)).trans (hicell i _ (intsV_at .i64 inos i hil))
            have il : ib < wr.heap.size := Nat.lt_of_lt_of_le hib HRi.out.bel.size
            have HPl : Hid (∀ U, Below wr.heap.size wr U → Calls Tryz.prog 35 #[.agg #[.slice (some ⟨b, off, none⟩) t.nodes.length cap, .int .i64 t.next], .int .i64 (inos.getD i 0)] U fun e w' => e = .returned (.int .i64 (((placeO t (inos.getD i 0)).getD 0 : Nat) : Int)) ∧ Hid (Below wr.heap.size wr w')) := fun U hU => by
              refine (place_any _ t (inos.getD i 0) U (HT.out.below (bel2v HRi.out.bel hU))).mono ?_
              rintro e w' ⟨rfl, hb'⟩
              have hmem : inos.getD i 0 ∈ inos := by simp [List.getD, hil]
              obtain ⟨_, q, hq, he⟩ := HG.out.1.leads _ (nodeAt_mem HND.out.2.2) _ (by rw [HKN.out]; exact hmem)
              obtain ⟨j, hj⟩ := placeO_of hq
              rw [he] at hj
              exact ⟨by unfold placeB; rw [hj]; rfl, bel2v hU hb'⟩
            have HKI : Hid ((kidP t k).take (i + 1) = (kidP t k).take i ++ [(placeO t (inos.getD i 0)).getD 0]) := by
              show _ = _
              have h1 : i < (kidP t k).length := by rw [HKP.out, List.length_map]; exact hil
              rw [List.take_add_one, List.getElem?_eq_getElem h1, Option.toList_some]
              simp [HKP.out, List.getD, hil]
            have HLe : Hid ((l ++ (kidP t k).take i).length = l.length + i) := by
              show _ = _
              rw [List.length_append, List.length_take, HKP.out, List.length_map]; omega
            obtain ⟨x, hx⟩ : ∃ x, inos.getD i 0 = x := ⟨_, rfl⟩
            rw [hx] at ci HPl HKI
            obtain ⟨q, hq⟩ : ∃ q, (placeO t x).getD 0 = q := ⟨_, rfl⟩
            rw [hq] at HPl HKI
            have HOW : Hid (∀ w2 o, Below wr.heap.size wr w2 → (w2.alloc o).ownsRow (w.heap.size + 2) 3 1 (.slice a (l.length + i) c2) (l.length + i) (natsV (l ++ (kidP t k).take i)) ∧ w.heap.size + 2 ≤ (w2.alloc o).heap.size) := fun w2 o hb2 => by
              have hr := HRi.out.below (bel2v hb2 ((Below.refl _ _).alloc (Nat.le_refl _) o))
              have hrow := hr.row
              unfold RowV at hrow
              rw [natsV_len, HLe.out] at hrow
              exact ⟨hrow, hr.size⟩
            have HQ : Hid (l.length + i ≤ 200000) := by show _ ≤ _; omega
            clear hicell hx hq hib
            go_wp2_with fail
            go_region_law (first
              | (rw [if_pos (by simp [Region.wanted])]; go_wp2_with fail; go_at_call 35; refine (HPl.out _ (by first | exact Below.refl _ _ | exact (Below.refl _ _).drew)).mono ?_; rintro e w3 ⟨rfl, HB3⟩)
              | (refine step_appS Tryz.underlying32 infoIn5 rfl (by decide) (by rfl) _ _ (by rfl) (w.heap.size + 2) (.slice a (l.length + i) c2) (l.length + i) (natsV (l ++ (kidP t k).take i)) (by rfl) (HOW.out w3 _ HB3.out).1 ⟨w3.heap.size, 0, none⟩ 1 1 [.int .i64 (q : Int)] (by rfl) (by rfl) (lit1R w3 _ _) (by intro u hu; rw [List.mem_singleton] at hu; subst hu; rfl) (by have := HQ.out; unfold maxLen; omega) (by have := HQ.out; omega) (HOW.out w3 _ HB3.out).2 ?_; intro v4 w4 hr4 hg4
                 obtain ⟨ax', cx', rfl⟩ := rowR_form hr4
                 have HE := HRi.out.app HB3.out (HOW.out w3 _ HB3.out).1 hr4 hg4 (l' := l ++ (kidP t k).take (i + 1)) (by rw [HKI.out, List.append_assoc]) HLe.out.symm
                 have HEH : Hid _ := HE
                 clear HE hr4 hg4))
            all_goals (
              go_wp2
              go_roundw
              case rel => exact ⟨i + 1, _, _, by omega, by simp, rfl, HEH⟩
              case measure => simp [intOf]; omega)
          · obtain rfl : i = inos.length := by omega
            have HRe : Hid (RchAt w wr (.slice (some ⟨b, off, none⟩) t.nodes.length cap) (.int .i64 t.next) t.nodes.length (seeS S k) (.slice a (l ++ kidP t k).length c2) (l ++ kidP t k)) := by
              have h1 : (kidP t k).length = inos.length := by rw [HKP.out, List.length_map]
              have h2 := HRi.out
              rw [← h1, List.take_length] at h2
              rw [List.length_append]
              exact h2
            have hlen : l.length + inos.length = (l ++ kidP t k).length := by rw [List.length_append, HKP.out, List.length_map]
            clear HRi
            go_wp2
            refine ⟨⟨seeS S k, l ++ kidP t k, n + 1, _, _, by rw [hlen], by simp, ⟨HRe.out, HNX.out⟩⟩, ?_⟩
            have hm := HNX.out.most
            simp only [intOf, lenV]
            omega
    · have hz : todo.length = 0 := by omega
      have hz2 : todo = [] := List.eq_nil_of_length_eq_zero hz
      subst hz2
      have HE : Hid (n = t.nodes.length) := HR.out.2.ends HG.out
      have HB : Hid (Below w.heap.size w wr) := HR.out.1.bel
      clear HR h0
      go_wp2
      go_ret
      exact ⟨by rw [HE.out]; rfl, HB.out⟩
end Go.Proofs.YtchajlaflehodaaGreatDoor
