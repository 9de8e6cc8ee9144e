/- onFile: a file's bytes are read, written, cut. -/
import Derived.Test.YtchajlaflehodaaGreatDoorG4
import Derived.Deep.RegionWith
namespace Go.Proofs.YtchajlaflehodaaGreatDoor
open Go.RowKit Kit
set_option linter.unusedVariables false

/-- The box of an operation. -/
def OBox (w : World) (B : Nat) (o : OpB) (dv : Value) : Prop := w.heap[B]? = some (.cells #[.int .i64 o.kind, .string o.path, .string o.to, .int .i64 o.off, .int .i64 o.n, dv, .int .i64 o.snap] 25)
theorem OBox.c {w : World} {B : Nat} {o : OpB} {dv : Value} (h : OBox w B o dv) : w.cell? ⟨B, 0, none⟩ = some (.int .i64 o.kind) ∧ w.cell? ⟨B, 1, none⟩ = some (.string o.path) ∧ w.cell? ⟨B, 2, none⟩ = some (.string o.to) ∧ w.cell? ⟨B, 3, none⟩ = some (.int .i64 o.off) ∧ w.cell? ⟨B, 4, none⟩ = some (.int .i64 o.n) ∧ w.cell? ⟨B, 5, none⟩ = some dv ∧ w.cell? ⟨B, 6, none⟩ = some (.int .i64 o.snap) ∧ B < w.heap.size := by
  have hl := (Array.getElem?_eq_some_iff.1 h).1
  unfold OBox at h
  refine ⟨?_, ?_, ?_, ?_, ?_, ?_, ?_, hl⟩ <;> simp [World.cell?, h]
theorem OBox.below {w w' : World} {B : Nat} {o : OpB} {dv : Value} (h : OBox w B o dv) (hb : Below w.heap.size w w') : OBox w' B o dv := (hb.block B h.c.2.2.2.2.2.2.2).trans h
theorem OBox.turn {w w' : World} {B p b : Nat} {o : OpB} {dv : Value} (h : OBox w B o dv) (ht : Turn p b w w') (hp : B ≠ p) (hb : B ≠ b) : OBox w' B o dv := (ht.block B h.c.2.2.2.2.2.2.2 hp hb).trans h
/-- The two boxes of a function of an operation that hands a reply back. -/
def Two (w W : World) (o : OpB) (dv : Value) : Prop := OBox W w.heap.size o dv ∧ RBox W (w.heap.size + 1) ∧ Below w.heap.size w W
theorem two_new (w : World) (o : OpB) (dv : Value) : Two w ((w.alloc (.cells #[.int .i64 o.kind, .string o.path, .string o.to, .int .i64 o.off, .int .i64 o.n, dv, .int .i64 o.snap] 25)).alloc (.cells #[.int .i64 0, .int .i64 0, .int .i64 0, .int .i64 0, .int .i64 0, .slice none 0 0, .slice none 0 0, .slice none 0 0] 34)) o dv := by
  obtain ⟨W1, hW1⟩ : ∃ z, z = w.alloc (.cells #[.int .i64 o.kind, .string o.path, .string o.to, .int .i64 o.off, .int .i64 o.n, dv, .int .i64 o.snap] 25) := ⟨_, rfl⟩
  have h1 : OBox W1 w.heap.size o dv := by rw [hW1]; exact (MapKept.heap_alloc w _).1
  have hs : W1.heap.size = w.heap.size + 1 := by rw [hW1]; simp
  have hb : Below w.heap.size w W1 := by rw [hW1]; exact (Below.refl _ _).alloc (Nat.le_refl _) _
  rw [← hW1]
  refine ⟨h1.below ((Below.refl _ _).alloc (Nat.le_refl _) _), ?_, hb.alloc hb.size _⟩
  have := rbox_new W1
  rw [hs] at this
  exact this
theorem Two.below {w W W' : World} {o : OpB} {dv : Value} (h : Two w W o dv) (hb : Below W.heap.size W W') : Two w W' o dv := ⟨h.1.below hb, h.2.1.below hb, bel2v h.2.2 hb⟩
def fileF (t : TreeB) (o : OpB) (q : Except Int Nat) : TreeB × ReplyB × Int := match q with
  | .error e => (t, noReply, e)
  | .ok k => if o.kind = 7 then (if o.off < 0 ∨ o.n < 0 then (t, noReply, 12) else (t, { noReply with data := ((nodeAt t k).data.drop o.off.toNat).take o.n.toNat }, 0)) else
    if o.kind = 8 then (if o.off < 0 ∨ o.off > 2000 - (o.data.length : Int) then (t, noReply, 12) else
      (dataB t k (if o.data.length = 0 then (nodeAt t k).data else laidB (bytesB (nodeAt t k).data (max (nodeAt t k).data.length (o.off.toNat + o.data.length))) o.off.toNat o.data), { noReply with n := o.data.length }, 0)) else
    if o.n < 0 ∨ 2000 < o.n then (t, noReply, 12) else (dataB t k (bytesB (nodeAt t k).data o.n.toNat), noReply, 0)
theorem data_same {t : TreeB} {k : Nat} (hk : k < t.nodes.length) : dataB t k (nodeAt t k).data = t := by
  unfold dataB setB
  have : ({ nodeAt t k with data := (nodeAt t k).data } : NodeB) = t.nodes[k] := by rw [nodeAt_eq t k hk]
  rw [this, List.set_getElem_self]
theorem file_eq {t : TreeB} (hG : Good t) (o : OpB) (ho : o.kind = 7 ∨ o.kind = 8 ∨ o.kind = 9) : fileB t o = fileF t o (outFile t (findB t o.path)) := by
  unfold fileB
  cases hf : findB t o.path with
  | error e => rfl
  | ok k =>
    have hk := find_lt hG.e.fair hf
    simp only [outFile]
    by_cases h2 : (nodeAt t k).kind = 2
    · rw [if_pos h2, if_pos h2]; rfl
    · rw [if_neg h2, if_neg h2]
      simp only [fileF]
      by_cases h7 : o.kind = 7
      · rw [if_pos h7, if_pos h7]
      · rw [if_neg h7, if_neg h7]
        by_cases h8 : o.kind = 8
        · rw [if_pos h8, if_pos h8]
          by_cases hr : o.off < 0 ∨ 2000 < o.off ∨ 2000 - o.off < (o.data.length : Int)
          · have hr2 : o.off < 0 ∨ o.off > 2000 - (o.data.length : Int) := by omega
            rw [if_pos hr, if_pos hr2]
          · have hr2 : ¬ (o.off < 0 ∨ o.off > 2000 - (o.data.length : Int)) := by omega
            rw [if_neg hr, if_neg hr2]
            by_cases h0 : o.data.length = 0
            · rw [if_pos h0, if_pos h0, data_same hk, h0]; rfl
            · rw [if_neg h0, if_neg h0]
        · rw [if_neg h8, if_neg h8]
/-- A file's node with other bytes is laid into the map. -/
theorem put_data {w W : World} {p b : Nat} {t : TreeB} {k : Nat} (hT : DTree w p b t) (ht : Fair t) (hk : k < t.nodes.length) (hk1 : (nodeAt t k).kind = 1) (hb : Below w.heap.size w W) (dv : Value) (l : List Int) (hdv : Sees W dv (intsV .u8 l)) :
    ∃ w5, (Instr.mapUpdate 64 (.map (some b)) (.int .i64 (nodeAt t k).ino) (.agg #[.int .i64 1, dv, .slice none 0 0])).run Tryz.prog W = .ok () w5 ∧ DTree w5 p b (dataB t k l) ∧ Turn p b w w5 ∧ Turn p b W w5 := by
  have ok := ht.each _ (nodeAt_mem hk)
  have hn : (nodeAt t k).names = [] := by
    rcases ok.2.2 with h | h
    · omega
    · exact h.2.1
  obtain ⟨w5, h1, h2, h3, _⟩ := (hT.below hb).put (w1 := W) ht hk ⟨{ nodeAt t k with data := l }, dv, .slice none 0 0⟩ rfl ⟨hdv, ⟨none, 0, by simp [pairsB, hn], by simp [pairsB, hn], by simp, fun _ => rfl, fun h => by simp [pairsB, hn] at h⟩⟩
  refine ⟨w5, ?_, h2, (turn_below hb).trans h3, h3⟩
  have e : (⟨{ nodeAt t k with data := l }, dv, .slice none 0 0⟩ : DN).val = .agg #[.int .i64 1, dv, .slice none 0 0] := by unfold DN.val; simp only; rw [hk1]
  rw [e] at h1
  exact h1
theorem dsized9 {W : World} {dv : Value} {l : List Int} {n : Int} (hd : Sees W dv (intsV .u8 l)) (hn : 0 ≤ n ∧ n ≤ 2000) : Calls Tryz.prog 75 #[dv, .int .i64 n] W fun e w' => ∃ r, e = .returned r ∧ Sees w' r (intsV .u8 (bytesB l n.toNat)) ∧ Below W.heap.size W w' := by
  have h9 := dsized_any dv l n.toNat W hd (by omega)
  rw [show ((n.toNat : Nat) : Int) = n by omega] at h9
  refine h9.mono ?_
  rintro e w' ⟨rfl, hg, hb⟩
  have hl3 : W.heap.size < w'.heap.size := (Array.getElem?_eq_some_iff.1 hg).1
  refine ⟨_, rfl, ⟨some ⟨W.heap.size, 0, none⟩, n.toNat, by rw [intsV_len, bytesB_len], by rw [intsV_len, bytesB_len]; exact Nat.le_refl _, by unfold maxLen; omega, by simp, fun _ => ⟨W.heap.size, 0, rfl, hl3, fun i x hx => ?_⟩⟩, hb⟩
  simp only [World.cell?, hg, Nat.zero_add]
  simpa using hx
theorem dwritten9 {W : World} {dv mv : Value} {l m : List Int} {off : Int} (hd : Sees W dv (intsV .u8 l)) (hm : Sees W mv (intsV .u8 m)) (hl : l.length ≤ 2000) (ho : 0 ≤ off ∧ off + (m.length : Int) ≤ 2000) : Calls Tryz.prog 74 #[dv, .int .i64 off, mv] W fun e w' => ∃ r, e = .returned r ∧ Sees w' r (intsV .u8 (if m.length = 0 then l else laidB (bytesB l (max l.length (off.toNat + m.length))) off.toNat m)) ∧ Below W.heap.size W w' := by
  have h9 := dwritten_any dv mv l m off.toNat W hd hm hl (by omega)
  rw [show ((off.toNat : Nat) : Int) = off by omega] at h9
  exact h9
theorem told_two {w w1 W2 : World} {p b : Nat} {t : TreeB} (hT1 : DTree w1 p b t) (ht : Turn p b w w1) (hB : RBox w1 (w.heap.size + 1)) (hp : p < w.heap.size) (hb : b < w.heap.size) (ho : Only (w.heap.size + 1) w1 W2) : DTree W2 p b t ∧ Turn p b w W2 :=
  told_fin hT1 ht hB (by omega) (by omega) (by omega) ho (Below.refl _ _)
end Go.Proofs.YtchajlaflehodaaGreatDoor
