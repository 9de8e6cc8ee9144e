/- A list of steps that came in, opened. -/
import Derived.Test.YthjcmagionaepaaRTab
import Derived.Test.YthjcmagionaepaaRSum
import Derived.OpenShut
import Derived.ProofKit
import Derived.SliceStrings
namespace Go.Proofs.Ythjcmagionaepaa
open Go.ChangeShapes Go.WideShapes Go.ChangeAt Go.RowKit Kit
set_option linter.unusedVariables false

/-- A step. -/
structure Ts where
  kind : Int
  name : ByteArray
  ino : Int
  ep : Int
  es : List Int
theorem cellsI : Try.prog.cellsOf 3 = 1 := by kernel_rfl
theorem cellsS : Try.prog.cellsOf 9 = 1 := by kernel_rfl
theorem cellsIs : Try.prog.cellsOf 22 = 1 := by kernel_rfl
theorem five9 {α : Type} {l : List α} (h : l.length = 5) : ∃ a b c d e, l = [a, b, c, d, e] := by
  match l, h with
  | [a, b, c, d, e], _ => exact ⟨a, b, c, d, e, rfl⟩
theorem struct5 {H : Type} {enc : TypeId × Value → H} {P : Program} {w : World} {base : Nat} {spare : Nat → Bool} {held : Bool} {t : TypeId} {f0 f1 f2 f3 f4 : Field} {fuel : Nat} {cs : List Value} {x : DataW H × List MemPlace} (ht : P.underlying t = some (.struct #[f0, f1, f2, f3, f4])) (h : DataW.trod enc P w base spare held fuel t cs = some x) :
    ∃ (n : Nat) (y0 y1 y2 y3 y4 : DataW H × List MemPlace), fuel = n + 1 ∧ cs.length = P.cellsOf t ∧ DataW.trod enc P w base spare held n f0.type ((cs.drop f0.offset).take (P.cellsOf f0.type)) = some y0 ∧ DataW.trod enc P w base spare held n f1.type ((cs.drop f1.offset).take (P.cellsOf f1.type)) = some y1 ∧
      DataW.trod enc P w base spare held n f2.type ((cs.drop f2.offset).take (P.cellsOf f2.type)) = some y2 ∧ DataW.trod enc P w base spare held n f3.type ((cs.drop f3.offset).take (P.cellsOf f3.type)) = some y3 ∧ DataW.trod enc P w base spare held n f4.type ((cs.drop f4.offset).take (P.cellsOf f4.type)) = some y4 := by
  obtain ⟨xs, n, hn, _, hcl, hxl, hfld⟩ := DataW.trod_struct ht h
  obtain ⟨x0, x1, x2, x3, x4, rfl⟩ := five9 (l := xs) (by rw [hxl]; rfl)
  exact ⟨n, x0, x1, x2, x3, x4, hn, hcl, hfld 0 f0 rfl, hfld 1 f1 rfl, hfld 2 f2 rfl, hfld 3 f3 rfl, hfld 4 f4 rfl⟩
theorem sees_of_cells {w : World} {a : Addr} {len cap : Nat} {xs : List Value} (hl : xs.length = len) (hc : len ≤ cap) (hm : cap ≤ maxLen) (h : ∀ i x, xs[i]? = some x → w.cell? (a.add i) = some x) : Sees w (.slice (some a) len cap) xs := by
  subst hl
  refine ⟨some a, cap, rfl, hc, hm, by simp, fun h0 => ?_⟩
  obtain ⟨b, off, spot⟩ := a
  have c0 := h 0 xs[0] (by simp)
  have hs : spot = none := by simpa [Addr.add] using World.cell?_spot c0
  subst hs
  have hb : b < w.heap.size := by
    rcases Nat.lt_or_ge b w.heap.size with h' | h'
    · exact h'
    · simp [Addr.add, World.cell?, Array.getElem?_eq_none h'] at c0
  refine ⟨b, off, rfl, hb, fun i x hx => ?_⟩
  have := h i x hx
  rwa [Addr.add_lit] at this
theorem sees_nil (w : World) : Sees w (.slice none 0 0) [] := ⟨none, 0, rfl, Nat.le_refl _, by simp, fun _ => rfl, fun h => absurd h (by simp)⟩
theorem ints_of {H : Type} {enc : TypeId × Value → H} {P : Program} {w : World} {held : Bool} {t e : TypeId} {fuel : Nat} {v : Value} {x : DataW H × List MemPlace} (ht : P.underlying t = some (.slice e)) (he : P.underlying e = some (.int .i64)) (hc : P.cellsOf e = 1)
    (h : DataW.trod enc P w 0 (fun _ => true) held fuel t [v] = some x) : ∃ zs : List Int, Sees w v (iV zs) := by
  rcases open_ints ht he hc h with ⟨h0, _⟩ | ⟨a, len, cap, zs, h0, _, hl, hm, hz, _, hcell, hwz⟩
  · simp only [List.cons.injEq, and_true] at h0
    subst h0
    exact ⟨[], sees_nil w⟩
  · simp only [List.cons.injEq, and_true] at h0
    subst h0
    simp only [if_true] at hz
    refine ⟨zs.take len, sees_of_cells (by simp [iV]; omega) hl hm fun i x hx => ?_⟩
    have hi : i < len := by have := (List.getElem?_eq_some_iff.1 hx).1; simp [iV] at this; omega
    rw [hcell i (by omega), ← hx]
    have : i < zs.length := by omega
    simp [iV, List.getD, hi, this]
/-- What a step's text and numbers keep to. -/
def TsFit (w : World) (s : Ts) (ea : Option Addr) (ec : Nat) : Prop := Sees w (.slice ea s.es.length ec) (iV s.es) ∧ s.name.size ≤ maxLen ∧ s.es.length ≤ maxLen
theorem TsFit.below {w w' : World} {s : Ts} {ea : Option Addr} {ec : Nat} (h : TsFit w s ea ec) (hb : Below w.heap.size w w') : TsFit w' s ea ec := ⟨h.1.below hb, h.2⟩
/-- A step in five cells. -/
def At5 (w : World) (b o : Nat) (s : Ts) (ea : Option Addr) (ec : Nat) : Prop := w.cell? ⟨b, o, none⟩ = some (.int .i64 s.kind) ∧ w.cell? ⟨b, o + 1, none⟩ = some (.string s.name) ∧ w.cell? ⟨b, o + 2, none⟩ = some (.int .i64 s.ino) ∧ w.cell? ⟨b, o + 3, none⟩ = some (.int .i64 s.ep) ∧ w.cell? ⟨b, o + 4, none⟩ = some (.slice ea s.es.length ec)
theorem At5.below {w w' : World} {b o : Nat} {s : Ts} {ea : Option Addr} {ec : Nat} (h : At5 w b o s ea ec) (hl : b < w.heap.size) (hb : Below w.heap.size w w') : At5 w' b o s ea ec :=
  ⟨(hb.cell hl).trans h.1, (hb.cell hl).trans h.2.1, (hb.cell hl).trans h.2.2.1, (hb.cell hl).trans h.2.2.2.1, (hb.cell hl).trans h.2.2.2.2⟩
/-- A list of steps in memory. -/
def StepsAt (w : World) (v : Value) (ss : List Ts) : Prop := ∃ ao cap, v = .slice ao ss.length cap ∧ ss.length ≤ maxLen ∧ (0 < ss.length → ∃ b off, ao = some ⟨b, off, none⟩ ∧ b < w.heap.size ∧ ∀ i (hi : i < ss.length), ∃ ea ec, At5 w b (off + i * 5) ss[i] ea ec ∧ TsFit w ss[i] ea ec)
theorem StepsAt.below {w w' : World} {v : Value} {ss : List Ts} (h : StepsAt w v ss) (hb : Below w.heap.size w w') : StepsAt w' v ss := by
  obtain ⟨ao, cap, h1, h2, h3⟩ := h
  refine ⟨ao, cap, h1, h2, fun h0 => ?_⟩
  obtain ⟨b, off, e, hl, hh⟩ := h3 h0
  refine ⟨b, off, e, Nat.lt_of_lt_of_le hl hb.size, fun i hi => ?_⟩
  obtain ⟨ea, ec, a1, a2⟩ := hh i hi
  exact ⟨ea, ec, a1.below hl hb, a2.below hb⟩
theorem steps_each {w : World} {b off len cap : Nat} (each : ∀ i, i < len → ∃ (s : Ts) (ea : Option Addr) (ec : Nat), b < w.heap.size ∧ At5 w b (off + i * 5) s ea ec ∧ TsFit w s ea ec) (h0 : 0 < len) (hm : len ≤ maxLen) : ∃ ss, StepsAt w (.slice (some ⟨b, off, none⟩) len cap) ss := by
  have build : ∀ n, n ≤ len → ∃ ss : List Ts, ss.length = n ∧ ∀ i (hi : i < ss.length), ∃ ea ec, b < w.heap.size ∧ At5 w b (off + i * 5) ss[i] ea ec ∧ TsFit w ss[i] ea ec := by
    intro n
    induction n with
    | zero => intro _; exact ⟨[], rfl, fun i hi => by simp at hi⟩
    | succ n ih =>
      intro hn
      obtain ⟨ss, h1, h2⟩ := ih (by omega)
      obtain ⟨s, ea, ec, h3⟩ := each n (by omega)
      refine ⟨ss ++ [s], by simp [h1], fun i hi => ?_⟩
      by_cases hin : i < ss.length
      · obtain ⟨ea', ec', h4⟩ := h2 i hin
        exact ⟨ea', ec', by rw [List.getElem_append_left hin]; exact h4⟩
      · have hie : i = n := by simp at hi; omega
        subst hie
        refine ⟨ea, ec, ?_⟩
        rw [List.getElem_append_right (by omega)]
        simpa using h3
  obtain ⟨ss, hss, hall⟩ := build len (Nat.le_refl _)
  refine ⟨ss, some ⟨b, off, none⟩, cap, by rw [hss], by omega, fun h0 => ?_⟩
  obtain ⟨ea, ec, e2, _⟩ := hall 0 h0
  refine ⟨b, off, rfl, e2, fun i hi => ?_⟩
  obtain ⟨ea, ec, _, h4⟩ := hall i hi
  exact ⟨ea, ec, h4⟩
end Go.Proofs.Ythjcmagionaepaa
