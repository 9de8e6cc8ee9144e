/- A list of steps that came in, opened; a span by value. -/
import Derived.Test.YtbkciencikdacaaFBook
import Derived.OpenShut
import Derived.ProofKit
namespace Go.Proofs.Ytbkciencikdacaa
open Go.ChangeShapes Go.WideShapes Go.ChangeAt Go.RowKit Kit
set_option linter.unusedVariables false

/-- How a step lies in memory. -/
def stE : Enc St where
  k := 3
  c s := [.int .i64 s.kind, .int .i64 s.id, .int .i64 s.ep]
  len _ := rfl
  pos := by decide
  one p u hu := by
    simp at hu
    rcases hu with rfl | rfl | rfl <;> rfl
theorem st_cells {w : World} {ao : Option Addr} {n cap : Nat} {xs : List St} (h : SeesE stE w (.slice ao n cap) xs) (h0 : 0 < xs.length) : ∃ b off, ao = some ⟨b, off, none⟩ ∧ n = xs.length ∧ b < w.heap.size ∧ ∀ (i : Nat) (hi : i < xs.length), w.cell? ⟨b, off + i * 3, none⟩ = some (.int .i64 xs[i].kind) ∧ w.cell? ⟨b, off + i * 3 + 1, none⟩ = some (.int .i64 xs[i].id) ∧ w.cell? ⟨b, off + i * 3 + 2, none⟩ = some (.int .i64 xs[i].ep) := by
  obtain ⟨b, off, e, hn, hb, hc⟩ := h.cells h0
  exact ⟨b, off, e, hn, hb, fun i hi => ⟨hc i hi 0 _ rfl, hc i hi 1 _ rfl, hc i hi 2 _ rfl⟩⟩
theorem cellsSt : Try.prog.cellsOf 35 = 3 := by kernel_rfl
theorem cellsSp : Try.prog.cellsOf 25 = 2 := by kernel_rfl
theorem cellsI : Try.prog.cellsOf 3 = 1 := by kernel_rfl
theorem three9 {α : Type} {l : List α} (h : l.length = 3) : ∃ a b c, l = [a, b, c] := by
  match l, h with
  | [a, b, c], _ => exact ⟨a, b, c, rfl⟩
theorem two9 {α : Type} {l : List α} (h : l.length = 2) : ∃ a b, l = [a, b] := by
  match l, h with
  | [a, b], _ => exact ⟨a, b, rfl⟩
theorem struct3 {H : Type} {enc : TypeId × Value → H} {P : Program} {w : World} {base : Nat} {spare : Nat → Bool} {held : Bool} {t : TypeId} {f0 f1 f2 : Field} {fuel : Nat} {cs : List Value} {x : DataW H × List MemPlace} (ht : P.underlying t = some (.struct #[f0, f1, f2])) (h : DataW.trod enc P w base spare held fuel t cs = some x) :
    ∃ (n : Nat) (y0 y1 y2 : DataW H × List MemPlace), fuel = n + 1 ∧ cs.length = P.cellsOf t ∧ DataW.trod enc P w base spare held n f0.type ((cs.drop f0.offset).take (P.cellsOf f0.type)) = some y0 ∧ DataW.trod enc P w base spare held n f1.type ((cs.drop f1.offset).take (P.cellsOf f1.type)) = some y1 ∧
      DataW.trod enc P w base spare held n f2.type ((cs.drop f2.offset).take (P.cellsOf f2.type)) = some y2 := by
  obtain ⟨xs, n, hn, _, hcl, hxl, hfld⟩ := DataW.trod_struct ht h
  obtain ⟨x0, x1, x2, rfl⟩ := three9 (l := xs) (by rw [hxl]; rfl)
  exact ⟨n, x0, x1, x2, hn, hcl, hfld 0 f0 rfl, hfld 1 f1 rfl, hfld 2 f2 rfl⟩
theorem struct2 {H : Type} {enc : TypeId × Value → H} {P : Program} {w : World} {base : Nat} {spare : Nat → Bool} {held : Bool} {t : TypeId} {f0 f1 : Field} {fuel : Nat} {cs : List Value} {x : DataW H × List MemPlace} (ht : P.underlying t = some (.struct #[f0, f1])) (h : DataW.trod enc P w base spare held fuel t cs = some x) :
    ∃ (n : Nat) (y0 y1 : DataW H × List MemPlace), fuel = n + 1 ∧ cs.length = P.cellsOf t ∧ DataW.trod enc P w base spare held n f0.type ((cs.drop f0.offset).take (P.cellsOf f0.type)) = some y0 ∧ DataW.trod enc P w base spare held n f1.type ((cs.drop f1.offset).take (P.cellsOf f1.type)) = some y1 := by
  obtain ⟨xs, n, hn, _, hcl, hxl, hfld⟩ := DataW.trod_struct ht h
  obtain ⟨x0, x1, rfl⟩ := two9 (l := xs) (by rw [hxl]; rfl)
  exact ⟨n, x0, x1, hn, hcl, hfld 0 f0 rfl, hfld 1 f1 rfl⟩
theorem st_of {H : Type} {enc : TypeId × Value → H} {held : Bool} {w : World} (fuel : Nat) (cs : List Value) (x : DataW H × List MemPlace) (h : DataW.trod enc Try.prog w 0 (fun _ => true) held fuel 35 cs = some x) :
    ∃ s : St, cs = stE.c s := by
  obtain ⟨n, x0, x1, x2, hn, hcl, f0, f1, f2⟩ := struct3 Try.underlying35 h
  rw [cellsSt] at hcl
  obtain ⟨v0, v1, v2, rfl⟩ := three9 hcl
  simp only [cellsI, List.drop_zero, List.drop_succ_cons, List.take_succ_cons, List.take_zero] at f0 f1 f2
  obtain ⟨a0, e0, _, _⟩ := DataW.trod_int Try.underlying3 f0
  obtain ⟨a1, e1, _, _⟩ := DataW.trod_int Try.underlying3 f1
  obtain ⟨a2, e2, _, _⟩ := DataW.trod_int Try.underlying3 f2
  simp only [List.cons.injEq, and_true] at e0 e1 e2
  subst e0 e1 e2
  exact ⟨⟨a0, a1, a2⟩, rfl⟩
theorem seesE_each {α : Type} (E : Enc α) {w : World} {b off len cap : Nat} (each : ∀ i, i < len → ∃ x : α, ∀ r u, (E.c x)[r]? = some u → w.cell? ⟨b, off + i * E.k + r, none⟩ = some u) (h0 : 0 < len) (hb : b < w.heap.size) (hl : len ≤ cap) (hm : cap ≤ maxLen) :
    ∃ xs, SeesE E w (.slice (some ⟨b, off, none⟩) len cap) xs := by
  have build : ∀ n, n ≤ len → ∃ xs : List α, xs.length = n ∧ ∀ i (hi : i < xs.length), ∀ r u, (E.c xs[i])[r]? = some u → w.cell? ⟨b, off + i * E.k + r, none⟩ = some u := by
    intro n
    induction n with
    | zero => intro _; exact ⟨[], rfl, fun i hi => by simp at hi⟩
    | succ n ih =>
      intro hn
      obtain ⟨xs, h1, h2⟩ := ih (by omega)
      obtain ⟨x, h3⟩ := each n (by omega)
      refine ⟨xs ++ [x], by simp [h1], fun i hi => ?_⟩
      by_cases hin : i < xs.length
      · rw [List.getElem_append_left hin]; exact h2 i hin
      · have hie : i = n := by simp at hi; omega
        subst hie
        rw [List.getElem_append_right (by omega)]
        simpa using h3
  obtain ⟨xs, hxs, hall⟩ := build len (Nat.le_refl _)
  refine ⟨xs, some ⟨b, off, none⟩, cap, by rw [hxs], by omega, hm, by simp, fun _ => ⟨b, off, rfl, hb, fun j u hj => ?_⟩⟩
  have hjl : j < xs.length * E.k := by have := (List.getElem?_eq_some_iff.1 hj).1; rw [E.flat_len] at this; exact this
  have hk := E.pos
  have hi : j / E.k < xs.length := Nat.div_lt_of_lt_mul (by rw [Nat.mul_comm]; exact hjl)
  have hr : j % E.k < E.k := Nat.mod_lt _ hk
  have he : j / E.k * E.k + j % E.k = j := by rw [Nat.mul_comm]; exact Nat.div_add_mod j E.k
  have h4 := E.flat_at xs (j / E.k) hi (j % E.k) hr
  rw [he, hj] at h4
  have h5 := hall (j / E.k) hi (j % E.k) u h4.symm
  rw [Nat.add_assoc, he] at h5
  exact h5
theorem steps_of {H : Type} {enc : TypeId × Value → H} {held : Bool} {w : World} {fuel : Nat} {v : Value} {x : DataW H × List MemPlace} (h : DataW.trod enc Try.prog w 0 (fun _ => true) held fuel 22 [v] = some x) : ∃ ss : List St, SeesE stE w v ss := by
  rcases DataW.trod_slice Try.underlying22 h with ⟨e4, _⟩ | ⟨a, len, cap, elems, rest, m, hm, e4, _, _, hl, hc, hel, hE, _, _⟩
  · simp only [List.cons.injEq, and_true] at e4
    subst e4
    exact ⟨[], seesE_nil stE w⟩
  · simp only [List.cons.injEq, and_true] at e4
    subst e4
    obtain ⟨b, off, spot⟩ := a
    rw [cellsSt] at hE
    have key : ∀ i, i < len → ∃ s : St, ∀ r u, (stE.c s)[r]? = some u → w.cell? (((⟨b, off, spot⟩ : Addr).add (i * 3)).add r) = some u := by
      intro i hi
      have h1 := hE i hi
      rw [List.getElem?_eq_getElem (by omega)] at h1
      obtain ⟨cs', g1, g2⟩ := Option.bind_eq_some_iff.1 h1
      obtain ⟨s, hz1⟩ := st_of m cs' _ g2
      obtain ⟨_, _, hcell⟩ := World.cells?_some g1
      subst hz1
      refine ⟨s, fun r u hr => ?_⟩
      have hr7 : r < 3 := (List.getElem?_eq_some_iff.1 hr).1
      have := hcell r hr7
      rw [hr] at this
      exact this
    by_cases h0 : 0 < len
    · have hs : spot = none := by
        obtain ⟨s, hz⟩ := key 0 h0
        have c0 := hz 0 _ rfl
        simpa [Addr.add] using World.cell?_spot c0
      subst hs
      have hb : b < w.heap.size := by
        obtain ⟨s, hz⟩ := key 0 h0
        have c0 := hz 0 _ rfl
        rw [Addr.add_lit, Addr.add_lit] at c0
        exact cell_lt9 c0
      exact seesE_each stE (fun i hi => by
        obtain ⟨s, hz⟩ := key i hi
        refine ⟨s, fun r u hr => ?_⟩
        have := hz r u hr
        rw [Addr.add_lit, Addr.add_lit] at this
        exact this) h0 hb hl hc
    · have : len = 0 := by omega
      subst this
      exact ⟨[], _, cap, rfl, by simp, hc, by simp, fun h => by simp at h⟩
end Go.Proofs.Ytbkciencikdacaa
