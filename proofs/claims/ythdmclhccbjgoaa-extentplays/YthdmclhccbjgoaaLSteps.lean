/- A list of steps that came in, opened. -/
import Derived.Test.YthdmclhccbjgoaaRClear
import Derived.OpenShut
import Derived.ProofKit
namespace Go.Proofs.Ythdmclhccbjgoaa
open Go.ChangeShapes Go.WideShapes Go.ChangeAt Go.RowKit Kit
set_option linter.unusedVariables false

/-- A step. -/
structure St9 where
  kind : Int
  pc : Pc
  a : Int
  b : Int
/-- How a step lies in memory. -/
def stE : Enc St9 where
  k := 7
  c s := [.int .i64 s.kind, .int .i64 s.pc.off, .int .i64 s.pc.len, .int .i64 s.pc.page, .int .i64 s.pc.pos, .int .i64 s.a, .int .i64 s.b]
  len _ := rfl
  pos := by decide
  one p u hu := by
    simp at hu
    rcases hu with rfl | rfl | rfl | rfl | rfl | rfl | rfl <;> rfl
theorem cells9s : Try.prog.cellsOf 34 = 7 := by kernel_rfl
theorem cells9p : Try.prog.cellsOf 32 = 4 := by kernel_rfl
theorem cells9i : Try.prog.cellsOf 3 = 1 := by kernel_rfl
theorem four9 {α : Type} {l : List α} (h : l.length = 4) : ∃ a b c d, l = [a, b, c, d] := by
  match l, h with
  | [a, b, c, d], _ => exact ⟨a, b, c, d, rfl⟩
theorem seven9 {α : Type} {l : List α} (h : l.length = 7) : ∃ a b c d e f g, l = [a, b, c, d, e, f, g] := by
  match l, h with
  | [a, b, c, d, e, f, g], _ => exact ⟨a, b, c, d, e, f, g, rfl⟩
theorem struct4 {H : Type} {enc : TypeId × Value → H} {P : Program} {w : World} {base : Nat} {spare : Nat → Bool} {held : Bool} {t : TypeId} {f0 f1 f2 f3 : Field} {fuel : Nat} {cs : List Value} {x : DataW H × List MemPlace} (ht : P.underlying t = some (.struct #[f0, f1, f2, f3])) (h : DataW.trod enc P w base spare held fuel t cs = some x) :
    ∃ (n : Nat) (y0 y1 y2 y3 : DataW H × List MemPlace), fuel = n + 1 ∧ cs.length = P.cellsOf t ∧ DataW.trod enc P w base spare held n f0.type ((cs.drop f0.offset).take (P.cellsOf f0.type)) = some y0 ∧ DataW.trod enc P w base spare held n f1.type ((cs.drop f1.offset).take (P.cellsOf f1.type)) = some y1 ∧
      DataW.trod enc P w base spare held n f2.type ((cs.drop f2.offset).take (P.cellsOf f2.type)) = some y2 ∧ DataW.trod enc P w base spare held n f3.type ((cs.drop f3.offset).take (P.cellsOf f3.type)) = some y3 := by
  obtain ⟨xs, n, hn, _, hcl, hxl, hfld⟩ := DataW.trod_struct ht h
  obtain ⟨x0, x1, x2, x3, rfl⟩ := four9 (l := xs) (by rw [hxl]; rfl)
  exact ⟨n, x0, x1, x2, x3, hn, hcl, hfld 0 f0 rfl, hfld 1 f1 rfl, hfld 2 f2 rfl, hfld 3 f3 rfl⟩
theorem pc_of {H : Type} {enc : TypeId × Value → H} {held : Bool} {w : World} (fuel : Nat) (cs : List Value) (x : DataW H × List MemPlace) (h : DataW.trod enc Try.prog w 0 (fun _ => true) held fuel 32 cs = some x) :
    ∃ p : Pc, cs = [.int .i64 p.off, .int .i64 p.len, .int .i64 p.page, .int .i64 p.pos] := by
  obtain ⟨n, x0, x1, x2, x3, hn, hcl, f0, f1, f2, f3⟩ := struct4 Try.underlying32 h
  rw [cells9p] at hcl
  obtain ⟨v0, v1, v2, v3, rfl⟩ := four9 hcl
  simp only [cells9i, List.drop_zero, List.drop_succ_cons, List.take_succ_cons, List.take_zero] at f0 f1 f2 f3
  obtain ⟨a0, e0, _, _⟩ := DataW.trod_int Try.underlying3 f0
  obtain ⟨a1, e1, _, _⟩ := DataW.trod_int Try.underlying3 f1
  obtain ⟨a2, e2, _, _⟩ := DataW.trod_int Try.underlying3 f2
  obtain ⟨a3, e3, _, _⟩ := DataW.trod_int Try.underlying3 f3
  simp only [List.cons.injEq, and_true] at e0 e1 e2 e3
  subst e0 e1 e2 e3
  exact ⟨⟨a0, a1, a2, a3⟩, rfl⟩
theorem st_of {H : Type} {enc : TypeId × Value → H} {held : Bool} {w : World} (fuel : Nat) (cs : List Value) (x : DataW H × List MemPlace) (h : DataW.trod enc Try.prog w 0 (fun _ => true) held fuel 34 cs = some x) :
    ∃ s : St9, cs = stE.c s := by
  obtain ⟨n, x0, x1, x2, x3, hn, hcl, f0, f1, f2, f3⟩ := struct4 Try.underlying34 h
  rw [cells9s] at hcl
  obtain ⟨v0, v1, v2, v3, v4, v5, v6, rfl⟩ := seven9 hcl
  simp only [cells9i, cells9p, List.drop_zero, List.drop_succ_cons, List.take_succ_cons, List.take_zero] at f0 f1 f2 f3
  obtain ⟨a0, e0, _, _⟩ := DataW.trod_int Try.underlying3 f0
  obtain ⟨p, e1⟩ := pc_of n _ _ f1
  obtain ⟨a2, e2, _, _⟩ := DataW.trod_int Try.underlying3 f2
  obtain ⟨a3, e3, _, _⟩ := DataW.trod_int Try.underlying3 f3
  simp only [List.cons.injEq, and_true] at e0 e1 e2 e3
  obtain ⟨e4, e5, e6, e7⟩ := e1
  subst e0 e2 e3 e4 e5 e6 e7
  exact ⟨⟨a0, p, a2, a3⟩, rfl⟩
theorem seesE_each {α : Type} (E : Enc α) {w : World} {b off len cap : Nat} (each : ∀ i, i < len → ∃ x : α, ∀ r u, (E.c x)[r]? = some u → w.cell? ⟨b, off + i * E.k + r, none⟩ = some u) (h0 : 0 < len) (hb : b < w.heap.size) (hl : len ≤ cap) (hm : cap ≤ maxLen) :
    ∃ xs, SeesE E w (.slice (some ⟨b, off, none⟩) len cap) xs := by
  have build : ∀ n, n ≤ len → ∃ xs : List α, xs.length = n ∧ ∀ i (hi : i < xs.length), ∀ r u, (E.c xs[i])[r]? = some u → w.cell? ⟨b, off + i * E.k + r, none⟩ = some u := by
    intro n
    induction n with
    | zero => intro _; exact ⟨[], rfl, fun i hi => by simp at hi⟩
    | succ n ih =>
      intro hn
      obtain ⟨xs, h1, h2⟩ := ih (by omega)
      obtain ⟨x, h3⟩ := each n (by omega)
      refine ⟨xs ++ [x], by simp [h1], fun i hi => ?_⟩
      by_cases hin : i < xs.length
      · rw [List.getElem_append_left hin]; exact h2 i hin
      · have hie : i = n := by simp at hi; omega
        subst hie
        rw [List.getElem_append_right (by omega)]
        simpa using h3
  obtain ⟨xs, hxs, hall⟩ := build len (Nat.le_refl _)
  refine ⟨xs, some ⟨b, off, none⟩, cap, by rw [hxs], by omega, hm, by simp, fun _ => ⟨b, off, rfl, hb, fun j u hj => ?_⟩⟩
  have hjl : j < xs.length * E.k := by have := (List.getElem?_eq_some_iff.1 hj).1; rw [E.flat_len] at this; exact this
  have hk := E.pos
  have hi : j / E.k < xs.length := Nat.div_lt_of_lt_mul (by rw [Nat.mul_comm]; exact hjl)
  have hr : j % E.k < E.k := Nat.mod_lt _ hk
  have he : j / E.k * E.k + j % E.k = j := by rw [Nat.mul_comm]; exact Nat.div_add_mod j E.k
  have h4 := E.flat_at xs (j / E.k) hi (j % E.k) hr
  rw [he, hj] at h4
  have h5 := hall (j / E.k) hi (j % E.k) u h4.symm
  rw [Nat.add_assoc, he] at h5
  exact h5
theorem steps_of {H : Type} {enc : TypeId × Value → H} {held : Bool} {w : World} {fuel : Nat} {v : Value} {x : DataW H × List MemPlace} (h : DataW.trod enc Try.prog w 0 (fun _ => true) held fuel 22 [v] = some x) : ∃ ss : List St9, SeesE stE w v ss := by
  rcases DataW.trod_slice Try.underlying22 h with ⟨e4, _⟩ | ⟨a, len, cap, elems, rest, m, hm, e4, _, _, hl, hc, hel, hE, _, _⟩
  · simp only [List.cons.injEq, and_true] at e4
    subst e4
    exact ⟨[], seesE_nil stE w⟩
  · simp only [List.cons.injEq, and_true] at e4
    subst e4
    obtain ⟨b, off, spot⟩ := a
    rw [cells9s] at hE
    have key : ∀ i, i < len → ∃ s : St9, ∀ r u, (stE.c s)[r]? = some u → w.cell? (((⟨b, off, spot⟩ : Addr).add (i * 7)).add r) = some u := by
      intro i hi
      have h1 := hE i hi
      rw [List.getElem?_eq_getElem (by omega)] at h1
      obtain ⟨cs', g1, g2⟩ := Option.bind_eq_some_iff.1 h1
      obtain ⟨s, hz1⟩ := st_of m cs' _ g2
      obtain ⟨_, _, hcell⟩ := World.cells?_some g1
      subst hz1
      refine ⟨s, fun r u hr => ?_⟩
      have hr7 : r < 7 := (List.getElem?_eq_some_iff.1 hr).1
      have := hcell r hr7
      rw [hr] at this
      exact this
    by_cases h0 : 0 < len
    · have hs : spot = none := by
        obtain ⟨s, hz⟩ := key 0 h0
        have c0 := hz 0 _ rfl
        simpa [Addr.add] using World.cell?_spot c0
      subst hs
      have hb : b < w.heap.size := by
        obtain ⟨s, hz⟩ := key 0 h0
        have c0 := hz 0 _ rfl
        rw [Addr.add_lit, Addr.add_lit] at c0
        exact cell_lt9 c0
      exact seesE_each stE (fun i hi => by
        obtain ⟨s, hz⟩ := key i hi
        refine ⟨s, fun r u hr => ?_⟩
        have := hz r u hr
        rw [Addr.add_lit, Addr.add_lit] at this
        exact this) h0 hb hl hc
    · have : len = 0 := by omega
      subst this
      exact ⟨[], _, cap, rfl, by simp, hc, by simp, fun h => by simp at h⟩
end Go.Proofs.Ythdmclhccbjgoaa
