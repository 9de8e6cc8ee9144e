/- A Mold that came in, opened. -/
import Derived.Test.YtlandjnhhcnbeaaDoorMold
namespace Go.Proofs.YtlandjnhhcnbeaaDoor
open Go.ChangeShapes Go.WideShapes Go.ChangeAt Go.RowKit
set_option linter.unusedVariables false

theorem cellsM : Tryd.prog.cellsOf 24 = 5 := by kernel_rfl
theorem cellsI : Tryd.prog.cellsOf 3 = 1 := by kernel_rfl
theorem cellsS : Tryd.prog.cellsOf 9 = 1 := by kernel_rfl
theorem cellsK : Tryd.prog.cellsOf 22 = 1 := by kernel_rfl
theorem five {α : Type} {l : List α} (h : l.length = 5) : ∃ a b c d e, l = [a, b, c, d, e] := by
  match l, h with
  | [a, b, c, d, e], _ => exact ⟨a, b, c, d, e, rfl⟩

theorem struct5 {H : Type} {enc : TypeId × Value → H} {P : Program} {w : World} {base : Nat} {spare : Nat → Bool} {held : Bool} {t : TypeId} {f0 f1 f2 f3 f4 : Field} {fuel : Nat} {cs : List Value} {x : DataW H × List MemPlace} (ht : P.underlying t = some (.struct #[f0, f1, f2, f3, f4])) (h : DataW.trod enc P w base spare held fuel t cs = some x) :
    ∃ (n : Nat) (y0 y1 y2 y3 y4 : DataW H × List MemPlace), fuel = n + 1 ∧ cs.length = P.cellsOf t ∧ DataW.trod enc P w base spare held n f0.type ((cs.drop f0.offset).take (P.cellsOf f0.type)) = some y0 ∧ DataW.trod enc P w base spare held n f1.type ((cs.drop f1.offset).take (P.cellsOf f1.type)) = some y1 ∧
      DataW.trod enc P w base spare held n f2.type ((cs.drop f2.offset).take (P.cellsOf f2.type)) = some y2 ∧ DataW.trod enc P w base spare held n f3.type ((cs.drop f3.offset).take (P.cellsOf f3.type)) = some y3 ∧ DataW.trod enc P w base spare held n f4.type ((cs.drop f4.offset).take (P.cellsOf f4.type)) = some y4 := by
  obtain ⟨xs, n, hn, _, hcl, hxl, hfld⟩ := DataW.trod_struct ht h
  obtain ⟨x0, x1, x2, x3, x4, rfl⟩ := five (l := xs) (by rw [hxl]; rfl)
  exact ⟨n, x0, x1, x2, x3, x4, hn, hcl, hfld 0 f0 rfl, hfld 1 f1 rfl, hfld 2 f2 rfl, hfld 3 f3 rfl, hfld 4 f4 rfl⟩
theorem mold_of {H : Type} {enc : TypeId × Value → H} {held : Bool} {w : World} : ∀ (k fuel : Nat) (cs : List Value) (x : DataW H × List MemPlace), fuel ≤ 2 * k → DataW.trod enc Tryd.prog w 0 (fun _ => true) held fuel 24 cs = some x →
    ∃ (l : Lab) (a : Option Addr) (len cap : Nat) (t : Tr k), cs = [.int .i64 l.kind, .int .i64 l.num, .string l.op, .string l.path, .slice a len cap] ∧ MoldAt w k (moldV l a len cap) t
  | 0, fuel, cs, x, hf, h => by
    have : fuel = 0 := by omega
    subst this
    simp [DataW.trod] at h
  | k + 1, fuel, cs, x, hf, h => by
    obtain ⟨n, x0, x1, x2, x3, x4, hn, hcl, f0, f1, f2, f3, f4⟩ := struct5 Tryd.underlying24 h
    rw [cellsM] at hcl
    obtain ⟨v0, v1, v2, v3, v4, rfl⟩ := five hcl
    simp only [cellsI, cellsS, cellsK, List.drop_zero, List.drop_succ_cons, List.take_succ_cons, List.take_zero] at f0 f1 f2 f3 f4
    obtain ⟨kd, e0, _, _⟩ := DataW.trod_int Tryd.underlying3 f0
    obtain ⟨nm, e1, _, _⟩ := DataW.trod_int Tryd.underlying3 f1
    obtain ⟨op, e2, _, s2⟩ := DataW.trod_string Tryd.underlying9 f2
    obtain ⟨pa, e3, _, s3⟩ := DataW.trod_string Tryd.underlying9 f3
    simp only [List.cons.injEq, and_true] at e0 e1 e2 e3
    subst e0 e1 e2 e3
    rcases DataW.trod_slice Tryd.underlying22 f4 with ⟨e4, _⟩ | ⟨a, len, cap, elems, rest, m, hm, e4, _, _, hl, hc, hel, hE, _, _⟩
    · simp only [List.cons.injEq, and_true] at e4
      subst e4
      exact ⟨⟨kd, nm, op, pa⟩, none, 0, 0, some (⟨kd, nm, op, pa⟩, Tr.zero k, Tr.zero k), rfl, none, 0, 0, rfl, s2, s3, Nat.le_refl _, by simp, fun _ => rfl, fun _ => rfl, fun h0 => absurd h0 (by omega)⟩
    · simp only [List.cons.injEq, and_true] at e4
      subst e4
      obtain ⟨b, off, spot⟩ := a
      rw [cellsM] at hE
      by_cases h0 : 0 < len
      · have hs : spot = none := by
          have h1 := hE 0 h0
          rw [List.getElem?_eq_getElem (by omega)] at h1
          obtain ⟨cs', g1, g2⟩ := Option.bind_eq_some_iff.1 h1
          obtain ⟨l, c, p, q, z, hz1, hz2⟩ := mold_of k m cs' _ (by omega) g2
          obtain ⟨_, _, hcell⟩ := World.cells?_some g1
          subst hz1
          have c0 := hcell 0 (by omega)
          simpa [Addr.add] using World.cell?_spot c0
        subst hs
        have each : ∀ i, i < len → ∃ (l : Lab) (c : Option Addr) (p q : Nat) (z : Tr k), At5 w b (off + i * 5) l c p q ∧ MoldAt w k (moldV l c p q) z := fun i hi => by
          have h1 := hE i hi
          rw [List.getElem?_eq_getElem (by omega)] at h1
          obtain ⟨cs', g1, g2⟩ := Option.bind_eq_some_iff.1 h1
          obtain ⟨l, c, p, q, z, hz1, hz2⟩ := mold_of k m cs' _ (by omega) g2
          obtain ⟨_, _, hcell⟩ := World.cells?_some g1
          subst hz1
          have c0 := hcell 0 (by omega)
          have c1 := hcell 1 (by omega)
          have c2 := hcell 2 (by omega)
          have c3 := hcell 3 (by omega)
          have c4 := hcell 4 (by omega)
          simp only [Addr.add_lit, Nat.add_zero, List.getElem?_cons_zero, List.getElem?_cons_succ] at c0 c1 c2 c3 c4
          exact ⟨l, c, p, q, z, ⟨c0, c1, c2, c3, c4⟩, hz2⟩
        obtain ⟨l0, c0, p0, q0, z0, a0, m0⟩ := each 0 h0
        by_cases h1 : 1 < len
        · obtain ⟨l1, c1, p1, q1, z1, a1, m1⟩ := each 1 h1
          refine ⟨⟨kd, nm, op, pa⟩, some ⟨b, off, none⟩, len, cap, some (⟨kd, nm, op, pa⟩, z0, z1), rfl, some ⟨b, off, none⟩, len, cap, rfl, s2, s3, hl, hc, fun h => absurd h (by omega), fun h => absurd h (by omega), fun _ => ⟨b, off, rfl, fun i hi => ?_⟩⟩
          by_cases i0 : i = 0
          · subst i0
            exact ⟨l0, c0, p0, q0, z0, a0, m0, fun _ => rfl, fun h => absurd h (by omega)⟩
          · by_cases i1 : i = 1
            · subst i1
              exact ⟨l1, c1, p1, q1, z1, a1, m1, fun h => absurd h (by omega), fun _ => rfl⟩
            · obtain ⟨l, c, p, q, z, g1, g2⟩ := each i hi
              exact ⟨l, c, p, q, z, g1, g2, fun h => absurd h i0, fun h => absurd h i1⟩
        · refine ⟨⟨kd, nm, op, pa⟩, some ⟨b, off, none⟩, len, cap, some (⟨kd, nm, op, pa⟩, z0, Tr.zero k), rfl, some ⟨b, off, none⟩, len, cap, rfl, s2, s3, hl, hc, fun h => absurd h (by omega), fun _ => rfl, fun _ => ⟨b, off, rfl, fun i hi => ?_⟩⟩
          have i0 : i = 0 := by omega
          subst i0
          exact ⟨l0, c0, p0, q0, z0, a0, m0, fun _ => rfl, fun h => absurd h (by omega)⟩
      · exact ⟨⟨kd, nm, op, pa⟩, some ⟨b, off, spot⟩, len, cap, some (⟨kd, nm, op, pa⟩, Tr.zero k, Tr.zero k), rfl, some ⟨b, off, spot⟩, len, cap, rfl, s2, s3, hl, hc, fun _ => rfl, fun _ => rfl, fun h => absurd h h0⟩
end Go.Proofs.YtlandjnhhcnbeaaDoor
