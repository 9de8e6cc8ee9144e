/- A list of operations that came in, opened. -/
import Derived.Test.YtbebgobboccjcaaGreatDoorH2
import Derived.OpenShut
namespace Go.Proofs.YtbebgobboccjcaaGreatDoor
open Go.ChangeShapes Go.WideShapes Go.ChangeAt Go.RowKit Kit
set_option linter.unusedVariables false

theorem cells7 : Tryz.prog.cellsOf 35 = 7 := by kernel_rfl
theorem cellsIo : Tryz.prog.cellsOf 3 = 1 := by kernel_rfl
theorem cellsSo : Tryz.prog.cellsOf 9 = 1 := by kernel_rfl
theorem cellsBo : Tryz.prog.cellsOf 33 = 1 := by kernel_rfl
theorem seven {α : Type} {l : List α} (h : l.length = 7) : ∃ a b c d e f g, l = [a, b, c, d, e, f, g] := by
 match l, h with
 | [a, b, c, d, e, f, g], _ => exact ⟨a, b, c, d, e, f, g, rfl⟩
theorem struct7 {H : Type} {enc : TypeId × Value → H} {P : Program} {w : World} {base : Nat} {spare : Nat → Bool} {held : Bool} {t : TypeId} {f0 f1 f2 f3 f4 f5 f6 : Field} {fuel : Nat} {cs : List Value} {x : DataW H × List MemPlace} (ht : P.underlying t = some (.struct #[f0, f1, f2, f3, f4, f5, f6])) (h : DataW.trod enc P w base spare held fuel t cs = some x) :
 ∃ (n : Nat) (y0 y1 y2 y3 y4 y5 y6 : DataW H × List MemPlace), fuel = n + 1 ∧ cs.length = P.cellsOf t ∧ DataW.trod enc P w base spare held n f0.type ((cs.drop f0.offset).take (P.cellsOf f0.type)) = some y0 ∧ DataW.trod enc P w base spare held n f1.type ((cs.drop f1.offset).take (P.cellsOf f1.type)) = some y1 ∧ DataW.trod enc P w base spare held n f2.type ((cs.drop f2.offset).take (P.cellsOf f2.type)) = some y2 ∧ DataW.trod enc P w base spare held n f3.type ((cs.drop f3.offset).take (P.cellsOf f3.type)) = some y3 ∧ DataW.trod enc P w base spare held n f4.type ((cs.drop f4.offset).take (P.cellsOf f4.type)) = some y4 ∧ DataW.trod enc P w base spare held n f5.type ((cs.drop f5.offset).take (P.cellsOf f5.type)) = some y5 ∧ DataW.trod enc P w base spare held n f6.type ((cs.drop f6.offset).take (P.cellsOf f6.type)) = some y6 := by
 obtain ⟨xs, n, hn, _, hcl, hxl, hfld⟩ := DataW.trod_struct ht h
 obtain ⟨x0, x1, x2, x3, x4, x5, x6, rfl⟩ := seven (l := xs) (by rw [hxl]; rfl)
 exact ⟨n, x0, x1, x2, x3, x4, x5, x6, hn, hcl, hfld 0 f0 rfl, hfld 1 f1 rfl, hfld 2 f2 rfl, hfld 3 f3 rfl, hfld 4 f4 rfl, hfld 5 f5 rfl, hfld 6 f6 rfl⟩
def OpFit (w : World) (o : OpB) (da : Option Addr) (dc : Nat) : Prop := Sees w (.slice da o.data.length dc) (intsV .u8 o.data) ∧ bytesIn o.data ∧ o.path.size ≤ maxLen ∧ o.to.size ≤ maxLen
theorem OpFit.below {w w' : World} {o : OpB} {da : Option Addr} {dc : Nat} (h : OpFit w o da dc) (hb : Below w.heap.size w w') : OpFit w' o da dc := ⟨h.1.below hb, h.2⟩
theorem vw_seesO {w : World} {v : Value} {k : IntKind} {zs : List Int} (h : Vw w.heap.size w k v zs) : Sees w v (intsV k zs) := by
 rcases h with ⟨rfl, ao, cap, rfl, h1, h2⟩ | ⟨h0, b, off, cap, rfl, h1, h2, h3, h4⟩
 · exact ⟨ao, cap, rfl, by simp [intsV], h2, h1, fun h => by simp [intsV] at h⟩
 · refine ⟨some ⟨b, off, none⟩, cap, by rw [intsV_len], by rw [intsV_len]; exact h1, h2, by simp, fun _ => ⟨b, off, rfl, h3, fun i x hx => ?_⟩⟩
   have hi : i < zs.length := by have := (List.getElem?_eq_some_iff.1 hx).1; rw [intsV_len] at this; exact this
   rw [intsV_at k zs i hi] at hx
   rw [h4 i hi]
   exact hx
theorem bytes_of {H : Type} {enc : TypeId × Value → H} {held : Bool} {w : World} {fuel : Nat} {v : Value} {x : DataW H × List MemPlace} (h : DataW.trod enc Tryz.prog w 0 (fun _ => true) held fuel 33 [v] = some x) : ∃ (zs : List Int) (a : Option Addr) (c : Nat), v = .slice a zs.length c ∧ Sees w (.slice a zs.length c) (intsV .u8 zs) ∧ bytesIn zs := by
 have key : ∃ a len cap zs, v = .slice a len cap ∧ IsRow .u8 w a len cap zs := by
  rcases open_ints Tryz.underlying33 Tryz.underlying5 (by kernel_rfl) h with ⟨hcs, _⟩ | ⟨a, l, c, zs, hcs, _, hl, hm, hz, _, hcell, hwz⟩
  · simp at hcs
    exact ⟨none, 0, 0, [], hcs, .inl ⟨rfl, rfl, rfl, rfl⟩⟩
  · simp at hcs
    exact ⟨some a, l, c, zs, hcs, .inr ⟨_, rfl, hl, hm, by simpa using hz, hcell, hwz⟩⟩
 obtain ⟨a, len, cap, zs, rfl, hr⟩ := key
 have hl := (isRow_len hr).1
 refine ⟨zs.take len, a, cap, by rw [hl], ?_, isRow_bytes hr⟩
 rw [hl]
 exact vw_seesO (isRow_view hr)
theorem op_of {H : Type} {enc : TypeId × Value → H} {held : Bool} {w : World} (fuel : Nat) (cs : List Value) (x : DataW H × List MemPlace) (h : DataW.trod enc Tryz.prog w 0 (fun _ => true) held fuel 35 cs = some x) :
 ∃ (o : OpB) (da : Option Addr) (dc : Nat), cs = [.int .i64 o.kind, .string o.path, .string o.to, .int .i64 o.off, .int .i64 o.n, .slice da o.data.length dc, .int .i64 o.snap] ∧ OpFit w o da dc := by
 obtain ⟨n, x0, x1, x2, x3, x4, x5, x6, hn, hcl, f0, f1, f2, f3, f4, f5, f6⟩ := struct7 Tryz.underlying35 h
 rw [cells7] at hcl
 obtain ⟨v0, v1, v2, v3, v4, v5, v6, rfl⟩ := seven hcl
 simp only [cellsIo, cellsSo, cellsBo, List.drop_zero, List.drop_succ_cons, List.take_succ_cons, List.take_zero] at f0 f1 f2 f3 f4 f5 f6
 obtain ⟨kd, e0, _, _⟩ := DataW.trod_int Tryz.underlying3 f0
 obtain ⟨pa, e1, _, s1⟩ := DataW.trod_string Tryz.underlying9 f1
 obtain ⟨to, e2, _, s2⟩ := DataW.trod_string Tryz.underlying9 f2
 obtain ⟨of, e3, _, _⟩ := DataW.trod_int Tryz.underlying3 f3
 obtain ⟨nn, e4, _, _⟩ := DataW.trod_int Tryz.underlying3 f4
 obtain ⟨zs, da, dc, e5, hs, hb⟩ := bytes_of f5
 obtain ⟨sn, e6, _, _⟩ := DataW.trod_int Tryz.underlying3 f6
 simp only [List.cons.injEq, and_true] at e0 e1 e2 e3 e4 e6
 subst e0 e1 e2 e3 e4 e5 e6
 exact ⟨⟨kd, pa, to, of, nn, zs, sn⟩, da, dc, rfl, hs, hb, s1, s2⟩
theorem agg_of_cells7 {v a b c d e f g : Value} (h : v.cells.toList = [a, b, c, d, e, f, g]) : v = .agg #[a, b, c, d, e, f, g] := by
 cases v with
 | agg cs =>
   have h2 : cs.toList = [a, b, c, d, e, f, g] := h
   rw [show cs = cs.toList.toArray from (Array.toArray_toList).symm, h2]
 | _ => simp [Value.cells] at h
theorem op_arg {H : Type} {enc : TypeId × Value → H} {held : Bool} {w : World} {v : Value} {fuel : Nat} {x : DataW H × List MemPlace} (h : DataW.trod enc Tryz.prog w 0 (fun _ => true) held fuel 35 v.cells.toList = some x) :
 ∃ (o : OpB) (da : Option Addr) (dc : Nat), v = .agg #[.int .i64 o.kind, .string o.path, .string o.to, .int .i64 o.off, .int .i64 o.n, .slice da o.data.length dc, .int .i64 o.snap] ∧ OpFit w o da dc := by
 obtain ⟨o, da, dc, hcs, hf⟩ := op_of fuel _ x h
 exact ⟨o, da, dc, agg_of_cells7 hcs, hf⟩
def At7 (w : World) (b o : Nat) (p : OpB) (da : Option Addr) (dc : Nat) : Prop := w.cell? ⟨b, o, none⟩ = some (.int .i64 p.kind) ∧ w.cell? ⟨b, o + 1, none⟩ = some (.string p.path) ∧ w.cell? ⟨b, o + 2, none⟩ = some (.string p.to) ∧ w.cell? ⟨b, o + 3, none⟩ = some (.int .i64 p.off) ∧ w.cell? ⟨b, o + 4, none⟩ = some (.int .i64 p.n) ∧ w.cell? ⟨b, o + 5, none⟩ = some (.slice da p.data.length dc) ∧ w.cell? ⟨b, o + 6, none⟩ = some (.int .i64 p.snap)
theorem At7.below {w w' : World} {b o : Nat} {p : OpB} {da : Option Addr} {dc : Nat} (h : At7 w b o p da dc) (hl : b < w.heap.size) (hb : Below w.heap.size w w') : At7 w' b o p da dc :=
 ⟨(hb.cell hl).trans h.1, (hb.cell hl).trans h.2.1, (hb.cell hl).trans h.2.2.1, (hb.cell hl).trans h.2.2.2.1, (hb.cell hl).trans h.2.2.2.2.1, (hb.cell hl).trans h.2.2.2.2.2.1, (hb.cell hl).trans h.2.2.2.2.2.2⟩
def OpsAt (w : World) (v : Value) (os : List OpB) : Prop := ∃ ao cap, v = .slice ao os.length cap ∧ os.length ≤ maxLen ∧ (0 < os.length → ∃ b off, ao = some ⟨b, off, none⟩ ∧ b < w.heap.size ∧ ∀ i (hi : i < os.length), ∃ da dc, At7 w b (off + i * 7) os[i] da dc ∧ OpFit w os[i] da dc)
theorem OpsAt.below {w w' : World} {v : Value} {os : List OpB} (h : OpsAt w v os) (hb : Below w.heap.size w w') : OpsAt w' v os := by
 obtain ⟨ao, cap, h1, h2, h3⟩ := h
 refine ⟨ao, cap, h1, h2, fun h0 => ?_⟩
 obtain ⟨b, off, e, hl, hh⟩ := h3 h0
 refine ⟨b, off, e, Nat.lt_of_lt_of_le hl hb.size, fun i hi => ?_⟩
 obtain ⟨da, dc, a1, a2⟩ := hh i hi
 exact ⟨da, dc, a1.below hl hb, a2.below hb⟩
end Go.Proofs.YtbebgobboccjcaaGreatDoor
