/- All. -/
import Derived.Test.YtbebgobboccjcaaGreatDoorPDPlain
import Derived.Test.YtbebgobboccjcaaGreatDoorPDKeys
import Derived.Test.YtbebgobboccjcaaGreatDoorH2
import Derived.Test.YtbebgobboccjcaaGreatDoorH1
namespace Go.Proofs.YtbebgobboccjcaaGreatDoor
open Go.RowKit Kit
set_option linter.unusedVariables false

theorem infoNd : (Tryz.prog.info? 60).map (fun i => (i.zero, i.size, i.bytes)) = some (some (.agg #[.int .i64 0, .int .i64 0, .slice none 0 0, .slice none 0 0, .slice none 0 0]), 5, 88) := by kernel_rfl
theorem data_len5 {n : NodeB} (h : NodeOK n) : n.data.length ≤ 10000 := by
 rcases h.2.2 with h | h
 · rw [h.2.1]; simp
 · have := h.2.2.2.1; omega
theorem names_len5 {t : TreeB} (h : Good t) {k : Nat} (hk : k < t.nodes.length) : (nodeAt t k).names.length ≤ 10000 := by
 have := (names_small h.1 (nodeAt_mem hk)).1
 omega
def TBoxN (w : World) (B : Nat) (v0 v1 : Value) : Prop := w.heap[B]? = some (.cells #[v0, v1] 29)
theorem TBoxN.c {w : World} {B : Nat} {v0 v1 : Value} (h : TBoxN w B v0 v1) : w.cell? ⟨B, 0, none⟩ = some v0 ∧ w.cell? ⟨B, 1, none⟩ = some v1 ∧ (∀ j, w.frozen? ⟨B, j, none⟩ = false) ∧ B < w.heap.size := by
 have hl := (Array.getElem?_eq_some_iff.1 h).1
 unfold TBoxN at h
 refine ⟨?_, ?_, ?_, hl⟩ <;> simp [World.cell?, World.frozen?, h]
theorem TBoxN.below {w w' : World} {B b : Nat} {v0 v1 : Value} (h : TBoxN w B v0 v1) (hb : Below b w w') (hB : B < b) : TBoxN w' B v0 v1 := (hb.block B hB).trans h
theorem row_belowN {w w' : World} {base n sz : Nat} {e : TypeId} {v : Value} {xs : List Value} (h : w.ownsRow base e sz v n xs) (hb : Below w.heap.size w w') : w'.ownsRow base e sz v n xs := by
 obtain ⟨h1, h2⟩ := h
 refine ⟨h1, ?_⟩
 rcases h2 with h2 | ⟨g, cap, cur, hv, hg, hh, r⟩
 · exact .inl h2
 · exact .inr ⟨g, cap, cur, hv, hg, (hb.block g (Array.getElem?_eq_some_iff.1 hh).1).trans hh, r⟩
theorem row_formN {w : World} {base n sz : Nat} {e : TypeId} {v : Value} {xs : List Value} (h : w.ownsRow base e sz v n xs) : ∃ a c, v = .slice a n c := by
 rcases h.2 with ⟨h2, h3⟩ | ⟨g, cap, cur, hv, _⟩
 · exact ⟨none, 0, by rw [h3]; exact h2⟩
 · exact ⟨_, _, hv⟩
def FRow (w : World) (base : Nat) (f : FN) : Prop := RowV w base 5 f.d (intsV .u8 f.n.data) ∧ RowV w base 9 f.m (strs f.n.names) ∧ RowV w base 3 f.i (intsV .i64 f.n.inos)
theorem FRow.is {w : World} {base : Nat} {f : FN} (h : FRow w base f) : f.is w := ⟨h.1.sees, h.2.1.sees, h.2.2.sees⟩
theorem FRow.below {w w' : World} {base : Nat} {f : FN} (h : FRow w base f) (hb : Below w.heap.size w w') : FRow w' base f := ⟨h.1.below hb, h.2.1.below hb, h.2.2.below hb⟩
theorem FRow.mono {w : World} {base b2 : Nat} {f : FN} (h : FRow w base f) (hb : b2 ≤ base) : FRow w b2 f := ⟨h.1.mono hb, h.2.1.mono hb, h.2.2.mono hb⟩
theorem FRow.only {w w' : World} {base B : Nat} {f : FN} {cs : Array Value} (h : FRow w base f) (ho : Only B w w') (hB : w.heap[B]? = some (.cells cs 29)) : FRow w' base f := ⟨rowV_only h.1 ho hB (by decide), rowV_only h.2.1 ho hB (by decide), rowV_only h.2.2 ho hB (by decide)⟩
theorem rowV_kept {w w' : World} {base base2 sz n : Nat} {e t : TypeId} {v X : Value} {xs ys : List Value} (h : RowV w base e v xs) (hX : w.ownsRow base2 t sz X n ys) (hg : w.grownBy w' X.ownBlock) (hne : t ≠ e) : RowV w' base e v xs := by
 refine World.ownsRow.kept h hg ?_
 rcases h.2 with ⟨h2, _⟩ | ⟨g, cap, cur, hv, _, hh, _⟩
 · left; rw [h2]; rfl
 · rcases hX.2 with ⟨h2, _⟩ | ⟨g2, cap2, cur2, hv2, _, hh2, _⟩
   · right; rw [hv, h2]; simp [Value.ownBlock]
   · right
     rw [hv, hv2]
     intro e2
     simp [Value.ownBlock] at e2
     subst e2
     rw [hh] at hh2
     injection hh2 with h3
     injection h3 with h4 h5
     exact hne h5.symm
theorem FRow.kept {w w' : World} {base base2 n : Nat} {f : FN} {X : Value} {ys : List Value} (h : FRow w base f) (hX : w.ownsRow base2 60 5 X n ys) (hg : w.grownBy w' X.ownBlock) : FRow w' base f := ⟨rowV_kept h.1 hX hg (by decide), rowV_kept h.2.1 hX hg (by decide), rowV_kept h.2.2 hX hg (by decide)⟩
theorem seesN_row {w : World} {base : Nat} {v : Value} {fs : List FN} (h : w.ownsRow base 60 5 v fs.length (flat fs)) (hm : fs.length ≤ maxLen) : SeesN w v fs := by
 rcases h.2 with ⟨h2, h3⟩ | ⟨g, cap, cur, hv, hg, hh, hn, hcm, hs, ht⟩
 · exact ⟨none, 0, by rw [h3]; exact h2, by omega, by simp, fun _ => rfl, fun h0 => by omega⟩
 · refine ⟨some ⟨g, 0, none⟩, cap, hv, hn, hcm, by simp, fun _ => ⟨g, 0, rfl, (Array.getElem?_eq_some_iff.1 hh).1, fun j x hx => ?_⟩⟩
   have hj : j < (flat fs).length := (List.getElem?_eq_some_iff.1 hx).1
   rw [flat_len] at hj
   rw [Nat.zero_add]
   simp only [World.cell?, hh]
   rw [← ht, List.getElem?_take, if_pos hj, Array.getElem?_toList] at hx
   simpa using hx
def TreeF (w : World) (B : Nat) (v : Value) (t : TreeB) : Prop := ∃ X fs, v = .agg #[X, .int .i64 t.next] ∧ w.ownsRow B 60 5 X fs.length (flat fs) ∧ fs.map FN.n = t.nodes ∧ (∀ f ∈ fs, FRow w B f) ∧ fs.length ≤ maxLen
theorem TreeF.at {w : World} {B : Nat} {v : Value} {t : TreeB} (h : TreeF w B v t) : TreeAt w v t := by
 obtain ⟨X, fs, h1, h2, h3, h4, h5⟩ := h
 exact ⟨X, fs, h1, seesN_row h2 h5, h3, fun f hf => (h4 f hf).is⟩
theorem TreeF.below {w w' : World} {B : Nat} {v : Value} {t : TreeB} (h : TreeF w B v t) (hb : Below w.heap.size w w') : TreeF w' B v t := by
 obtain ⟨X, fs, h1, h2, h3, h4, h5⟩ := h
 exact ⟨X, fs, h1, row_belowN h2 hb, h3, fun f hf => (h4 f hf).below hb, h5⟩
theorem row_turnN {w w' : World} {p b base n sz : Nat} {e : TypeId} {v : Value} {xs : List Value} (h : w.ownsRow base e sz v n xs) (ht : Turn p b w w') (hp : p < base) (hb : b < base) : w'.ownsRow base e sz v n xs := by
 obtain ⟨h1, h2⟩ := h
 refine ⟨h1, ?_⟩
 rcases h2 with h2 | ⟨g, cap, cur, hv, hg, hh, r⟩
 · exact .inl h2
 · exact .inr ⟨g, cap, cur, hv, hg, (ht.block g (Array.getElem?_eq_some_iff.1 hh).1 (by omega) (by omega)).trans hh, r⟩
theorem TreeF.turn {w w' : World} {p b B : Nat} {v : Value} {t : TreeB} (h : TreeF w B v t) (ht : Turn p b w w') (hp : p < B) (hb : b < B) : TreeF w' B v t := by
 obtain ⟨X, fs, h1, h2, h3, h4, h5⟩ := h
 exact ⟨X, fs, h1, row_turnN h2 ht hp hb, h3, fun f hf => ⟨row_turnN (h4 f hf).1 ht hp hb, row_turnN (h4 f hf).2.1 ht hp hb, row_turnN (h4 f hf).2.2 ht hp hb⟩, h5⟩
theorem row_monoN {w : World} {base b2 n sz : Nat} {e : TypeId} {v : Value} {xs : List Value} (h : w.ownsRow base e sz v n xs) (hb : b2 ≤ base) : w.ownsRow b2 e sz v n xs := by
 obtain ⟨h1, h2⟩ := h
 refine ⟨h1, ?_⟩
 rcases h2 with h2 | ⟨g, cap, cur, hv, hg, r⟩
 · exact .inl h2
 · exact .inr ⟨g, cap, cur, hv, Nat.le_trans hb hg, r⟩
def AllAt (w w1 wr : World) (k : Nat) (X nx : Value) (fs : List FN) : Prop := TBoxN wr (w.heap.size + 1) X nx ∧ TBoxN wr w.heap.size (.slice none 0 0) (.int .i64 0) ∧ wr.ownsRow w1.heap.size 60 5 X k (flat fs) ∧ Below w.heap.size w wr ∧ w1.heap.size ≤ wr.heap.size ∧ (∀ j, w.heap.size + 2 ≤ j → j < w1.heap.size → wr.heap[j]? = w1.heap[j]?) ∧ ∀ f ∈ fs, FRow wr w1.heap.size f
theorem lit5 (w : World) (v0 v1 v2 v3 v4 : Value) : ∀ (j : Nat) u, [v0, v1, v2, v3, v4][j]? = some u → (w.alloc (.cells #[v0, v1, v2, v3, v4] 60)).cell? ((⟨w.heap.size, 0, none⟩ : Addr).add j) = some u := by
 intro j u hu
 have h := (MapKept.heap_alloc w (.cells #[v0, v1, v2, v3, v4] 60)).1
 rw [Addr.add_lit, Nat.zero_add]
 simp only [World.cell?, h]
 rw [← hu]
 simp
theorem one5 (i0 i1 : Int) (a1 : Option Addr) (m1 c1 : Nat) (a2 : Option Addr) (m2 c2 : Nat) (a3 : Option Addr) (m3 c3 : Nat) : ∀ u ∈ [Value.int .i64 i0, .int .i64 i1, .slice a1 m1 c1, .slice a2 m2 c2, .slice a3 m3 c3], u.oneCell' = true := by
 intro u hu
 simp at hu
 rcases hu with rfl | rfl | rfl | rfl | rfl <;> rfl
theorem flat_one (fs : List FN) (f : FN) : flat (fs ++ [f]) = flat fs ++ f.cells := by unfold flat; rw [List.flatMap_append]; simp
end Go.Proofs.YtbebgobboccjcaaGreatDoor
