/- Rows of texts as rows of structs of one cell; append to one while a table is played. -/
import Derived.Test.YthjcmagionaepaaLOnlyT
namespace Go.Proofs.Ythjcmagionaepaa
open Go.RowKit Kit
set_option linter.unusedVariables false
variable {T : World → Nat → Nat → (Nat → Prop) → Tb → Prop}

def sE : Enc ByteArray where
  k := 1
  c x := [.string x]
  len _ := rfl
  pos := by decide
  one p u hu := by simp at hu; subst hu; rfl
theorem sE_flat (l : List ByteArray) : sE.flat l = strs l := by
  unfold Enc.flat strs sE
  induction l with
  | nil => rfl
  | cons a l ih => rw [List.flatMap_cons, ih]; rfl
theorem sE_row {w : World} {B : Nat} {e : TypeId} {v : Value} {l : List ByteArray} (h : RowE sE w B e v l) : RowV w B e v (strs l) := by
  unfold RowE at h
  rw [sE_flat] at h
  unfold RowV
  rw [strs_len]
  exact h
theorem sE_rowE {w : World} {B : Nat} {e : TypeId} {v : Value} {l : List ByteArray} (h : RowV w B e v (strs l)) : RowE sE w B e v l := by
  unfold RowV at h
  rw [strs_len] at h
  unfold RowE
  rw [sE_flat]
  exact h
theorem s_cells {w : World} {ao : Option Addr} {n cap : Nat} {l : List ByteArray} (h : SeesE sE w (.slice ao n cap) l) (h0 : 0 < l.length) : ∃ b off, ao = some ⟨b, off, none⟩ ∧ n = l.length ∧ b < w.heap.size ∧ ∀ (i : Nat) (hi : i < l.length), w.cell? ⟨b, off + i, none⟩ = some (.string l[i]) := by
  obtain ⟨b, off, e, hn, hb, hc⟩ := h.cells h0
  exact ⟨b, off, e, hn, hb, fun i hi => by have := hc i hi 0 _ rfl; simpa [sE] using this⟩
theorem infoSE : (Try.prog.info? 9).map (fun i => (i.zero, i.size, i.bytes)) = some (some (.string ⟨#[]⟩), sE.k, 16) := by kernel_rfl
theorem turnF_grown {w w' : World} {v v' : Value} (h : w.grownBy w' v.ownBlock) (hf : ∀ k, v'.ownBlock = some k → v.ownBlock = some k ∨ w.heap.size ≤ k) : TurnF (fun k => v.ownBlock = some k) (fun k => v'.ownBlock = some k) w w' :=
  ⟨h.os, h.tape, h.output, h.size, fun k hk hn => h.block k hk (fun e => hn e.symm), hf⟩
theorem one_app {α : Type} {E : Enc α} {ty : TypeId} (K : TabK T) {w wa w3 w4 : World} {p : Nat} {F F3 : Nat → Prop} {t3 : Tb} {v v' : Value} {l l' : List α} {o : Obj} (h1 : RowE E wa w.heap.size ty v l) (hap : ∀ k, v.ownBlock = some k → ¬ F k) (hT3 : OneT T w w3 p F3 t3) (ht : TurnF F F3 wa w3)
    (k1 : RowE E w4 w.heap.size ty v' l') (k2 : (w3.alloc o).grownBy w4 v.ownBlock) (k3 : ∀ k, v'.ownBlock = some k → v.ownBlock = some k ∨ (w3.alloc o).heap.size ≤ k) :
    OneT T w w4 p F3 t3 ∧ RowE E w4 w.heap.size ty v' l' ∧ ∀ k, v'.ownBlock = some k → ¬ F3 k := by
  have hb := bel_newG w3 o
  have h3 := hT3.below K hb
  have hap3 : ∀ k, F3 k → ¬ v.ownBlock = some k := fun k hk e => by
    obtain ⟨cur, hc⟩ := rowE_obj h1 e
    rcases ht.fresh k hk with h | h
    · exact hap k e h
    · have := blk_lt hc; omega
  refine ⟨⟨K.stay h3.tp (turnF_grown k2 k3) hap3, h3.be.grown k2 h3.be.size fun j hj => h1.block j hj⟩, k1, fun k hk hF => ?_⟩
  rcases k3 k hk with h | h
  · exact hap3 k hF h
  · have := (K.lo hT3.tp k hF).2
    have := hb.size
    omega
theorem row_turn {α : Type} {E : Enc α} {ty : TypeId} {wa w3 : World} {B : Nat} {F F3 : Nat → Prop} {v : Value} {l : List α} (h1 : RowE E wa B ty v l) (hap : ∀ k, v.ownBlock = some k → ¬ F k) (ht : TurnF F F3 wa w3) : RowE E w3 B ty v l :=
  rowE_stay h1 fun k hk => by
    obtain ⟨cur, hc⟩ := rowE_obj h1 hk
    exact ht.block k (blk_lt hc) (hap k hk)
end Go.Proofs.Ythjcmagionaepaa
