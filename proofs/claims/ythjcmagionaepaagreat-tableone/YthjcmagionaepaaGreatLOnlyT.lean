/- A table that is played alone. -/
import Derived.Test.YthjcmagionaepaaGreatL11Plays
import Derived.Test.YthjcmagionaepaaGreatMLawT
namespace Go.Proofs.YthjcmagionaepaaGreat
open Go.RowKit Kit
set_option linter.unusedVariables false
variable {T : World → Nat → Nat → (Nat → Prop) → Tb → Prop}

structure OneT (T : World → Nat → Nat → (Nat → Prop) → Tb → Prop) (w0 w : World) (p : Nat) (F : Nat → Prop) (t : Tb) : Prop where
  tp : T w p w0.heap.size F t
  be : Below w0.heap.size w0 w
theorem OneT.below (K : TabK T) {w0 w w' : World} {p : Nat} {F : Nat → Prop} {t : Tb} (h : OneT T w0 w p F t) (hb : Below w.heap.size w w') : OneT T w0 w' p F t := ⟨K.below h.tp hb, bel_tr h.be hb⟩
/-- A step, beside a zero table of the document's; what it turns. -/
theorem TabK.step1 (K : TabK T) {w0 w : World} {p : Nat} {F : Nat → Prop} {t : Tb} (h : OneT T w0 w p F t) (hi : Inv t) (hl : t.rs.length ≤ 900) (s : Ts) (ea : Option Addr) (ec : Nat) (hf : TsFit w0 s ea ec) (hsz : s.name.size ≤ 2000 ∧ s.es.length ≤ 2000) :
    Calls Tryz.prog 11 #[.pointer (some ⟨p, 0, none⟩), .pointer (some ⟨w.heap.size, 0, none⟩), .agg #[.int .i64 s.kind, .string s.name, .int .i64 s.ino, .int .i64 s.ep, .slice ea s.es.length ec]] (w.alloc (.cells #[.slice none 0 0, .int .i64 0] 30)) fun e w' => ∃ b, e = .returned (.bool b) ∧ ∃ F', Hid (OneT T w0 w' p F' (stepT t s) ∧ TurnF F F' w w') := by
  have hb := bel_newG w (.cells #[.slice none 0 0, .int .i64 0] 30)
  have h1 := h.below K hb
  refine (does_any K p w.heap.size w0.heap.size w.heap.size F (.slice none 0 0) t tb0 s ea ec _ h1.tp (rtab_box w) hi hl (by simp [tb0]) w0 h1.be (Nat.le_refl _) hf hsz).mono ?_
  rintro e w' ⟨b, rfl, _, F', sv', k1, k2, k3⟩
  have hF : ∀ k, bfootT F w.heap.size (.slice none 0 0) k → F k ∨ w.heap.size ≤ k := by
    rintro k (hk | hk | hk)
    · exact .inl hk
    · exact .inr (Nat.le_of_eq hk.symm)
    · simp [Value.ownBlock] at hk
  refine ⟨b, rfl, F', ⟨k1, k3.below h1.be h1.be.size fun k hk => ?_⟩, ?_⟩
  · rcases hF k hk with hk | hk
    · exact (K.lo h.tp k hk).1
    · exact Nat.le_trans h.be.size hk
  · refine ⟨k3.os.trans hb.os, k3.tape.trans hb.tape, k3.output.trans hb.output, Nat.le_trans hb.size k3.size, fun k hk hn => ?_, fun k hk => ?_⟩
    · rw [k3.block k (Nat.lt_of_lt_of_le hk hb.size) (fun e => (hF k e).elim hn (fun e => by omega)), hb.block k hk]
    · rcases k3.fresh k (.inl hk) with e | e
      · exact hF k e
      · exact .inr (Nat.le_trans hb.size e)
theorem less_not {a b : ByteArray} (h : ¬ less a b) : Op.bytesLess a.toList b.toList = false := by
  unfold less at h
  simpa using h
end Go.Proofs.YthjcmagionaepaaGreat
