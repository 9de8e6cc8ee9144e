/- The laws of stage 9: what they share. -/
import Derived.Test.YthdmclhccbjgoaaEDoes2
import Derived.Test.YthdmclhccbjgoaaEReads
import Derived.Test.YthdmclhccbjgoaaEFindT
import Derived.Test.YthdmclhccbjgoaaERangeM
import Derived.Test.YthdmclhccbjgoaaLAwake9
import Derived.Test.YthdmclhccbjgoaaLPieces
import Derived.Test.YthdmclhccbjgoaaLSteps
namespace Go.Proofs.Ythdmclhccbjgoaa
open Go.RowKit Kit
set_option linter.unusedVariables false

/-- What is left of a list of steps. -/
noncomputable def playB (ss : List St9) : List Pc := ss.foldl (fun ps s => stepB s ps) []
theorem fold_good : ∀ (ss : List St9) (ps : List Pc), Good9 ps → Good9 (ss.foldl (fun ps s => stepB s ps) ps) ∧ (ss.foldl (fun ps s => stepB s ps) ps).length ≤ ps.length + 2 * ss.length
  | [], ps, h => ⟨h, by simp⟩
  | s :: ss, ps, h => by
    have h1 := step_good (s := s) h
    have h2 := fold_good ss (stepB s ps) h1.1
    rw [List.foldl_cons, List.length_cons]
    exact ⟨h2.1, by omega⟩
theorem play_good (ss : List St9) : Good9 (playB ss) ∧ (playB ss).length ≤ 2 * ss.length := by
  have := fold_good ss [] good9_nil
  simp only [List.length_nil, Nat.zero_add] at this
  exact this
theorem play_snoc (ss : List St9) (i : Nat) (hi : i < ss.length) : playB (ss.take (i + 1)) = stepB ss[i] (playB (ss.take i)) := by
  unfold playB
  rw [List.take_succ_eq_append_getElem hi, List.foldl_append, List.foldl_cons, List.foldl_nil]
theorem play_nil : playB [] = [] := rfl
theorem play_new (w : World) : Both9 ((w.alloc (.cells #[.slice none 0 0] 59)).alloc (.cells #[.slice none 0 0] 29)) w.heap.size (w.heap.size + 1) (w.heap.size + 1) (.slice none 0 0) (.slice none 0 0) [] :=
  ⟨(enew_map w).below (bel_newG _ _), alloc_at _ _ (by simp), seesE_nil pcE _, by omega, by simp [Value.ownBlock], fun h => by simp at h, fun h => by simp at h⟩
/-- A step's cells. -/
theorem st_cells {w : World} {ao : Option Addr} {n cap : Nat} {ss : List St9} (h : SeesE stE w (.slice ao n cap) ss) (h0 : 0 < ss.length) : ∃ b off, ao = some ⟨b, off, none⟩ ∧ n = ss.length ∧ b < w.heap.size ∧ ∀ (i : Nat) (hi : i < ss.length),
    w.cell? ⟨b, off + i * 7, none⟩ = some (.int .i64 ss[i].kind) ∧ w.cell? ⟨b, off + i * 7 + 1, none⟩ = some (.int .i64 ss[i].pc.off) ∧ w.cell? ⟨b, off + i * 7 + 2, none⟩ = some (.int .i64 ss[i].pc.len) ∧ w.cell? ⟨b, off + i * 7 + 3, none⟩ = some (.int .i64 ss[i].pc.page) ∧ w.cell? ⟨b, off + i * 7 + 4, none⟩ = some (.int .i64 ss[i].pc.pos) ∧ w.cell? ⟨b, off + i * 7 + 5, none⟩ = some (.int .i64 ss[i].a) ∧ w.cell? ⟨b, off + i * 7 + 6, none⟩ = some (.int .i64 ss[i].b) := by
  obtain ⟨b, off, e, e2, hl, hh⟩ := h.cells h0
  exact ⟨b, off, e, e2, hl, fun i hi => ⟨hh i hi 0 _ rfl, hh i hi 1 _ rfl, hh i hi 2 _ rfl, hh i hi 3 _ rfl, hh i hi 4 _ rfl, hh i hi 5 _ rfl, hh i hi 6 _ rfl⟩⟩
/-- A range of all is all. -/
theorem range_all {ps : List Pc} (hf : Fits ps) {b : Int} (hb : 2147483648 ≤ b) : rangeB ps 0 b = ps := by
  unfold rangeB
  induction ps with
  | nil => rfl
  | cons x l ih =>
    have hx := hf x (List.mem_cons_self ..)
    unfold Fit at hx
    rw [List.flatMap_cons, ih fun y hy => hf y (List.mem_cons_of_mem _ hy)]
    have h1 : max x.off 0 = x.off := by omega
    have h2 : min (x.off + x.len) b = x.off + x.len := by omega
    rw [h1, h2, if_pos (by omega)]
    unfold Pc.sub
    have h3 : x.off + x.len - x.off = x.len := by omega
    have h4 : x.pos + x.off - x.off = x.pos := by omega
    rw [h3, h4]
    rfl
theorem apart_at {l : List Pc} (h : Apart l) : ∀ (i : Nat) (hi : i + 1 < l.length), touchB (l[i]'(by omega)) l[i + 1] = false := by
  induction l with
  | nil => intro i hi; simp at hi
  | cons x l ih =>
    intro i hi
    cases i with
    | zero =>
      cases l with
      | nil => simp at hi
      | cons y l => exact h.1 y rfl
    | succ i => exact ih h.2 i (by simpa using hi)
end Go.Proofs.Ythdmclhccbjgoaa
