/- The program's table: how it lies. -/
import Derived.Test.YthjcmagionaepaaKTab
import Derived.Test.YthjcmagionaepaaKitMapS
namespace Go.Proofs.Ythjcmagionaepaa
open Go.RowKit Kit
set_option linter.unusedVariables false

/-- A map of rows (mo: its block, where there is one; g: what it tells) shows the rows ρ, of each name its own. -/
structure MapR (w : World) (B : Nat) (mo : Option Nat) (g : ByteArray → Option Value) (ρ : ByteArray → List Rw) : Prop where
  low : B ≤ w.heap.size
  map : (mo = none ∧ ∀ s, g s = none) ∨ ∃ b, mo = some b ∧ B ≤ b ∧ MapS Try.prog 9 w b g
  row : ∀ s v, g s = some v → RowE rwE w B 48 v (ρ s) ∧ ρ s ≠ []
  none : ∀ s, g s = none → ρ s = []
  apart : ∀ s s' v v' k, g s = some v → g s' = some v' → v.ownBlock = some k → v'.ownBlock = some k → s = s'
def rfoot (mo : Option Nat) (g : ByteArray → Option Value) (k : Nat) : Prop := mo = some k ∨ ∃ s v, g s = some v ∧ v.ownBlock = some k
/-- What is looked up. -/
def rv (g : ByteArray → Option Value) (s : ByteArray) : Value := (g s).getD (.slice none 0 0)
section
variable {w w' : World} {B C : Nat} {mo : Option Nat} {g : ByteArray → Option Value} {ρ : ByteArray → List Rw}
theorem MapR.rowv (h : MapR w B mo g ρ) (s : ByteArray) : RowE rwE w B 48 (rv g s) (ρ s) := by
  unfold rv
  cases e : g s with
  | none => rw [h.none s e]; exact rowE_nil rwE _ _ _
  | some v => exact (h.row s v e).1
theorem MapR.obj (h : MapR w B mo g ρ) {k : Nat} (hk : rfoot mo g k) : (∃ xs c, w.heap[k]? = some (.map xs c)) ∨ ∃ cs, w.heap[k]? = some (.cells cs 48) := by
  rcases hk with e | ⟨s, v, h1, h2⟩
  · rcases h.map with ⟨h1, _⟩ | ⟨b, h1, _, h3⟩
    · rw [h1] at e; cases e
    · rw [h1] at e
      cases e
      exact .inl h3.isMap
  · exact .inr (rowE_obj (h.row s v h1).1 h2)
theorem MapR.lt (h : MapR w B mo g ρ) {k : Nat} (hk : rfoot mo g k) : k < w.heap.size := by
  rcases h.obj hk with ⟨_, _, h1⟩ | ⟨_, h1⟩ <;> exact blk_lt h1
theorem MapR.ge (h : MapR w B mo g ρ) {k : Nat} (hk : rfoot mo g k) : B ≤ k := by
  rcases hk with e | ⟨s, v, h1, h2⟩
  · rcases h.map with ⟨h1, _⟩ | ⟨b, h1, h2, _⟩
    · rw [h1] at e; cases e
    · rw [h1] at e
      cases e
      exact h2
  · exact (h.row s v h1).1.block k h2
theorem MapR.ty (h : MapR w B mo g ρ) {k : Nat} (hk : rfoot mo g k) {cs : Array Value} {ty : TypeId} (hc : w.heap[k]? = some (.cells cs ty)) : ty = 48 := by
  rcases h.obj hk with ⟨_, _, h1⟩ | ⟨_, h1⟩
  · rw [hc] at h1; cases h1
  · rw [hc] at h1
    injection h1 with h1
    injection h1
theorem MapR.stay (h : MapR w B mo g ρ) {F F' : Nat → Prop} (t : TurnF F F' w w') (hF : ∀ k, rfoot mo g k → ¬ F k) : MapR w' B mo g ρ := by
  refine ⟨Nat.le_trans h.low t.size, ?_, fun s v e => ⟨rowE_stay (h.row s v e).1 (fun k hk => t.block k (h.lt (.inr ⟨s, v, e, hk⟩)) (hF k (.inr ⟨s, v, e, hk⟩))), (h.row s v e).2⟩, h.none, h.apart⟩
  rcases h.map with h1 | ⟨b, h1, h2, h3⟩
  · exact .inl h1
  · exact .inr ⟨b, h1, h2, h3.block (t.block b h3.lt (hF b (.inl h1)))⟩
theorem MapR.below (h : MapR w B mo g ρ) (hb : Below w.heap.size w w') : MapR w' B mo g ρ := h.stay (turnF_below (F := fun _ => False) hb) (fun _ _ e => e)
theorem MapR.mono (h : MapR w B mo g ρ) (hb : C ≤ B) : MapR w C mo g ρ := by
  refine ⟨Nat.le_trans hb h.low, ?_, fun s v e => ⟨(h.row s v e).1.mono hb, (h.row s v e).2⟩, h.none, h.apart⟩
  rcases h.map with h1 | ⟨b, h1, h2, h3⟩
  · exact .inl h1
  · exact .inr ⟨b, h1, Nat.le_trans hb h2, h3⟩
theorem MapR.isSome (h : MapR w B mo g ρ) (s : ByteArray) : (g s).isSome = true ↔ ρ s ≠ [] := by
  cases e : g s with
  | none => simp [h.none s e]
  | some v => simpa using (h.row s v e).2
theorem MapR.congr (h : MapR w B mo g ρ) {ρ' : ByteArray → List Rw} (e : ∀ s, ρ s = ρ' s) : MapR w B mo g ρ' := by
  have : ρ = ρ' := funext e
  rw [← this]; exact h
/-- A new map of no row. -/
theorem mapR_made (w : World) (hB : B ≤ w.heap.size) : MapR (w.alloc (.map #[] 0)) B (some w.heap.size) (fun _ => Option.none) (fun _ => []) :=
  ⟨by simp; omega, .inr ⟨_, rfl, hB, mapS_made Try.prog 9 w⟩, (fun s v e => by cases e), fun _ _ => rfl, (fun s s' v v' k e => by cases e)⟩
theorem rowE_stored {w1 w2 : World} {b : Nat} {v : Value} {xs : List Rw} (h : RowE rwE w1 B 48 v xs) (hg : w1.grownBy w2 (some b)) (hb : ∃ ys c, w1.heap[b]? = some (.map ys c)) : RowE rwE w2 B 48 v xs := by
  refine rowE_stay h (fun k hk => ?_)
  obtain ⟨cs, hc⟩ := rowE_obj h hk
  refine hg.block k (blk_lt hc) (fun e => ?_)
  obtain ⟨ys, c, hb⟩ := hb
  injection e with e
  rw [e, hb] at hc
  cases hc
/-- A longer row is stored. -/
theorem MapR.put {w1 : World} {b : Nat} {name : ByteArray} {v' : Value} {xs' : List Rw} (h : MapR w B (some b) g ρ) (hg : w.grownBy w1 (rv g name).ownBlock) (hr : RowE rwE w1 B 48 v' xs') (hx : xs' ≠ []) (hf : ∀ k, v'.ownBlock = some k → (rv g name).ownBlock = some k ∨ w.heap.size ≤ k)
    (hn : name.size ≤ maxLen) (L : List ByteArray) (hL : ∀ s, (g s).isSome = true → s ∈ L) (hLn : L.length < maxLen) :
    ∃ w2, (Instr.mapUpdate 38 (.map (some b)) (.string name) v').run Try.prog w1 = .ok () w2 ∧ MapR w2 B (some b) (putS g name v') (fun s => if s = name then xs' else ρ s) ∧ TurnF (rfoot (some b) g) (rfoot (some b) (putS g name v')) w w2 ∧ w2.heap.size = w1.heap.size := by
  obtain ⟨hB, hM⟩ : B ≤ b ∧ MapS Try.prog 9 w b g := by
    rcases h.map with ⟨e, _⟩ | ⟨b', e, h1, h2⟩
    · cases e
    · cases e; exact ⟨h1, h2⟩
  have hob : ∀ k, (rv g name).ownBlock = some k → ∃ v, g name = some v ∧ v.ownBlock = some k := fun k hk => by
    unfold rv at hk
    cases e : g name with
    | none => rw [e] at hk; simp [Value.ownBlock] at hk
    | some v => rw [e] at hk; exact ⟨v, rfl, hk⟩
  have hbo : ∀ k, (rv g name).ownBlock = some k → k ≠ b := fun k hk e => by
    obtain ⟨v, h1, h2⟩ := hob k hk
    obtain ⟨cs, hc⟩ := rowE_obj (h.row name v h1).1 h2
    rw [e] at hc
    exact hM.ncells hc
  have hM1 : MapS Try.prog 9 w1 b g := hM.block (hg.block b hM.lt (fun e => hbo b e.symm rfl))
  obtain ⟨w2, hrun, k1, k2, k3⟩ := hM1.put Try.underlying9 Try.underlying38 L hL hLn hn v'
  have hr2 := rowE_stored hr k2 hM1.isMap
  refine ⟨w2, hrun, ⟨Nat.le_trans h.low (Nat.le_trans hg.size (Nat.le_of_eq k3.symm)), .inr ⟨b, rfl, hB, k1⟩, fun s v e => ?_, fun s e => ?_, fun s s' v v2 k e e' e1 e2 => ?_⟩, ⟨k2.os.trans hg.os, k2.tape.trans hg.tape, k2.output.trans hg.output, by rw [k3]; exact hg.size, fun k hk hF => ?_, fun k hk => ?_⟩, k3⟩
  · by_cases hs : s = name
    · subst hs
      rw [putS_same] at e
      cases e
      simp only [if_true]
      exact ⟨hr2, hx⟩
    · rw [putS_other hs] at e
      simp only [if_neg hs]
      obtain ⟨q1, q2⟩ := h.row s v e
      refine ⟨?_, q2⟩
      refine rowE_stored (rowE_stay q1 (fun k hk => hg.block k (h.lt (.inr ⟨s, v, e, hk⟩)) (fun e2 => ?_))) k2 hM1.isMap
      obtain ⟨v0, q3, q4⟩ := hob k e2.symm
      exact hs (h.apart s name v v0 k e q3 hk q4)
  · by_cases hs : s = name
    · subst hs
      rw [putS_same] at e
      cases e
    · rw [putS_other hs] at e
      simp only [if_neg hs]
      exact h.none s e
  · by_cases hs : s = name
    · by_cases hs' : s' = name
      · rw [hs, hs']
      · exfalso
        subst hs
        rw [putS_same] at e
        rw [putS_other hs'] at e'
        cases e
        rcases hf k e1 with q | q
        · obtain ⟨v0, q3, q4⟩ := hob k q
          exact hs' (h.apart s' s v2 v0 k e' q3 e2 q4)
        · have := h.lt (.inr ⟨s', v2, e', e2⟩)
          omega
    · by_cases hs' : s' = name
      · exfalso
        subst hs'
        rw [putS_same] at e'
        rw [putS_other hs] at e
        cases e'
        rcases hf k e2 with q | q
        · obtain ⟨v0, q3, q4⟩ := hob k q
          exact hs (h.apart s s' v v0 k e q3 e1 q4)
        · have := h.lt (.inr ⟨s, v, e, e1⟩)
          omega
      · rw [putS_other hs] at e
        rw [putS_other hs'] at e'
        exact h.apart s s' v v2 k e e' e1 e2
  · rw [k2.block k (Nat.lt_of_lt_of_le hk hg.size) (fun e => hF (.inl e.symm))]
    refine hg.block k hk (fun e => ?_)
    obtain ⟨v0, q3, q4⟩ := hob k e.symm
    exact hF (.inr ⟨name, v0, q3, q4⟩)
  · rcases hk with e | ⟨s, v, e1, e2⟩
    · exact .inl (.inl e)
    · by_cases hs : s = name
      · subst hs
        rw [putS_same] at e1
        cases e1
        rcases hf k e2 with q | q
        · obtain ⟨v0, q3, q4⟩ := hob k q
          exact .inl (.inr ⟨_, v0, q3, q4⟩)
        · exact .inr q
      · rw [putS_other hs] at e1
        exact .inl (.inr ⟨s, v, e1, e2⟩)
/-- A row's own cells turn. -/
theorem MapR.turn {name : ByteArray} {v : Value} {k : Nat} {xs' : List Rw} (h : MapR w B mo g ρ) (he : g name = some v) (hk : v.ownBlock = some k) (hs : w'.heap.size = w.heap.size) (hb : ∀ j, j ≠ k → w'.heap[j]? = w.heap[j]?) (hr : RowE rwE w' B 48 v xs') (hx : xs' ≠ []) :
    MapR w' B mo g (fun s => if s = name then xs' else ρ s) := by
  have hkf : rfoot mo g k := .inr ⟨name, v, he, hk⟩
  refine ⟨by rw [hs]; exact h.low, ?_, fun s u e => ?_, fun s e => ?_, h.apart⟩
  · rcases h.map with h1 | ⟨b, h1, h2, h3⟩
    · exact .inl h1
    · refine .inr ⟨b, h1, h2, h3.block (hb b (fun e => ?_))⟩
      obtain ⟨cs, hc⟩ := rowE_obj (h.row name v he).1 hk
      rw [← e] at hc
      exact h3.ncells hc
  · by_cases hsn : s = name
    · subst hsn
      rw [he] at e
      cases e
      simp only [if_true]
      exact ⟨hr, hx⟩
    · simp only [if_neg hsn]
      obtain ⟨q1, q2⟩ := h.row s u e
      exact ⟨rowE_stay q1 (fun j hj => hb j (fun e2 => hsn (h.apart s name u v k e he (by rw [← e2]; exact hj) hk))), q2⟩
  · by_cases hsn : s = name
    · subst hsn
      rw [he] at e
      cases e
    · simp only [if_neg hsn]
      exact h.none s e
end

/-- The table itself. -/
structure TabAt (w : World) (p B : Nat) (mo : Option Nat) (g : ByteArray → Option Value) (t : Tb) : Prop where
  cell : w.heap[p]? = some (.cells #[.map mo, .int .i64 t.last] 40)
  hp : B ≤ p
  rows : MapR w B mo g (fun s => t.rs.filter (ofN s))
def tbfoot (p : Nat) (mo : Option Nat) (g : ByteArray → Option Value) (k : Nat) : Prop := k = p ∨ rfoot mo g k
def TAt (w : World) (p B : Nat) (F : Nat → Prop) (t : Tb) : Prop := ∃ mo g, TabAt w p B mo g t ∧ F = tbfoot p mo g
section
variable {w w' : World} {p B C : Nat} {mo : Option Nat} {g : ByteArray → Option Value} {F : Nat → Prop} {t : Tb}
theorem TabAt.off (h : TabAt w p B mo g t) : ¬ rfoot mo g p := fun e => by
  have := h.rows.ty e h.cell
  exact absurd this (by decide)
theorem TabAt.stay (h : TabAt w p B mo g t) {G G' : Nat → Prop} (k : TurnF G G' w w') (hF : ∀ j, tbfoot p mo g j → ¬ G j) : TabAt w' p B mo g t :=
  ⟨k.kept h.cell (hF p (.inl rfl)), h.hp, h.rows.stay k (fun j hj => hF j (.inr hj))⟩
theorem TabAt.below (h : TabAt w p B mo g t) (hb : Below w.heap.size w w') : TabAt w' p B mo g t := h.stay (turnF_below (F := fun _ => False) hb) (fun _ _ e => e)
theorem TAt.below (h : TAt w p B F t) (hb : Below w.heap.size w w') : TAt w' p B F t := by
  obtain ⟨mo, g, h1, h2⟩ := h
  exact ⟨mo, g, h1.below hb, h2⟩
theorem TAt.lo (h : TAt w p B F t) : ∀ k, F k → B ≤ k ∧ k < w.heap.size := by
  obtain ⟨mo, g, h1, rfl⟩ := h
  rintro k (rfl | hk)
  · exact ⟨h1.hp, blk_lt h1.cell⟩
  · exact ⟨h1.rows.ge hk, h1.rows.lt hk⟩
theorem TAt.mono (h : TAt w p B F t) (hb : C ≤ B) : TAt w p C F t := by
  obtain ⟨mo, g, h1, h2⟩ := h
  exact ⟨mo, g, ⟨h1.cell, Nat.le_trans hb h1.hp, h1.rows.mono hb⟩, h2⟩
theorem TAt.stay (h : TAt w p B F t) {G G' : Nat → Prop} (k : TurnF G G' w w') (hF : ∀ j, F j → ¬ G j) : TAt w' p B F t := by
  obtain ⟨mo, g, h1, rfl⟩ := h
  exact ⟨mo, g, h1.stay k hF, rfl⟩
end
end Go.Proofs.Ythjcmagionaepaa
