/- Names through the epochs: rows as they came; the mathematics of the document's table. (No program in it.) -/
import Derived.Test.YthjcmagionaepaaMHold
namespace Go.Proofs.Ythjcmagionaepaa
open Go.RowKit Kit
set_option linter.unusedVariables false

/-- A row: a name, where it leads, from when, till when. -/
structure Rw where
  name : ByteArray
  ino : Int
  born : Int
  died : Int
/-- How a row lies. -/
def rwE : Enc Rw where
  k := 4
  c r := [.string r.name, .int .i64 r.ino, .int .i64 r.born, .int .i64 r.died]
  len _ := rfl
  pos := by decide
  one p u hu := by
    simp at hu
    rcases hu with rfl | rfl | rfl | rfl <;> rfl
theorem rw_cells {w : World} {ao : Option Addr} {n cap : Nat} {xs : List Rw} (h : SeesE rwE w (.slice ao n cap) xs) (h0 : 0 < xs.length) : ∃ b off, ao = some ⟨b, off, none⟩ ∧ n = xs.length ∧ b < w.heap.size ∧ ∀ (i : Nat) (hi : i < xs.length), w.cell? ⟨b, off + i * 4, none⟩ = some (.string xs[i].name) ∧ w.cell? ⟨b, off + i * 4 + 1, none⟩ = some (.int .i64 xs[i].ino) ∧ w.cell? ⟨b, off + i * 4 + 2, none⟩ = some (.int .i64 xs[i].born) ∧ w.cell? ⟨b, off + i * 4 + 3, none⟩ = some (.int .i64 xs[i].died) := by
  obtain ⟨b, off, e, hn, hb, hc⟩ := h.cells h0
  exact ⟨b, off, e, hn, hb, fun i hi => ⟨hc i hi 0 _ rfl, hc i hi 1 _ rfl, hc i hi 2 _ rfl, hc i hi 3 _ rfl⟩⟩
/-- The first place at which something is true; so many where it is nowhere. -/
def seatP {α : Type} (p : α → Bool) (l : List α) : Nat := (l.takeWhile fun x => !p x).length
theorem seatP_le {α : Type} (p : α → Bool) (l : List α) : seatP p l ≤ l.length := (List.takeWhile_sublist _).length_le
theorem seatP_at {α : Type} (p : α → Bool) : ∀ (l : List α), (∀ j (hj : j < l.length), j < seatP p l → p l[j] = false) ∧ (∀ h : seatP p l < l.length, p (l[seatP p l]) = true)
  | [] => ⟨fun j hj => by simp at hj, fun h => by simp at h⟩
  | a :: r => by
    have ih := seatP_at p r
    unfold seatP at *
    cases c : p a
    · rw [List.takeWhile_cons_of_pos (by simp [c])]
      simp only [List.length_cons]
      refine ⟨fun j hj h => ?_, fun h => ?_⟩
      · cases j with
        | zero => exact c
        | succ j => exact ih.1 j (by simpa using hj) (by omega)
      · simp only [List.getElem_cons_succ]
        exact ih.2 (by omega)
    · rw [List.takeWhile_cons_of_neg (by simp [c])]
      exact ⟨fun j hj h => by simp at h, fun h => c⟩
theorem seatP_of {α : Type} {p : α → Bool} {l : List α} {k : Nat} (hk : k ≤ l.length) (h1 : ∀ j (hj : j < l.length), j < k → p l[j] = false) (h2 : ∀ h : k < l.length, p l[k] = true) : seatP p l = k := by
  have hs := seatP_at p l
  have hl := seatP_le p l
  by_cases c : seatP p l < k
  · have h3 := h1 _ (by omega) c
    rw [hs.2 (by omega)] at h3
    cases h3
  · by_cases d : k < seatP p l
    · have h3 := hs.1 k (by omega) d
      rw [h2 (by omega)] at h3
      cases h3
    · omega
theorem seatP_any {α : Type} {p : α → Bool} {l : List α} : l.any p = true ↔ seatP p l < l.length := by
  have hs := seatP_at p l
  rw [List.any_eq_true]
  constructor
  · rintro ⟨x, hx, hp⟩
    obtain ⟨j, hj, rfl⟩ := List.mem_iff_getElem.1 hx
    by_cases c : seatP p l < l.length
    · exact c
    · have h3 := hs.1 j hj (by omega)
      rw [hp] at h3
      cases h3
  · intro h
    exact ⟨_, List.getElem_mem h, hs.2 h⟩
/-- A walk along a list, place by place. -/
theorem seatP_step {α : Type} {p : α → Bool} {l : List α} {i : Nat} (h : i ≤ seatP p l) (hi : i < l.length) (hp : p l[i] = false) : i + 1 ≤ seatP p l := by
  by_cases e : seatP p l = i
  · have h2 := (seatP_at p l).2 (by omega)
    simp only [e] at h2
    rw [hp] at h2
    cases h2
  · omega
theorem seatP_here {α : Type} {p : α → Bool} {l : List α} {i : Nat} (h : i ≤ seatP p l) (hi : i < l.length) (hp : p l[i] = true) : seatP p l = i :=
  seatP_of (by omega) (fun j hj hji => (seatP_at p l).1 j hj (by omega)) (fun _ => hp)
/-- A name's row without an end; a row of a name that holds. -/
def openP (name : ByteArray) (r : Rw) : Bool := decide (r.name = name) && decide (r.died = 0)
def findP (name : ByteArray) (e : Int) (r : Rw) : Bool := decide (r.name = name) && holdsB r.born r.died e
def openI (rs : List Rw) (name : ByteArray) : Int := if rs.any (openP name) then ((seatP (openP name) rs : Nat) : Int) else -1
theorem open_no {rs : List Rw} {name : ByteArray} (h : rs.any (openP name) = false) : openI rs name = -1 := by unfold openI; rw [if_neg (by rw [h]; simp)]
theorem open_yes {rs : List Rw} {name : ByteArray} (h : rs.any (openP name) = true) : openI rs name = ((seatP (openP name) rs : Nat) : Int) := by unfold openI; rw [if_pos h]
/-- What is found: where it leads, and whether. -/
def foundI (rs : List Rw) (name : ByteArray) (e : Int) : Int := match rs.find? (findP name e) with | some r => r.ino | none => 0
def foundB (rs : List Rw) (name : ByteArray) (e : Int) : Bool := rs.any (findP name e)
theorem find_seat {α : Type} {p : α → Bool} {l : List α} (h : seatP p l < l.length) : l.find? p = some l[seatP p l] := by
  have hs := seatP_at p l
  rw [List.find?_eq_some_iff_getElem]
  exact ⟨hs.2 h, _, h, rfl, fun j hj => by rw [hs.1 j (by omega) hj]; rfl⟩
theorem find_none {α : Type} {p : α → Bool} {l : List α} (h : ¬ seatP p l < l.length) : l.find? p = none := by
  rw [List.find?_eq_none]
  intro x hx hp
  exact h (seatP_any.1 (List.any_eq_true.2 ⟨x, hx, hp⟩))
/-- May a call be, but for its inode? -/
def mayB (last : Int) (name : ByteArray) (e : Int) : Bool := !decide (name = ⟨#[]⟩) && (epochB e && decide (last ≤ e))
/-- A row of a name given an end. -/
def endR (rs : List Rw) (name : ByteArray) (e : Int) : List Rw := if h : seatP (openP name) rs < rs.length then rs.set (seatP (openP name) rs) { rs[seatP (openP name) rs] with died := e } else rs
end Go.Proofs.Ythjcmagionaepaa
