/- package life: the book of spans. -/
import Derived.Test.YthjcmagionaepaaGreatMHold
import Derived.Test.YthjcmagionaepaaGreatGKit
import Derived.Test.YthjcmagionaepaaGreatProg
import Derived.Deep.RegionHeld3
import Derived.Deep.QuietTactic
import Derived.BigQuiet
import Derived.Laws.OwnMore
import Derived.Laws.Cover1
import Derived.Deep.LoopGhost
import Derived.Shelf.Abstract
import Derived.Deep.RegionWith
import Derived.Deep.DeepCutAuto
import Derived.Deep.RegionLaw
import Derived.Lib.Overlaps
namespace Go.Proofs.YthjcmagionaepaaGreat
open Go.RowKit Kit
set_option linter.unusedVariables false

/-- A thing: its number, from when, till when. -/
structure Th where
  id : Int
  born : Int
  died : Int
def Asc (l : List Th) : Prop := l.Pairwise fun a b => a.id < b.id
def hasT (l : List Th) (id : Int) : Bool := l.any fun t => decide (t.id = id)
def lowT (l : List Th) (id : Int) : Nat := l.countP fun t => decide (t.id < id)
def idsT (f : Th → Bool) (l : List Th) : List Int := (l.filter f).map Th.id
theorem has_iffT {l : List Th} {id : Int} : hasT l id = true ↔ ∃ t ∈ l, t.id = id := by
  unfold hasT
  rw [List.any_eq_true]
  constructor
  · rintro ⟨t, h1, h2⟩; exact ⟨t, h1, of_decide_eq_true h2⟩
  · rintro ⟨t, h1, h2⟩; exact ⟨t, h1, decide_eq_true h2⟩
theorem low_leT (l : List Th) (id : Int) : lowT l id ≤ l.length := List.countP_le_length
theorem low_splitT : ∀ (l : List Th) (id : Int), Asc l → (∀ j (hj : j < l.length), j < lowT l id → l[j].id < id) ∧ (∀ j (hj : j < l.length), lowT l id ≤ j → ¬ l[j].id < id)
  | [], _, _ => ⟨fun j hj => by simp at hj, fun j hj => by simp at hj⟩
  | a :: r, id, h => by
    obtain ⟨h1, h2⟩ := List.pairwise_cons.1 h
    have ih := low_splitT r id h2
    unfold lowT at *
    rw [List.countP_cons]
    by_cases c : a.id < id
    · simp only [c, decide_true, if_true]
      refine ⟨fun j hj hl => ?_, fun j hj hl => ?_⟩
      · cases j with
        | zero => exact c
        | succ j => exact ih.1 j (by simpa using hj) (by omega)
      · cases j with
        | zero => omega
        | succ j => exact ih.2 j (by simpa using hj) (by omega)
    · have hz : r.countP (fun t => decide (t.id < id)) = 0 := by
        rw [List.countP_eq_zero]
        intro t ht
        have := h1 t ht
        simp only [decide_eq_true_eq]
        omega
      simp only [c, decide_false, hz]
      refine ⟨fun j hj hl => by simp at hl, fun j hj _ => ?_⟩
      cases j with
      | zero => exact c
      | succ j =>
        have := h1 (r[j]'(by simpa using hj)) (List.getElem_mem _)
        simp only [List.getElem_cons_succ]
        omega
theorem low_ofT {l : List Th} {id : Int} (h : Asc l) {k : Nat} (hk : k ≤ l.length) (h1 : ∀ j (hj : j < l.length), j < k → l[j].id < id) (h2 : ∀ j (hj : j < l.length), k ≤ j → ¬ l[j].id < id) : lowT l id = k := by
  have hs := low_splitT l id h
  have hl := low_leT l id
  by_cases c : lowT l id < k
  · exact absurd (h1 (lowT l id) (by omega) c) (hs.2 _ (by omega) (Nat.le_refl _))
  · by_cases d : k < lowT l id
    · exact absurd (hs.1 k (by omega) d) (h2 k (by omega) (Nat.le_refl _))
    · omega
theorem low_memT {l : List Th} {id : Int} (h : Asc l) : hasT l id = true ↔ ∃ hl : lowT l id < l.length, (l[lowT l id]).id = id := by
  have hs := low_splitT l id h
  rw [has_iffT]
  constructor
  · rintro ⟨t, hm, rfl⟩
    obtain ⟨j, hj, rfl⟩ := List.mem_iff_getElem.1 hm
    have e : lowT l l[j].id = j := low_ofT h (by omega) (fun i hi hij => List.pairwise_iff_getElem.1 h i j hi hj hij) (fun i hi hij hlt => by
      by_cases e : i = j
      · subst e; omega
      · have := List.pairwise_iff_getElem.1 h j i hj hi (by omega); omega)
    refine ⟨by omega, ?_⟩
    simp only [e]
  · rintro ⟨h1, h2⟩
    exact ⟨_, List.getElem_mem h1, h2⟩
/-- Set in where it belongs. -/
def putT (l : List Th) (x : Th) : List Th := l.take (lowT l x.id) ++ [x] ++ l.drop (lowT l x.id)
def diedT (l : List Th) (id e : Int) : List Th := l.map fun t => if t.id = id then { t with died := e } else t
def outT (l : List Th) (id : Int) : List Th := l.filter fun t => decide (t.id ≠ id)
theorem asc_put {l : List Th} {x : Th} (h : Asc l) (hx : hasT l x.id = false) : Asc (putT l x) := by
  have hs := low_splitT l x.id h
  unfold putT Asc
  rw [List.append_assoc]
  refine List.pairwise_append.2 ⟨h.sublist (List.take_sublist _ _), ?_, ?_⟩
  · rw [List.singleton_append]
    refine List.pairwise_cons.2 ⟨fun t ht => ?_, h.sublist (List.drop_sublist _ _)⟩
    obtain ⟨j, hj, rfl⟩ := List.getElem_of_mem ht
    rw [List.length_drop] at hj
    rw [List.getElem_drop]
    have h1 := hs.2 (lowT l x.id + j) (by omega) (by omega)
    have h2 : l[lowT l x.id + j].id ≠ x.id := fun e => by
      have := has_iffT.2 ⟨_, List.getElem_mem (by omega : lowT l x.id + j < l.length), e⟩
      rw [hx] at this; cases this
    omega
  · intro a ha b hb
    have hax : a.id < x.id := by
      obtain ⟨j, hj, rfl⟩ := List.getElem_of_mem ha
      rw [List.length_take] at hj
      rw [List.getElem_take]
      exact hs.1 j (by omega) (by omega)
    rw [List.singleton_append] at hb
    rcases List.mem_cons.1 hb with rfl | hb
    · exact hax
    · obtain ⟨j, hj, rfl⟩ := List.getElem_of_mem hb
      rw [List.length_drop] at hj
      rw [List.getElem_drop]
      have h1 := hs.2 (lowT l x.id + j) (by omega) (by omega)
      omega
theorem perm_put (l : List Th) (x : Th) : (putT l x).Perm (l ++ [x]) := by
  unfold putT
  have h1 : (l.take (lowT l x.id) ++ [x] ++ l.drop (lowT l x.id)).Perm (l.take (lowT l x.id) ++ l.drop (lowT l x.id) ++ [x]) := by
    rw [List.append_assoc, List.append_assoc]
    exact List.Perm.append_left _ List.perm_append_comm
  rw [List.take_append_drop] at h1
  exact h1
theorem asc_died {l : List Th} (h : Asc l) (id e : Int) : Asc (diedT l id e) := by
  unfold diedT Asc at *
  rw [List.pairwise_map]
  refine h.imp fun {a b} hab => ?_
  have e1 : ∀ t : Th, (if t.id = id then { t with died := e } else t).id = t.id := fun t => by split <;> rfl
  rw [e1, e1]; exact hab
theorem asc_out {l : List Th} (h : Asc l) (id : Int) : Asc (outT l id) := h.sublist (List.filter_sublist)
/-- In the program's book: at the place alone. -/
theorem died_at {l : List Th} {id e : Int} (h : Asc l) (hx : hasT l id = true) : ∃ hl : lowT l id < l.length, diedT l id e = l.set (lowT l id) { l[lowT l id] with died := e } := by
  obtain ⟨hl, hi⟩ := (low_memT h).1 hx
  refine ⟨hl, ?_⟩
  unfold diedT
  apply List.ext_getElem?
  intro j
  rw [List.getElem?_map, List.getElem?_set]
  by_cases hj : lowT l id = j
  · subst hj
    rw [if_pos rfl, if_pos hl, List.getElem?_eq_getElem hl, Option.map_some, if_pos hi]
  · rw [if_neg hj]
    by_cases hjl : j < l.length
    · rw [List.getElem?_eq_getElem hjl, Option.map_some, if_neg]
      intro e2
      have hs := low_splitT l id h
      rcases Nat.lt_or_ge j (lowT l id) with h1 | h1
      · have := hs.1 j hjl h1; omega
      · have := List.pairwise_iff_getElem.1 h (lowT l id) j hl hjl (by omega)
        omega
    · rw [List.getElem?_eq_none (by omega), Option.map_none]
theorem out_at {l : List Th} {id : Int} (h : Asc l) (hx : hasT l id = true) : outT l id = l.take (lowT l id) ++ l.drop (lowT l id + 1) := by
  obtain ⟨hl, hi⟩ := (low_memT h).1 hx
  have hs := low_splitT l id h
  unfold outT
  conv => lhs; rw [← List.take_append_drop (lowT l id) l]
  rw [List.filter_append, List.drop_eq_getElem_cons hl, List.filter_cons_of_neg (by simp [hi])]
  congr 1
  · rw [List.filter_eq_self]
    intro t ht
    obtain ⟨j, hj, rfl⟩ := List.getElem_of_mem ht
    rw [List.length_take] at hj
    rw [List.getElem_take]
    have := hs.1 j (by omega) (by omega)
    simp; omega
  · rw [List.filter_eq_self]
    intro t ht
    obtain ⟨j, hj, rfl⟩ := List.getElem_of_mem ht
    rw [List.length_drop] at hj
    rw [List.getElem_drop]
    have := List.pairwise_iff_getElem.1 h (lowT l id) (lowT l id + 1 + j) hl (by omega) (by omega)
    simp; omega
/-- In the document's book: where it stands. -/
def Once (l : List Th) : Prop := l.Pairwise fun a b => a.id ≠ b.id
theorem once_of {a b : List Th} (h : Asc a) (hp : a.Perm b) : Once b := by
  have h1 : Once a := h.imp fun hab => by omega
  unfold Once at *
  exact (hp.pairwise_iff (fun h e => h e.symm)).1 h1
/-- Where a number stands; so many where it does not. -/
def seatT (l : List Th) (id : Int) : Nat := (l.takeWhile fun t => decide (t.id ≠ id)).length
theorem seat_leT (l : List Th) (id : Int) : seatT l id ≤ l.length := by
  unfold seatT
  exact (List.takeWhile_sublist _).length_le
theorem seat_at : ∀ (l : List Th) (id : Int), (∀ j (hj : j < l.length), j < seatT l id → l[j].id ≠ id) ∧ (∀ h : seatT l id < l.length, (l[seatT l id]).id = id)
  | [], _ => ⟨fun j hj => by simp at hj, fun h => by simp at h⟩
  | a :: r, id => by
    have ih := seat_at r id
    unfold seatT at *
    by_cases c : a.id = id
    · rw [List.takeWhile_cons_of_neg (by simp [c])]
      exact ⟨fun j hj h => by simp at h, fun h => c⟩
    · rw [List.takeWhile_cons_of_pos (by simp [c])]
      simp only [List.length_cons]
      refine ⟨fun j hj h => ?_, fun h => ?_⟩
      · cases j with
        | zero => exact c
        | succ j => exact ih.1 j (by simpa using hj) (by omega)
      · simp only [List.getElem_cons_succ]
        exact ih.2 (by omega)
theorem seat_ofT {l : List Th} {id : Int} {k : Nat} (hk : k ≤ l.length) (h1 : ∀ j (hj : j < l.length), j < k → l[j].id ≠ id) (h2 : ∀ h : k < l.length, l[k].id = id) : seatT l id = k := by
  have hs := seat_at l id
  have hl := seat_leT l id
  by_cases c : seatT l id < k
  · exact absurd (hs.2 (by omega)) (h1 _ (by omega) c)
  · by_cases d : k < seatT l id
    · exact absurd (h2 (by omega)) (hs.1 k (by omega) d)
    · omega
theorem seat_has {l : List Th} {id : Int} : hasT l id = true ↔ seatT l id < l.length := by
  have hs := seat_at l id
  rw [has_iffT]
  constructor
  · rintro ⟨t, hm, rfl⟩
    obtain ⟨j, hj, rfl⟩ := List.mem_iff_getElem.1 hm
    by_cases c : seatT l l[j].id < l.length
    · exact c
    · exact absurd rfl (hs.1 j hj (by omega))
  · intro h
    exact ⟨_, List.getElem_mem h, hs.2 h⟩
theorem died_seat {l : List Th} {id e : Int} (h : Once l) (hl : seatT l id < l.length) : diedT l id e = l.set (seatT l id) { l[seatT l id] with died := e } := by
  have hs := seat_at l id
  have hi := hs.2 hl
  unfold diedT
  apply List.ext_getElem?
  intro j
  rw [List.getElem?_map, List.getElem?_set]
  by_cases hj : seatT l id = j
  · subst hj
    rw [if_pos rfl, if_pos hl, List.getElem?_eq_getElem hl, Option.map_some, if_pos hi]
  · rw [if_neg hj]
    by_cases hjl : j < l.length
    · rw [List.getElem?_eq_getElem hjl, Option.map_some, if_neg]
      intro e2
      rcases Nat.lt_or_ge j (seatT l id) with h1 | h1
      · exact hs.1 j hjl h1 e2
      · exact List.pairwise_iff_getElem.1 h (seatT l id) j hl hjl (by omega) (by rw [hi, e2])
    · rw [List.getElem?_eq_none (by omega), Option.map_none]
theorem out_seat {l : List Th} {id : Int} (h : Once l) (hl : seatT l id < l.length) : outT l id = l.take (seatT l id) ++ l.drop (seatT l id + 1) := by
  have hs := seat_at l id
  have hi := hs.2 hl
  unfold outT
  conv => lhs; rw [← List.take_append_drop (seatT l id) l]
  rw [List.filter_append, List.drop_eq_getElem_cons hl, List.filter_cons_of_neg (by simp [hi])]
  congr 1
  · rw [List.filter_eq_self]
    intro t ht
    obtain ⟨j, hj, rfl⟩ := List.getElem_of_mem ht
    rw [List.length_take] at hj
    rw [List.getElem_take]
    simpa using hs.1 j (by omega) (by omega)
  · rw [List.filter_eq_self]
    intro t ht
    obtain ⟨j, hj, rfl⟩ := List.getElem_of_mem ht
    rw [List.length_drop] at hj
    rw [List.getElem_drop]
    have := List.pairwise_iff_getElem.1 h (seatT l id) (seatT l id + 1 + j) hl (by omega) (by omega)
    rw [hi] at this
    simp
    exact fun e => this e.symm
/-- A step. -/
structure St where
  kind : Int
  id : Int
  ep : Int
theorem has_perm {a b : List Th} (h : a.Perm b) (id : Int) : hasT a id = hasT b id := by
  rw [Bool.eq_iff_iff, has_iffT, has_iffT]
  exact ⟨fun ⟨t, h1, h2⟩ => ⟨t, h.mem_iff.1 h1, h2⟩, fun ⟨t, h1, h2⟩ => ⟨t, h.mem_iff.2 h1, h2⟩⟩
/-- The thing of a number. -/
theorem once_eq {l : List Th} (h : Once l) {a b : Th} (ha : a ∈ l) (hb : b ∈ l) (e : a.id = b.id) : a = b := by
  obtain ⟨i, hi, rfl⟩ := List.mem_iff_getElem.1 ha
  obtain ⟨j, hj, rfl⟩ := List.mem_iff_getElem.1 hb
  rcases Nat.lt_trichotomy i j with h1 | h1 | h1
  · exact absurd e (List.pairwise_iff_getElem.1 h i j hi hj h1)
  · subst h1; rfl
  · exact absurd e.symm (List.pairwise_iff_getElem.1 h j i hj hi h1)
/-- May a step be? The same of both books. -/
def birthOk (l : List Th) (id e : Int) : Prop := 1 ≤ e ∧ e ≤ maxE ∧ hasT l id = false
def deathOk (l : List Th) (id e : Int) : Prop := e ≤ maxE ∧ ∃ t ∈ l, t.id = id ∧ t.died = 0 ∧ t.born ≤ e
theorem birth_perm {a b : List Th} (h : a.Perm b) (id e : Int) : birthOk a id e ↔ birthOk b id e := by unfold birthOk; rw [has_perm h]
theorem death_perm {a b : List Th} (h : a.Perm b) (id e : Int) : deathOk a id e ↔ deathOk b id e := by
  unfold deathOk
  exact ⟨fun ⟨h0, t, h1, h2⟩ => ⟨h0, t, h.mem_iff.1 h1, h2⟩, fun ⟨h0, t, h1, h2⟩ => ⟨h0, t, h.mem_iff.2 h1, h2⟩⟩
end Go.Proofs.YthjcmagionaepaaGreat

namespace Go.Proofs.YthjcmagionaepaaGreat
open Go.RowKit Kit
set_option linter.unusedVariables false

/-- How a thing lies: three cells; its span: two. -/
def thE : Enc Th where
  k := 3
  c t := [.int .i64 t.id, .int .i64 t.born, .int .i64 t.died]
  len _ := rfl
  pos := by decide
  one p u hu := by
    simp at hu
    rcases hu with rfl | rfl | rfl <;> rfl
def spE : Enc Th where
  k := 2
  c t := [.int .i64 t.born, .int .i64 t.died]
  len _ := rfl
  pos := by decide
  one p u hu := by
    simp at hu
    rcases hu with rfl | rfl <;> rfl
/-- The program's book: a variable in block p, its things in a row of its own. -/
structure BookAt (w : World) (p B : Nat) (v : Value) (ps : List Th) : Prop where
  cell : w.heap[p]? = some (.cells #[v] 104)
  row : RowE thE w B 108 v ps
  low : B ≤ w.heap.size
  hp : B ≤ p
def pfoot (p : Nat) (v : Value) (k : Nat) : Prop := k = p ∨ v.ownBlock = some k
theorem BookAt.below {w w' : World} {p B : Nat} {v : Value} {ps : List Th} (h : BookAt w p B v ps) (hb : Below w.heap.size w w') : BookAt w' p B v ps := ⟨blk_below hb h.cell, h.row.below hb, Nat.le_trans h.low hb.size, h.hp⟩
theorem BookAt.off {w : World} {p B : Nat} {v : Value} {ps : List Th} (h : BookAt w p B v ps) : v.ownBlock ≠ some p := by
  intro e
  obtain ⟨cur, hc⟩ := rowE_obj h.row e
  exact obj_ne hc h.cell (by decide) rfl
theorem BookAt.foot {w : World} {p B : Nat} {v : Value} {ps : List Th} (h : BookAt w p B v ps) : ∀ k, pfoot p v k → B ≤ k := by
  intro k hk
  rcases hk with rfl | hk
  · exact h.hp
  · exact h.row.block k hk
theorem BookAt.foot_lt {w : World} {p B : Nat} {v : Value} {ps : List Th} (h : BookAt w p B v ps) : ∀ k, pfoot p v k → k < w.heap.size := by
  intro k hk
  rcases hk with rfl | hk
  · exact blk_lt h.cell
  · obtain ⟨cur, hc⟩ := rowE_obj h.row hk
    exact blk_lt hc
theorem BookAt.stay {w w' : World} {p B : Nat} {v : Value} {ps : List Th} {F F' : Nat → Prop} (h : BookAt w p B v ps) (t : TurnF F F' w w') (hF : ∀ k, pfoot p v k → ¬ F k) : BookAt w' p B v ps :=
  ⟨t.kept h.cell (hF p (.inl rfl)), rowE_stay h.row (fun k hk => by
    obtain ⟨cur, hc⟩ := rowE_obj h.row hk
    exact t.block k (blk_lt hc) (hF k (.inr hk))), Nat.le_trans h.low t.size, h.hp⟩
/-- A new row is stored into the book. -/
theorem book_store {w w1 : World} {p B : Nat} {v v' : Value} {ps qs : List Th} (h0 : BookAt w p B v ps) (hg : w.grownBy w1 v.ownBlock) (hr : RowE thE w1 B 108 v' qs) (hf : ∀ k, v'.ownBlock = some k → v.ownBlock = some k ∨ w.heap.size ≤ k) :
    BookAt (w1.setCell ⟨p, 0, none⟩ v') p B v' qs ∧ TurnF (pfoot p v) (pfoot p v') w (w1.setCell ⟨p, 0, none⟩ v') := by
  have hp := blk_lt h0.cell
  have hc : w1.heap[p]? = some (.cells #[v] 104) := by rw [hg.block p hp (fun e => h0.off e.symm)]; exact h0.cell
  have ho : v'.ownBlock ≠ some p := fun e => (hf p e).elim h0.off (fun h => by omega)
  have hs : (w1.setCell ⟨p, 0, none⟩ v').heap.size = w1.heap.size := by simp [World.setCell]
  refine ⟨⟨?_, rowE_stay hr (fun k hk => Below.heap_setCell _ _ _ k (by show k ≠ p; intro e; exact ho (by rw [hk, e]))), by rw [hs]; exact Nat.le_trans h0.low hg.size, h0.hp⟩, hg.os, hg.tape, hg.output, by rw [hs]; exact hg.size, fun k hk h1 => ?_, fun k hk => ?_⟩
  · rw [setCell_blk hc]; rfl
  · rw [Below.heap_setCell _ _ _ k (fun e => h1 (.inl e))]
    exact hg.block k hk (fun e => h1 (.inr e.symm))
  · rcases hk with rfl | hk
    · exact .inl (.inl rfl)
    · exact (hf k hk).imp .inr id
/-- What a pointer to a book shows, none or one. -/
def SeesB (w : World) (pv : Value) (ps : List Th) : Prop := (pv = .pointer none ∧ ps = []) ∨ ∃ p v, pv = .pointer (some ⟨p, 0, none⟩) ∧ w.heap[p]? = some (.cells #[v] 104) ∧ SeesE thE w v ps
theorem SeesB.below {w w' : World} {pv : Value} {ps : List Th} (h : SeesB w pv ps) (hb : Below w.heap.size w w') : SeesB w' pv ps := by
  rcases h with h | ⟨p, v, h1, h2, h3⟩
  · exact .inl h
  · exact .inr ⟨p, v, h1, blk_below hb h2, h3.below hb⟩
theorem BookAt.sees {w : World} {p B : Nat} {v : Value} {ps : List Th} (h : BookAt w p B v ps) : SeesB w (.pointer (some ⟨p, 0, none⟩)) ps := .inr ⟨p, v, rfl, h.cell, h.row.sees⟩
theorem th_cells {w : World} {ao : Option Addr} {n cap : Nat} {xs : List Th} (h : SeesE thE w (.slice ao n cap) xs) (h0 : 0 < xs.length) : ∃ b off, ao = some ⟨b, off, none⟩ ∧ n = xs.length ∧ b < w.heap.size ∧ ∀ (i : Nat) (hi : i < xs.length), w.cell? ⟨b, off + i * 3, none⟩ = some (.int .i64 xs[i].id) ∧ w.cell? ⟨b, off + i * 3 + 1, none⟩ = some (.int .i64 xs[i].born) ∧ w.cell? ⟨b, off + i * 3 + 2, none⟩ = some (.int .i64 xs[i].died) := by
  obtain ⟨b, off, e, hn, hb, hc⟩ := h.cells h0
  exact ⟨b, off, e, hn, hb, fun i hi => ⟨hc i hi 0 _ rfl, hc i hi 1 _ rfl, hc i hi 2 _ rfl⟩⟩
theorem sp_cells {w : World} {ao : Option Addr} {n cap : Nat} {xs : List Th} (h : SeesE spE w (.slice ao n cap) xs) (h0 : 0 < xs.length) : ∃ b off, ao = some ⟨b, off, none⟩ ∧ n = xs.length ∧ b < w.heap.size ∧ ∀ (i : Nat) (hi : i < xs.length), w.cell? ⟨b, off + i * 2, none⟩ = some (.int .i64 xs[i].born) ∧ w.cell? ⟨b, off + i * 2 + 1, none⟩ = some (.int .i64 xs[i].died) := by
  obtain ⟨b, off, e, hn, hb, hc⟩ := h.cells h0
  exact ⟨b, off, e, hn, hb, fun i hi => ⟨hc i hi 0 _ rfl, hc i hi 1 _ rfl⟩⟩
theorem enter9 {f : FuncId} {fn : Func} {c : Code} (hf : Tryz.prog.funcs[f]? = some fn) (hname : (fn.name == "runtime.NumGoroutine") = false) (hb : fn.body = some c) (args : Array Value) (w : World) :
    (callFunc f args).run Tryz.prog w = .ok (.enter f args) w := by
  have h1 : fn.name ≠ "runtime.NumGoroutine" := by simpa using hname
  simp [callFunc, hf, h1, hb]

theorem fnew_any (w : World) : Calls Tryz.prog 53 #[] w fun e w' => e = .returned (.pointer (some ⟨w.heap.size, 0, none⟩)) ∧ w' = w.alloc (.cells #[.slice none 0 0] 104) := by
  go_enter Tryz.func53, Tryz.ntmps53
  go_wp2
  go_ret
  exact ⟨rfl, rfl⟩
theorem new_book (w : World) : BookAt (w.alloc (.cells #[.slice none 0 0] 104)) w.heap.size w.heap.size (.slice none 0 0) [] :=
  ⟨(MapKept.heap_alloc w _).1, rowE_nil thE _ _ _, (bel_newG _ _).size, Nat.le_refl _⟩
theorem fall_any (pv : Value) (ps : List Th) (w : World) (h : SeesB w pv ps) :
    Calls Tryz.prog 66 #[pv] w fun e w' => ∃ v, e = .returned v ∧ SeesE thE w v ps ∧ w' = w := by
  rcases h with ⟨rfl, rfl⟩ | ⟨p, v, rfl, hp, hs⟩
  · go_enter Tryz.func66, Tryz.ntmps66
    go_wp2
    go_ret
    exact ⟨_, rfl, seesE_nil thE w, rfl⟩
  · have q0 : w.cell? ⟨p, 0, none⟩ = some v := blk_cell hp rfl
    have HS : Hid (SeesE thE w v ps) := hs
    clear hp hs
    go_enter Tryz.func66, Tryz.ntmps66
    go_wp2
    go_ret
    exact ⟨_, rfl, HS.out, rfl⟩
/-- What comparing says. -/
def cmpI (a b : Int) : Int := if a < b then -1 else if b < a then 1 else 0
theorem nan_any (x : Int) (w : World) : Calls Tryz.prog 96 #[.int .i64 x] w fun e w' => e = .returned (.bool false) ∧ w' = w := by
  go_enter Tryz.func96, Tryz.ntmps96
  go_wp2
  go_ret
  exact ⟨by simp, rfl⟩
theorem ccmp_any (a b : Int) (w : World) : Calls Tryz.prog 84 #[.int .i64 a, .int .i64 b] w fun e w' => e = .returned (.int .i64 (cmpI a b)) ∧ w' = w := by
  have HN : Hid (∀ x w, Calls Tryz.prog 96 #[.int .i64 x] w fun e w' => e = .returned (.bool false) ∧ w' = w) := nan_any
  unfold cmpI
  by_cases h1 : a < b
  · rw [if_pos h1]
    go_enter Tryz.func84, Tryz.ntmps84
    go_wp2_with (go_at_call 96; refine (HN.out _ _).mono ?_; rintro e w' ⟨rfl, rfl⟩)
    go_ret
    exact ⟨rfl, rfl⟩
  · rw [if_neg h1]
    by_cases h2 : b < a
    · rw [if_pos h2]
      go_enter Tryz.func84, Tryz.ntmps84
      go_wp2_with (go_at_call 96; refine (HN.out _ _).mono ?_; rintro e w' ⟨rfl, rfl⟩)
      go_ret
      exact ⟨rfl, rfl⟩
    · rw [if_neg h2]
      go_enter Tryz.func84, Tryz.ntmps84
      go_wp2_with (go_at_call 96; refine (HN.out _ _).mono ?_; rintro e w' ⟨rfl, rfl⟩)
      go_ret
      exact ⟨rfl, rfl⟩
theorem fcmp_any (a b c id : Int) (w : World) : Calls Tryz.prog 83 #[.agg #[.int .i64 a, .int .i64 b, .int .i64 c], .int .i64 id] w fun e w' => e = .returned (.int .i64 (cmpI a id)) ∧ Below w.heap.size w w' := by
  have HX : Hid (∀ w, Calls Tryz.prog 84 #[.int .i64 a, .int .i64 id] w fun e w' => e = .returned (.int .i64 (cmpI a id)) ∧ w' = w) := fun w => ccmp_any a id w
  go_enter Tryz.func83, Tryz.ntmps83
  go_wp2_with (go_at_call 84; refine (HX.out _).mono ?_; rintro e w' ⟨rfl, rfl⟩)
  go_ret
  exact ⟨rfl, bel_newG _ _⟩
theorem fended_any (b d : Int) (w : World) : Calls Tryz.prog 47 #[.agg #[.int .i64 b, .int .i64 d]] w fun e w' => e = .returned (.bool (!decide (d = 0))) ∧ Below w.heap.size w w' := by
  by_cases h : d = 0
  · subst h
    go_enter Tryz.func47, Tryz.ntmps47
    go_wp2
    go_ret
    exact ⟨rfl, bel_newG _ _⟩
  · have h2 : (d == 0) = false := by simpa using h
    go_enter Tryz.func47, Tryz.ntmps47
    go_wp2
    go_ret
    exact ⟨by simp [h], bel_newG _ _⟩
end Go.Proofs.YthjcmagionaepaaGreat

namespace Go.Proofs.YthjcmagionaepaaGreat
open Go.RowKit Kit
set_option linter.unusedVariables false

theorem cmpI_lt {a b : Int} : cmpI a b < 0 ↔ a < b := by
  unfold cmpI
  by_cases h1 : a < b
  · rw [if_pos h1]; omega
  · rw [if_neg h1]
    by_cases h2 : b < a
    · rw [if_pos h2]; omega
    · rw [if_neg h2]; omega
theorem cmpI_eq {a b : Int} : cmpI a b = 0 ↔ a = b := by
  unfold cmpI
  by_cases h1 : a < b
  · rw [if_pos h1]; omega
  · rw [if_neg h1]
    by_cases h2 : b < a
    · rw [if_pos h2]; omega
    · rw [if_neg h2]; omega
set_option maxRecDepth 4000 in
set_option maxHeartbeats 8000000 in
theorem fbin_any (v : Value) (ps : List Th) (s : Int) (w : World) (h : SeesE thE w v ps) (hr : Asc ps) (hsm : ps.length ≤ 100000) :
    Calls Tryz.prog 82 #[v, .int .i64 s, .func (.func 83) #[] #[]] w fun e w' => e = .returned (.tuple #[.int .i64 (lowT ps s : Nat), .bool (hasT ps s)]) ∧ Below w.heap.size w w' := by
  obtain ⟨ao, cap, rfl⟩ := h.form
  obtain ⟨n, hn⟩ : ∃ n, n = ps.length := ⟨_, rfl⟩
  rw [← hn] at h ⊢
  have lm : (n : Int) ≤ 100000 := by omega
  have HC : Hid (∀ a b c w, Calls Tryz.prog 83 #[.agg #[.int .i64 a, .int .i64 b, .int .i64 c], .int .i64 s] w fun e w' => e = .returned (.int .i64 (cmpI a s)) ∧ Below w.heap.size w w') := fun a b c w => fcmp_any a b c s w
  have H4 : Hid (SeesE thE w (.slice ao n cap) ps) := h
  have HR : Hid (Asc ps ∧ n = ps.length) := ⟨hr, hn⟩
  clear h hr hsm hn
  go_enter Tryz.func82, Tryz.ntmps82
  go_wp2
  go_loopg [9, 10] n (fun kx s9 s10 wr => ∃ lo hi : Nat, s9 = .int .i64 lo ∧ s10 = .int .i64 hi ∧ lo ≤ hi ∧ hi ≤ n ∧ hi - lo ≤ kx ∧ Hid (Below w.heap.size w wr) ∧
    Hid ((∀ j (hj : j < ps.length), j < lo → ps[j].id < s) ∧ (∀ j (hj : j < ps.length), hi ≤ j → ¬ ps[j].id < s)))
  case atStart => exact ⟨0, n, rfl, rfl, Nat.zero_le _, Nat.le_refl _, by omega, Below.refl _ _, ⟨fun j hj h => by omega, fun j hj h => by have := HR.out.2; omega⟩⟩
  case round =>
    obtain ⟨lo, hi, rfl, rfl, hlh, hin, hg, HB, HI⟩ := hrel
    by_cases hlt : lo < hi
    · obtain ⟨b, off, hao, hnn, hb, hc⟩ := th_cells H4.out (by have := HR.out.2; omega)
      clear hnn
      subst hao
      obtain ⟨m, hm⟩ : ∃ m : Nat, m = (lo + hi) / 2 := ⟨_, rfl⟩
      have hm2 : ((lo : Int) + (hi : Int)) / 2 = (m : Int) := by omega
      have ml : m < ps.length := by have := HR.out.2; omega
      have mi : (m : Int) < (n : Int) := by have := HR.out.2; omega
      obtain ⟨c0, c1, c2⟩ := hc m ml
      obtain ⟨t, ht⟩ : ∃ t, ps[m] = t := ⟨_, rfl⟩
      rw [ht] at c0 c1 c2
      have HX : Hid (ps[m].id = t.id) := by rw [ht]; exact rfl
      obtain ⟨x, y, z⟩ := t
      simp only at c0 c1 c2 HX
      have c0 := (HB.out.cell hb).trans c0
      have c1 := (HB.out.cell hb).trans c1
      have c2 := (HB.out.cell hb).trans c2
      have HM : Hid (m = (lo + hi) / 2) := hm
      clear hc hm ht
      by_cases hyx : cmpI x s < 0
      · go_wp2_with (go_at_call 83; refine (HC.out _ _ _ _).mono ?_; rintro e w' ⟨rfl, hbe⟩; have HBE : Hid (Below wr.heap.size wr w') := hbe; clear hbe)
        go_roundg (hi - (m + 1))
        case measure => have := HM.out; omega
        case rel =>
          have := HM.out
          refine ⟨m + 1, hi, by simp, rfl, by omega, hin, Nat.le_refl _, bel_tr HB.out HBE.out, ⟨fun j hj hl => ?_, HI.out.2⟩⟩
          have hx := cmpI_lt.1 hyx
          by_cases e : j = m
          · subst e; rw [HX.out]; exact hx
          · have h1 := List.pairwise_iff_getElem.1 HR.out.1 j m (by simpa using hj) (by simpa using ml) (by omega)
            rw [HX.out] at h1
            omega
      · have HY : Hid (¬ cmpI x s < 0) := hyx
        go_wp2_with (go_at_call 83; refine (HC.out _ _ _ _).mono ?_; rintro e w' ⟨rfl, hbe⟩; have HBE : Hid (Below wr.heap.size wr w') := hbe; clear hbe)
        go_roundg (m - lo)
        case measure => have := HM.out; omega
        case rel =>
          have := HM.out
          refine ⟨lo, m, rfl, rfl, by omega, by omega, Nat.le_refl _, bel_tr HB.out HBE.out, ⟨HI.out.1, fun j hj hl => ?_⟩⟩
          have hx : s ≤ x := by
            have h0 : 0 ≤ cmpI x s := HY.out
            have h1 := (cmpI_lt (a := x) (b := s)).2
            omega
          by_cases e : j = m
          · subst e; rw [HX.out]; omega
          · have h1 := List.pairwise_iff_getElem.1 HR.out.1 m j (by simpa using ml) (by simpa using hj) (by omega)
            rw [HX.out] at h1
            omega
    · obtain rfl : lo = hi := by omega
      have HL : Hid (lowT ps s = lo) := low_ofT HR.out.1 (by have := HR.out.2; omega) HI.out.1 HI.out.2
      have HM := low_memT (id := s) HR.out.1
      rw [HL.out] at HM
      by_cases hn : lo < ps.length
      · obtain ⟨b, off, hao, hnn, hb, hc⟩ := th_cells H4.out (by omega)
        clear hnn
        subst hao
        have mi : (lo : Int) < (n : Int) := by have := HR.out.2; omega
        obtain ⟨c0, c1, c2⟩ := hc lo hn
        obtain ⟨t, ht⟩ : ∃ t, ps[lo] = t := ⟨_, rfl⟩
        rw [ht] at c0 c1 c2
        have HB2 : Hid (hasT ps s = decide (cmpI t.id s = 0)) := by
          show _ = _
          rw [Bool.eq_iff_iff, HM, decide_eq_true_iff, cmpI_eq, ← ht]
          exact ⟨fun ⟨_, h⟩ => h, fun h => ⟨hn, h⟩⟩
        obtain ⟨x, y, z⟩ := t
        simp only at c0 c1 c2 HB2
        have c0 := (HB.out.cell hb).trans c0
        have c1 := (HB.out.cell hb).trans c1
        have c2 := (HB.out.cell hb).trans c2
        clear hc HM ht
        by_cases hyx : cmpI x s = 0
        · have HB3 : Hid (hasT ps s = true) := by show _ = _; rw [HB2.out]; exact decide_eq_true hyx
          clear HB2
          go_wp2_with (go_at_call 83; refine (HC.out _ _ _ _).mono ?_; rintro e w' ⟨rfl, hbe⟩; have HBE : Hid (Below wr.heap.size wr w') := hbe; clear hbe)
          go_ret2
          exact ⟨by rw [HL.out, HB3.out]; rfl, bel_tr HB.out HBE.out⟩
        · have HB3 : Hid (hasT ps s = false) := by show _ = _; rw [HB2.out]; exact decide_eq_false hyx
          clear HB2
          have hye : (cmpI x s == 0) = false := beq_eq_false_iff_ne.2 hyx
          go_wp2_with (go_at_call 83; refine (HC.out _ _ _ _).mono ?_; rintro e w' ⟨rfl, hbe⟩; have HBE : Hid (Below wr.heap.size wr w') := hbe; clear hbe)
          go_ret2
          exact ⟨by rw [HL.out, HB3.out]; rfl, bel_tr HB.out HBE.out⟩
      · have HF : Hid (hasT ps s = false) := by
          show _ = _
          rw [Bool.eq_false_iff]
          intro h
          obtain ⟨h1, _⟩ := HM.1 h
          omega
        have mi : ¬ (lo : Int) < (n : Int) := by have := HR.out.2; omega
        clear HM
        go_wp2
        go_ret2
        exact ⟨by rw [HL.out, HF.out]; rfl, HB.out⟩
set_option maxRecDepth 4000 in
set_option maxHeartbeats 4000000 in
theorem fplace_any (pv : Value) (ps : List Th) (s : Int) (w : World) (h : SeesB w pv ps) (hr : Asc ps) (hsm : ps.length ≤ 100000) :
    Calls Tryz.prog 64 #[pv, .int .i64 s] w fun e w' => e = .returned (.tuple #[.int .i64 (lowT ps s : Nat), .bool (hasT ps s)]) ∧ Below w.heap.size w w' := by
  have HA : Hid (Calls Tryz.prog 66 #[pv] w fun e w' => ∃ v, e = .returned v ∧ SeesE thE w v ps ∧ w' = w) := fall_any pv ps w h
  have HB : Hid (∀ v, SeesE thE w v ps → Calls Tryz.prog 82 #[v, .int .i64 s, .func (.func 83) #[] #[]] w fun e w' => e = .returned (.tuple #[.int .i64 (lowT ps s : Nat), .bool (hasT ps s)]) ∧ Below w.heap.size w w') := fun v hv => fbin_any v ps s w hv hr hsm
  clear h hr hsm
  go_enter Tryz.func64, Tryz.ntmps64
  go_wp2_with fail
  go_at_call 66
  refine HA.out.mono ?_
  rintro e w1 ⟨v, rfl, hs, hw⟩
  subst w1
  have HS : Hid (SeesE thE w v ps) := hs
  clear hs HA
  go_wp2_with fail
  go_at_call 82
  refine (HB.out _ HS.out).mono ?_
  rintro e w2 ⟨rfl, hb⟩
  go_wp2
  go_ret2
  exact ⟨rfl, hb⟩
end Go.Proofs.YthjcmagionaepaaGreat

namespace Go.Proofs.YthjcmagionaepaaGreat
open Go.RowKit Kit
set_option linter.unusedVariables false

theorem infoI9 : (Tryz.prog.info? 3).map (fun i => (i.zero, i.size, i.bytes)) = some (some (.int .i64 0), 1, 8) := by kernel_rfl

theorem fholds_any (b d e : Int) (w : World) : Calls Tryz.prog 33 #[.agg #[.int .i64 b, .int .i64 d], .int .i64 e] w fun r w' => r = .returned (.bool (holdsB b d e)) ∧ Below w.heap.size w w' := by
  unfold holdsB
  by_cases h1 : b ≤ e
  · have HE : Hid (∀ w, Calls Tryz.prog 47 #[.agg #[.int .i64 b, .int .i64 d]] w fun r w' => r = .returned (.bool (!decide (d = 0))) ∧ Below w.heap.size w w') := fun w => fended_any b d w
    by_cases h2 : d = 0
    · subst h2
      go_enter Tryz.func33, Tryz.ntmps33
      go_wp2_with fail
      go_at_call 47
      refine (HE.out _).mono ?_
      rintro r w2 ⟨rfl, hb⟩
      have HB : Hid (Below w.heap.size w w2) := bel_tr (bel_newG _ _) hb
      clear hb
      go_wp2
      go_ret
      exact ⟨by simp [h1], HB.out⟩
    · by_cases h3 : e < d
      · go_enter Tryz.func33, Tryz.ntmps33
        go_wp2_with fail
        go_at_call 47
        refine (HE.out _).mono ?_
        rintro r w2 ⟨rfl, hb⟩
        have HB : Hid (Below w.heap.size w w2) := bel_tr (bel_newG _ _) hb
        have hbk : w2.heap[w.heap.size]? = some (.cells #[.int .i64 b, .int .i64 d] 47) := blk_below hb (MapKept.heap_alloc w _).1
        have c1 : w2.cell? ⟨w.heap.size, 1, none⟩ = some (.int .i64 d) := blk_cell hbk rfl
        clear hb hbk
        go_wp2
        go_ret
        exact ⟨by simp [h1, h2, h3], HB.out⟩
      · go_enter Tryz.func33, Tryz.ntmps33
        go_wp2_with fail
        go_at_call 47
        refine (HE.out _).mono ?_
        rintro r w2 ⟨rfl, hb⟩
        have HB : Hid (Below w.heap.size w w2) := bel_tr (bel_newG _ _) hb
        have hbk : w2.heap[w.heap.size]? = some (.cells #[.int .i64 b, .int .i64 d] 47) := blk_below hb (MapKept.heap_alloc w _).1
        have c1 : w2.cell? ⟨w.heap.size, 1, none⟩ = some (.int .i64 d) := blk_cell hbk rfl
        clear hb hbk
        go_wp2
        go_ret
        exact ⟨by simp [h2]; omega, HB.out⟩
  · go_enter Tryz.func33, Tryz.ntmps33
    go_wp2
    go_ret
    have h9 : ¬ b ≤ e := by omega
    exact ⟨by simp [h9], bel_newG _ _⟩
theorem ids_snoc (f : Th → Bool) (l : List Th) (i : Nat) (h : i < l.length) : idsT f (l.take (i + 1)) = idsT f (l.take i) ++ (if f l[i] then [l[i].id] else []) := by
  unfold idsT
  rw [List.take_succ_eq_append_getElem h, List.filter_append, List.map_append]
  congr 1
  by_cases hf : f l[i] = true
  · rw [List.filter_cons_of_pos hf, if_pos hf]; rfl
  · rw [List.filter_cons_of_neg hf, if_neg hf]; rfl
theorem ids_len (f : Th → Bool) (l : List Th) : (idsT f l).length ≤ l.length := by
  unfold idsT
  rw [List.length_map]
  exact List.length_filter_le _ _
theorem iV_snoc (a : List Int) (x : Int) : iV (a ++ [x]) = iV a ++ [.int .i64 x] := by simp [iV]
set_option maxRecDepth 4000 in
set_option maxHeartbeats 8000000 in
/-- The numbers of the things of whose spans something is true. -/
theorem fids_any (g : Nat) (cb : Array Value) (f : Th → Bool) (pv : Value) (ps : List Th) (w : World) (h : SeesB w pv ps) (hsm : ps.length ≤ 100000) (hg : ∀ args w, (callFunc g args).run Tryz.prog w = .ok (.enter g args) w)
    (hf : ∀ (W : World) (t : Th), Below w.heap.size w W → t ∈ ps → Calls Tryz.prog g (#[.agg #[.int .i64 t.born, .int .i64 t.died]] ++ cb) W fun e w' => e = .returned (.bool (f t)) ∧ Below W.heap.size W w') :
    Calls Tryz.prog 56 #[pv, .func (.func g) #[] cb] w fun e w' => ∃ r, e = .returned r ∧ RowV w' w.heap.size 3 r (iV (idsT f ps)) ∧ Below w.heap.size w w' := by
  have HF : Hid _ := hf
  have HA : Hid (Calls Tryz.prog 66 #[pv] w fun e w' => ∃ v, e = .returned v ∧ SeesE thE w v ps ∧ w' = w) := fall_any pv ps w h
  clear h hf
  go_enter Tryz.func56, Tryz.ntmps56
  go_wp2_with fail
  go_at_call 66
  refine HA.out.mono ?_
  rintro e w1 ⟨v, rfl, hs, hw⟩
  subst w1
  obtain ⟨ao, cap, rfl⟩ := hs.form
  obtain ⟨n, hn⟩ : ∃ n, n = ps.length := ⟨_, rfl⟩
  rw [← hn] at hs ⊢
  have HS : Hid (SeesE thE w (.slice ao n cap) ps) := hs
  have HN : Hid (n = ps.length ∧ n ≤ 100000) := ⟨hn, by omega⟩
  have hnm : (n : Int) ≤ 100000 := by omega
  clear hs HA hn hsm
  go_wp2_with fail
  go_loopw [5, 11] (fun s5 s11 wr => ∃ i : Nat, i ≤ n ∧ s11 = .int .i64 (i : Int) ∧ Hid (RowV wr w.heap.size 3 s5 (iV (idsT f (ps.take i))) ∧ Below w.heap.size w wr)) (fun _ s11 _ => n - (intOf s11).toNat)
  case atStart => exact ⟨0, Nat.zero_le _, rfl, rowV_nil _ _ _, Below.refl _ _⟩
  case round =>
    obtain ⟨wa, hwa⟩ : ∃ z, z = wr := ⟨_, rfl⟩
    subst hwa
    obtain ⟨i, hi, rfl, HR⟩ := hrel
    by_cases hlt : i < n
    · have hil : i < ps.length := by have := HN.out.1; omega
      have hii : (i : Int) < (n : Int) := by omega
      have hi0 : (0 : Int) ≤ (i : Int) := by omega
      obtain ⟨b, off, e, hnn, hb, hc⟩ := th_cells HS.out (by omega)
      subst e
      obtain ⟨c0, c1, c2⟩ := hc i hil
      have HSN : Hid (idsT f (ps.take (i + 1)) = idsT f (ps.take i) ++ (if f ps[i] then [ps[i].id] else [])) := ids_snoc f ps i hil
      have HL : Hid ((idsT f (ps.take i)).length ≤ 100000) := by
        have h1 := ids_len f (ps.take i)
        rw [List.length_take] at h1
        have := HN.out.2
        show _ ≤ _
        omega
      have HFT : Hid (∀ W, Below wa.heap.size wa W → Calls Tryz.prog g (#[.agg #[.int .i64 ps[i].born, .int .i64 ps[i].died]] ++ cb) W fun e w' => e = .returned (.bool (f ps[i])) ∧ Below W.heap.size W w') := fun W hb => HF.out W ps[i] (bel_tr HR.out.2 hb) (List.getElem_mem hil)
      obtain ⟨t, ht⟩ : ∃ t, t = ps[i] := ⟨_, rfl⟩
      rw [← ht] at c0 c1 c2 HSN HFT
      clear ht hc hnn
      obtain ⟨x, y, z⟩ := t
      simp only at c0 c1 c2 HSN HFT
      have c0 := (HR.out.2.cell (by exact hb)).trans c0
      have c1 := (HR.out.2.cell (by exact hb)).trans c1
      have c2 := (HR.out.2.cell (by exact hb)).trans c2
      cases hft : f ⟨x, y, z⟩ with
      | false =>
        rw [hft] at HSN HFT
        have HSM : Hid (idsT f (ps.take (i + 1)) = idsT f (ps.take i)) := by have := HSN.out; show _ = _; rw [this]; simp
        clear HSN
        go_wp2_with fail
        go_at_fn g
        refine (HFT.out _ (bel_newG _ _)).mono ?_
        rintro e w2 ⟨rfl, hb2⟩
        have HB2 : Hid (Below wa.heap.size wa w2) := bel_tr (bel_newG _ _) hb2
        clear hb2
        go_wp2_with fail
        go_roundw
        case rel => exact ⟨i + 1, by omega, by go_num, by rw [HSM.out]; exact HR.out.1.below HB2.out, bel_tr HR.out.2 HB2.out⟩
        case measure => simp [intOf]; omega
      | true =>
        rw [hft] at HSN HFT
        have HSM : Hid (iV (idsT f (ps.take (i + 1))) = iV (idsT f (ps.take i)) ++ [.int .i64 x]) := by have := HSN.out; show _ = _; rw [this]; exact iV_snoc _ _
        clear HSN
        go_wp2_with fail
        go_at_fn g
        refine (HFT.out _ (bel_newG _ _)).mono ?_
        rintro e w2 ⟨rfl, hb2⟩
        have HB2 : Hid (Below wa.heap.size wa w2) := bel_tr (bel_newG _ _) hb2
        have hbk : w2.heap[wa.heap.size]? = some (.cells #[.int .i64 x, .int .i64 y, .int .i64 z] 108) := blk_below hb2 (MapKept.heap_alloc wa _).1
        have d0 : w2.cell? ⟨wa.heap.size, 0, none⟩ = some (.int .i64 x) := blk_cell hbk rfl
        have hl2 : wa.heap.size < w2.heap.size := blk_lt hbk
        clear hb2 hbk c0 c1 c2
        go_wp2_with (at_builtin; refine wpList_appV Tryz.underlying32 infoI9 rfl (by decide) rfl _ _ rfl w.heap.size u5 (iV (idsT f (ps.take i))) rfl ?r1 (.slice (some ⟨w2.heap.size, 0, none⟩) 1 1) [.int .i64 x] rfl ?s1 ?c1 ?c2 ?c3 ?_)
        case r1 => exact (HR.out.1.below HB2.out).below (bel_newG _ _)
        case s1 => exact sees_one _ _ _ _ rfl
        case c1 => first | rfl | (intro y hy; simp at hy; subst hy; rfl)
        case c2 => have := HL.out; rw [iV_len]; simp; omega
        case c3 => have h1 := HR.out.2.size; have h2 := HB2.out.size; simp; omega
        intro l3 w3 hr3 hb3
        have HB3 : Hid (RowV w3 w.heap.size 3 l3 (iV (idsT f (ps.take (i + 1)))) ∧ Below w.heap.size w w3) := ⟨by rw [HSM.out]; exact hr3, Below.trans (Below.alloc (bel_tr HR.out.2 HB2.out) (by have h1 := HR.out.2.size; have h2 := HB2.out.size; omega) _) hb3⟩
        clear hr3 hb3
        go_wp2_with fail
        go_roundw
        case rel => exact ⟨i + 1, by omega, by go_num, HB3.out⟩
        case measure => simp [intOf]; omega
    · have hin : ¬ (i : Int) < (n : Int) := by omega
      have HE : Hid (RowV wa w.heap.size 3 u5 (iV (idsT f ps)) ∧ Below w.heap.size w wa) := by
        have h1 := HR.out
        rw [List.take_of_length_le (by have := HN.out.1; omega)] at h1
        exact h1
      go_wp2_with fail
      go_ret
      exact ⟨_, rfl, HE.out⟩
end Go.Proofs.YthjcmagionaepaaGreat

namespace Go.Proofs.YthjcmagionaepaaGreat
open Go.RowKit Kit
set_option linter.unusedVariables false

theorem infoTh : (Tryz.prog.info? 108).map (fun i => (i.zero, i.size, i.bytes)) = some (some (.agg #[.int .i64 0, .int .i64 0, .int .i64 0]), 3, 24) := by kernel_rfl
theorem sizeTh : (Tryz.prog.info? 108).map (·.size) = some thE.k := by kernel_rfl
theorem zeroTh : ∀ u ∈ (Value.agg #[.int .i64 0, .int .i64 0, .int .i64 0]).cells.toList, u.oneCell' = true := by
  intro u hu
  simp [Value.cells] at hu
  rw [hu]; rfl
theorem bel_drew (w : World) : Below w.heap.size w w.drew := (Below.refl _ w).drew
/-- What a slice from j on shows, whatever the room. -/
theorem from_sees {w : World} {B g n cap : Nat} {xs : List Th} (h : RowE thE w B 108 (.slice (some ⟨g, 0, none⟩) n cap) xs) (j : Nat) (hj : j ≤ n) :
    ∃ A : Addr, (if cap = j then some (⟨g, 0, none⟩ : Addr) else some ⟨g, j * 3, none⟩) = some A ∧ Hid (SeesE thE w (.slice (some A) (n - j) (cap - j)) (xs.drop j)) := by
  obtain ⟨_, h2, h3, h4, _⟩ := rowE_un h
  by_cases hc : cap = j
  · refine ⟨_, by rw [if_pos hc], ?_⟩
    have : xs.drop j = [] := List.drop_eq_nil_of_le (by omega)
    show SeesE _ _ _ _
    rw [this, show n - j = 0 by omega, show cap - j = 0 by omega]
    exact ⟨_, 0, rfl, Nat.le_refl _, Nat.zero_le _, by simp, fun h => absurd h (by simp)⟩
  · exact ⟨_, by rw [if_neg hc]; rfl, h.from j hj⟩
end Go.Proofs.YthjcmagionaepaaGreat

namespace Go.Proofs.YthjcmagionaepaaGreat
open Go.RowKit Kit
set_option linter.unusedVariables false

theorem ins_list (xs : List Th) (i : Nat) (y : Th) (hi : i < xs.length) :
    List.take i (List.take (i + 1) xs ++ List.drop i xs ++ List.drop (i + 1 + (List.drop i xs).length) xs) ++ [y] ++ List.drop (i + [y].length) (List.take (i + 1) xs ++ List.drop i xs ++ List.drop (i + 1 + (List.drop i xs).length) xs) = xs.take i ++ [y] ++ xs.drop i := by
  have h1 : List.drop (i + 1 + (List.drop i xs).length) xs = [] := List.drop_eq_nil_of_le (by rw [List.length_drop]; omega)
  have h2 : (List.take (i + 1) xs).length = i + 1 := by rw [List.length_take]; omega
  rw [h1, List.append_nil, List.take_append_of_le_length (by omega), List.take_take, Nat.min_eq_left (by omega)]
  congr 1
  show List.drop (i + 1) _ = _
  rw [List.drop_append, h2, Nat.sub_self, List.drop_zero, List.drop_of_length_le (by omega), List.nil_append]
theorem over_no (w : World) (H g o lb cb : Nat) (y : Th) (hu : w.heap[H]? = some (.cells (thE.c y).toArray 108)) (cur : Array Value) (hg : w.heap[g]? = some (.cells cur 108)) (h0 : cur.size ≠ 0) (hne : H ≠ g) :
    (callFunc 85 #[.slice (some ⟨H, 0, none⟩) 1 1, .slice (some ⟨g, o, none⟩) lb cb]).run Tryz.prog w = .ok (.value (.bool false)) w := by
  rw [run_callFunc_extern Tryz.func85 (by kernel_rfl) (by kernel_rfl) (by kernel_rfl) (e := Extern.SlicesOverlaps.overlaps #[102, 102] #[4]) (by kernel_rfl),
    Lib.run_overlaps_apart w 102 4 108 Tryz.underlying102 3 Tryz.sizeOf108 ⟨H, 0, none⟩ ⟨g, o, none⟩ 1 1 lb cb hne 108 108 3 cur.size (by simp [World.shape?, hu]; rfl) (by simp [World.shape?, hg]) h0 (by simp [World.frozen?, hu]) (by simp [World.frozen?, hu])]
  rfl
theorem sins_nil (v : Value) (B i : Nat) (xs : List Th) (w : World) (h : RowE thE w B 108 v xs) (hi : i ≤ xs.length) :
    Calls Tryz.prog 65 #[v, .int .i64 (i : Int), .slice none 0 0] w fun e w' => e = .returned v ∧ w' = w := by
  obtain ⟨h1, h2⟩ := h
  rcases h2 with ⟨rfl, h2⟩ | ⟨g, cap, cur, rfl, hg, hh, h3, h4, h5, h6⟩
  · obtain rfl : i = 0 := by omega
    go_enter Tryz.func65, Tryz.ntmps65
    go_wp2
    go_ret
    exact ⟨rfl, rfl⟩
  · obtain ⟨n, hn⟩ : ∃ n, n = xs.length := ⟨_, rfl⟩
    rw [← hn] at hi h3 ⊢
    have hm : cap ≤ 9223372036854775807 := h4
    have hin : (i : Int) ≤ (n : Int) := by omega
    have hi0 : (0 : Int) ≤ (i : Int) := by omega
    have hic : i ≤ cap := by omega
    clear h1 h6 h5 hn hh
    go_enter Tryz.func65, Tryz.ntmps65
    go_wp2
    all_goals (go_ret; exact ⟨rfl, rfl⟩)
/-- At the end. -/
theorem sins_end (v : Value) (B H : Nat) (xs : List Th) (y : Th) (w : World) (h : RowE thE w B 108 v xs) (hB : B ≤ w.heap.size) (hl : xs.length ≤ 1000) (hu : SeesE thE w (.slice (some ⟨H, 0, none⟩) 1 1) [y]) :
    Calls Tryz.prog 65 #[v, .int .i64 (xs.length : Int), .slice (some ⟨H, 0, none⟩) 1 1] w fun e w' => ∃ v', e = .returned v' ∧ RowE thE w' B 108 v' (xs ++ [y]) ∧ w.grownBy w' v.ownBlock ∧ ∀ k, v'.ownBlock = some k → v.ownBlock = some k ∨ w.heap.size ≤ k := by
  have HR : Hid (RowE thE w B 108 v xs) := h
  have HU : Hid (SeesE thE w (.slice (some ⟨H, 0, none⟩) 1 1) [y]) := hu
  have HL : Hid (xs.length + [y].length ≤ maxLen ∧ (xs.length + [y].length) * 24 ≤ 140737488355328) := ⟨by simp; unfold maxLen; omega, by simp; omega⟩
  obtain ⟨h1, h2⟩ := h
  rcases h2 with ⟨rfl, h2⟩ | ⟨g, cap, cur, rfl, hg, hh, h3, h4, h5, h6⟩
  · rw [h2]
    clear h1 hu
    go_enter Tryz.func65, Tryz.ntmps65
    go_wp2_with (at_builtin; refine wpList_appF (E := thE) Tryz.underlying102 infoTh rfl rfl _ _ rfl B _ xs rfl HR.out _ [y] rfl HU.out HL.out.1 HL.out.2 hB ?_; intro v1 w1 k1 k2 k3)
    go_ret
    exact ⟨v1, rfl, k1, k2, k3⟩
  · obtain ⟨n, hn⟩ : ∃ n, n = xs.length := ⟨_, rfl⟩
    rw [← hn] at h3 HR ⊢
    have hm : cap ≤ 9223372036854775807 := h4
    have hin : (n : Int) ≤ (n : Int) := by omega
    have hi0 : (0 : Int) ≤ (n : Int) := by omega
    have hic : n ≤ cap := by omega
    clear h1 h6 h5 hn hh hu
    go_enter Tryz.func65, Tryz.ntmps65
    go_wp2_with (at_builtin; refine wpList_appF (E := thE) Tryz.underlying102 infoTh rfl rfl _ _ rfl B _ xs rfl HR.out _ [y] rfl HU.out HL.out.1 HL.out.2 hB ?_; intro v1 w1 k1 k2 k3)
    all_goals (
      go_ret
      exact ⟨v1, rfl, k1, k2, k3⟩)
set_option maxRecDepth 4000 in
set_option maxHeartbeats 4000000 in
/-- In the midst, where there is room. -/
theorem sins_room (B g n cap i H : Nat) (xs : List Th) (y : Th) (w : World) (h : RowE thE w B 108 (.slice (some ⟨g, 0, none⟩) n cap) xs) (hi : i < n) (hroom : n + 1 ≤ cap) (hu : w.heap[H]? = some (.cells (thE.c y).toArray 108)) (hne : H ≠ g) (hs : SeesE thE w (.slice (some ⟨H, 0, none⟩) 1 1) [y]) :
    Calls Tryz.prog 65 #[.slice (some ⟨g, 0, none⟩) n cap, .int .i64 (i : Int), .slice (some ⟨H, 0, none⟩) 1 1] w fun e w' => ∃ v', e = .returned v' ∧ v'.ownBlock = some g ∧ RowE thE w' B 108 v' (xs.take i ++ [y] ++ xs.drop i) ∧ w.grownBy w' (some g) := by
  obtain ⟨u1, u2, u3, u4, u5, cur, u6, u7, u8⟩ := rowE_un h
  have hm : cap ≤ 9223372036854775807 := u4
  have HOV : Hid (∀ lb cb, (callFunc 85 #[.slice (some ⟨H, 0, none⟩) 1 1, .slice (some ⟨g, (i + 1) * 3, none⟩) lb cb]).run Tryz.prog w = .ok (.value (.bool false)) w) := fun lb cb => over_no w H g _ lb cb y hu cur u6 (by rw [u7]; show cap * 3 ≠ 0; omega) hne
  have HR : Hid (RowE thE w.drew B 108 (.slice (some ⟨g, 0, none⟩) n cap) xs) := h.below (bel_drew w)
  have HS : Hid (SeesE thE w.drew (.slice (some ⟨g, i * 3, none⟩) (n - i) (cap - i)) (xs.drop i)) := (h.below (bel_drew w)).from i (by omega)
  have HL : Hid ((xs.drop i).length = n - i) := by show _ = _; rw [List.length_drop]; omega
  have HU : Hid (SeesE thE w (.slice (some ⟨H, 0, none⟩) 1 1) [y]) := hs
  have HI : Hid (i < xs.length) := by show _ < _; omega
  have HW : Hid (w.heap[H]? = some (.cells (thE.c y).toArray 108)) := hu
  have hi1 : (i : Int) ≤ (n : Int) := by omega
  have hi2 : ¬ ((i : Int) = (n : Int)) := by omega
  have hi0 : (0 : Int) ≤ (i : Int) := by omega
  have hi3 : (0 : Int) ≤ (i : Int) + 1 := by omega
  have hi5 : (i : Int) ≤ (n : Int) + 1 := by omega
  have hi4 : (i : Int) + 1 ≤ (n : Int) + 1 := by omega
  have hcap : ¬ ((cap : Int) < (n : Int) + 1) := by omega
  have hw1 : IntKind.i64.wrap ((i : Int) + 1) = (i : Int) + 1 := by rw [IntKind.wrap_i64]; omega
  have hw2 : IntKind.i64.wrap ((n : Int) + 1) = (n : Int) + 1 := by rw [IntKind.wrap_i64]; omega
  have htn : ((i : Int) + 1).toNat = i + 1 := by omega
  have htn2 : ((n : Int) + 1).toNat = n + 1 := by omega
  have hc1 : ¬ (cap = i) := by omega
  have hc2 : ¬ (cap = i + 1) := by omega
  have hn0 : (0 : Int) ≤ (n : Int) + 1 := by omega
  have hn1 : (n : Int) + 1 ≤ (cap : Int) := by omega
  clear h u6 u7 u8 u4 hu hs u2
  have hov := HOV.out
  go_enter Tryz.func65, Tryz.ntmps65
  go_wp2_with (simp only [hov])
  clear hov
  go_region_law (refine step_copyE (E := thE) Tryz.underlying102 sizeTh (by rfl) (.tmp 73) (.tmp 76) (by rfl) HR.out (i + 1) (n - i) (cap - (i + 1)) (by omega) (by omega) (by simp [Act.eval, Act.put]; try rfl) (some ⟨g, i * 3, none⟩) (n + 1 - i) (cap - i) (by simp [Act.eval, Act.put]) (xs.drop i) (by rw [HL.out]; exact HS.out) (by rw [HL.out]; exact Nat.min_eq_right (by omega)) (n + 1) (by rw [HL.out]; omega) ?_; intro w1 k1 k2)
  have HK : Hid (RowE thE w1 B 108 (.slice (some ⟨g, 0, none⟩) (n + 1) cap) _ ∧ w.grownBy w1 (some g) ∧ SeesE thE w1 (.slice (some ⟨H, 0, none⟩) 1 1) [y]) := ⟨k1, ⟨k2.os, k2.tape, k2.output, k2.size, k2.block⟩, seesE_at thE (by rw [k2.block H (blk_lt HW.out) (by simpa using hne)]; exact HW.out)⟩
  clear k1 k2
  obtain ⟨w2, hcp, k1, k2⟩ := run_copyW (E := thE) Tryz.underlying102 sizeTh HK.out.1 i (n + 1 - i) (cap - i) (by omega) (by omega) (some ⟨H, 0, none⟩) 1 1 [y] HK.out.2.2 (Nat.min_eq_left (by omega)) (n + 1) (by have : ([y] : List Th).length = 1 := rfl; omega)
  have hcp : ∀ ty, (Builtin.copy_ #[102, 102] ty #[.slice (some ⟨g, i * 3, none⟩) (n + 1 - i) (cap - i), .slice (some ⟨H, 0, none⟩) 1 1]).run Tryz.prog w1 = .ok (goInt 1) w2 := hcp
  have HZ : Hid (RowE thE w2 B 108 (.slice (some ⟨g, 0, none⟩) (n + 1) cap) _ ∧ w1.grownBy w2 (some g)) := ⟨k1, k2⟩
  clear k1 k2
  go_wp2_with fail
  go_ret
  obtain ⟨k1, k2⟩ := HZ.out
  rw [ins_list xs i y HI.out] at k1
  have h2 := HK.out.2.1
  exact ⟨_, rfl, rfl, k1, ⟨k2.os.trans h2.os, k2.tape.trans h2.tape, k2.output.trans h2.output, Nat.le_trans h2.size k2.size, fun k hk hne => (k2.block k (Nat.lt_of_lt_of_le hk h2.size) hne).trans (h2.block k hk hne)⟩⟩
theorem grow_list (xs : List Th) (i k : Nat) (ys zs : List Th) (z : Th) (hi : i ≤ xs.length) (hk : k = ys.length + zs.length) :
    List.take (i + ys.length) (List.take i (List.take i xs ++ List.replicate k z) ++ ys ++ List.drop (i + ys.length) (List.take i xs ++ List.replicate k z)) ++ zs ++ List.drop (i + ys.length + zs.length) (List.take i (List.take i xs ++ List.replicate k z) ++ ys ++ List.drop (i + ys.length) (List.take i xs ++ List.replicate k z)) = xs.take i ++ ys ++ zs := by
  have h1 : (List.take i xs).length = i := by rw [List.length_take]; omega
  have h2 : List.take i (List.take i xs ++ List.replicate k z) = List.take i xs := by rw [List.take_append_of_le_length (by omega), List.take_take, Nat.min_self]
  have h3 : (List.take i xs ++ List.replicate k z).length = i + k := by rw [List.length_append, h1, List.length_replicate]
  rw [h2]
  have h4 : (List.take i xs ++ ys).length = i + ys.length := by rw [List.length_append, h1]
  rw [List.take_append_of_le_length (by omega), List.take_of_length_le (by omega)]
  rw [List.drop_append, List.drop_of_length_le (by omega), List.nil_append, h4, List.drop_drop, List.drop_of_length_le (by omega), List.append_nil]
set_option maxRecDepth 4000 in
set_option maxHeartbeats 4000000 in
/-- In the midst, where there is no room. -/
theorem sins_grow (B g n cap i H : Nat) (xs : List Th) (y : Th) (w : World) (h : RowE thE w B 108 (.slice (some ⟨g, 0, none⟩) n cap) xs) (hB : B ≤ w.heap.size) (hi : i < n) (hl : n ≤ 1000) (hroom : cap < n + 1) (hu : w.heap[H]? = some (.cells (thE.c y).toArray 108)) :
    Calls Tryz.prog 65 #[.slice (some ⟨g, 0, none⟩) n cap, .int .i64 (i : Int), .slice (some ⟨H, 0, none⟩) 1 1] w fun e w' => ∃ v', e = .returned v' ∧ RowE thE w' B 108 v' (xs.take i ++ [y] ++ xs.drop i) ∧ Below w.heap.size w w' ∧ ∀ k, v'.ownBlock = some k → w.heap.size ≤ k := by
  obtain ⟨u1, u2, u3, u4, u5, _⟩ := rowE_un h
  have hm : cap ≤ 9223372036854775807 := u4
  have HR : Hid (RowE thE w B 108 (.slice (some ⟨g, 0, none⟩) i cap) (xs.take i)) := h.take i (by omega)
  have HS : Hid (SeesE thE w (.slice (some ⟨g, i * 3, none⟩) (n - i) (cap - i)) (xs.drop i)) := h.from i (by omega)
  have HL : Hid ((xs.drop i).length = n - i) := by show _ = _; rw [List.length_drop]; omega
  have HI : Hid (i < xs.length) := by show _ < _; omega
  have HW : Hid (w.heap[H]? = some (.cells (thE.c y).toArray 108)) := hu
  have hi1 : (i : Int) ≤ (n : Int) := by omega
  have hi2 : ¬ ((i : Int) = (n : Int)) := by omega
  have hi0 : (0 : Int) ≤ (i : Int) := by omega
  have hi3 : (0 : Int) ≤ (i : Int) + 1 := by omega
  have hi5 : (i : Int) ≤ (n : Int) + 1 := by omega
  have hi4 : (i : Int) + 1 ≤ (n : Int) + 1 := by omega
  have hic : (i : Int) ≤ (cap : Int) := by omega
  have hcap : (cap : Int) < (n : Int) + 1 := by omega
  have hw1 : IntKind.i64.wrap ((i : Int) + 1) = (i : Int) + 1 := by rw [IntKind.wrap_i64]; omega
  have hw2 : IntKind.i64.wrap ((n : Int) + 1) = (n : Int) + 1 := by rw [IntKind.wrap_i64]; omega
  have hw3 : IntKind.i64.wrap ((n : Int) + 1 - (i : Int)) = (n : Int) + 1 - (i : Int) := by rw [IntKind.wrap_i64]; omega
  have htn : ((i : Int) + 1).toNat = i + 1 := by omega
  have hc1 : ¬ (cap = i) := by omega
  have HZ0 : Hid ((n : Int) + 1 - (i : Int) = ((n + 1 - i : Nat) : Int)) := by show _ = _; omega
  clear h u4 hu u2
  go_enter Tryz.func65, Tryz.ntmps65
  go_upto_region 10 with (at_builtin; refine wpList_zerosE (E := thE) Tryz.underlying102 Tryz.underlying3 infoTh ⟨0, 0, 0⟩ rfl rfl _ _ rfl HR.out rfl (n + 1 - i) _ HZ0.out rfl (n + 1) (by omega) (by omega) (by omega) (by omega) (by unfold maxLen; omega) hB ?_; intro c1 w1 k1 k2)
  have hcn : n + 1 ≤ c1 := (rowE_un k1).2.2.1
  have hcm : c1 ≤ 9223372036854775807 := (rowE_un k1).2.2.2.1
  have hd1 : ¬ (c1 = i) := by omega
  have hd2 : ¬ (c1 = i + 1) := by omega
  have HB1 : Hid (Below w.heap.size w w1) := k2
  obtain ⟨w2, hcp, r1, r2⟩ := run_copyW (E := thE) Tryz.underlying102 sizeTh k1 i (n + 1 - i) (c1 - i) (by omega) (by omega) (some ⟨H, 0, none⟩) 1 1 [y] (seesE_at thE (blk_below HB1.out HW.out)) (Nat.min_eq_left (by omega)) (n + 1) (by have : ([y] : List Th).length = 1 := rfl; omega)
  have hcp : ∀ ty, (Builtin.copy_ #[102, 102] ty #[.slice (some ⟨w.heap.size, i * 3, none⟩) (n + 1 - i) (c1 - i), .slice (some ⟨H, 0, none⟩) 1 1]).run Tryz.prog w1 = .ok (goInt 1) w2 := hcp
  have HB2 : Hid (Below w.heap.size w w2) := ⟨r2.os.trans HB1.out.os, r2.tape.trans HB1.out.tape, r2.output.trans HB1.out.output, Nat.le_trans HB1.out.size r2.size, fun k hk => (r2.block k (Nat.lt_of_lt_of_le hk HB1.out.size) (by simp; omega)).trans (HB1.out.block k hk)⟩
  have HR2 : Hid (RowE thE w2.drew B 108 (.slice (some ⟨w.heap.size, 0, none⟩) (n + 1) c1) _) := r1.below (bel_drew w2)
  have HS2 : Hid (SeesE thE w2.drew (.slice (some ⟨g, i * 3, none⟩) (n - i) (cap - i)) (xs.drop i)) := (HS.out.below HB2.out).below (bel_drew w2)
  clear r1 r2 k1 k2
  go_upto_region 11 with fail
  clear hcp
  go_region_law (refine step_copyE (E := thE) Tryz.underlying102 sizeTh (by rfl) (.tmp 50) (.tmp 53) (by rfl) HR2.out (i + 1) (n - i) (c1 - (i + 1)) (by omega) (by omega) (by simp [Act.eval, Act.put]; try rfl) (some ⟨g, i * 3, none⟩) (n - i) (cap - i) (by simp [Act.eval, Act.put]) (xs.drop i) (by rw [HL.out]; exact HS2.out) (by rw [HL.out]; exact Nat.min_self _) (n + 1) (by rw [HL.out]; omega) ?_; intro w3 k1 k2)
  have HB3 : Hid (Below w.heap.size w w3) := ⟨k2.os.trans HB2.out.os, k2.tape.trans HB2.out.tape, k2.output.trans HB2.out.output, Nat.le_trans HB2.out.size k2.size, fun k hk => (k2.block k (Nat.lt_of_lt_of_le hk HB2.out.size) (by simp; omega)).trans (HB2.out.block k hk)⟩
  have HK : Hid (RowE thE w3 B 108 (.slice (some ⟨w.heap.size, 0, none⟩) (n + 1) c1) _) := k1
  clear k1 k2
  go_wp2_with fail
  go_ret
  have k1 := HK.out
  have hi := HI.out
  rw [show i + 1 = i + [y].length from rfl, grow_list xs i (n + 1 - i) [y] (xs.drop i) ⟨0, 0, 0⟩ (by omega) (by rw [HL.out]; show _ = 1 + _; omega)] at k1
  exact ⟨_, rfl, k1, HB3.out, fun k hk => by simp [Value.ownBlock] at hk; omega⟩
/-- One piece set in. -/
theorem sins_any (v : Value) (B i H : Nat) (xs : List Th) (y : Th) (w : World) (h : RowE thE w B 108 v xs) (hB : B ≤ w.heap.size) (hi : i ≤ xs.length) (hl : xs.length ≤ 1000) (hu : w.heap[H]? = some (.cells (thE.c y).toArray 108)) (hne : v.ownBlock ≠ some H) :
    Calls Tryz.prog 65 #[v, .int .i64 (i : Int), .slice (some ⟨H, 0, none⟩) 1 1] w fun e w' => ∃ v', e = .returned v' ∧ RowE thE w' B 108 v' (xs.take i ++ [y] ++ xs.drop i) ∧ w.grownBy w' v.ownBlock ∧ ∀ k, v'.ownBlock = some k → v.ownBlock = some k ∨ w.heap.size ≤ k := by
  by_cases hend : i = xs.length
  · subst hend
    have := sins_end v B H xs y w h hB hl (seesE_at thE hu)
    rw [List.take_length, List.drop_length, List.append_nil]
    exact this
  · obtain ⟨h1, h2⟩ := id h
    rcases h2 with ⟨rfl, h2⟩ | ⟨g, cap, cur, rfl, hg, hh, h3, _⟩
    · exact absurd h2 (by omega)
    · by_cases hroom : xs.length + 1 ≤ cap
      · refine (sins_room B g xs.length cap i H xs y w h (by omega) hroom hu (fun e => hne (by rw [e]; rfl)) (seesE_at thE hu)).mono ?_
        rintro e w' ⟨v', rfl, k0, k1, k2⟩
        exact ⟨v', rfl, k1, k2, fun k hk => .inl (by rw [k0] at hk; exact hk)⟩
      · refine (sins_grow B g xs.length cap i H xs y w h hB (by omega) hl (by omega) hu).mono ?_
        rintro e w' ⟨v', rfl, k1, k2, k3⟩
        exact ⟨v', rfl, k1, ⟨k2.os, k2.tape, k2.output, k2.size, fun k hk _ => k2.block k hk⟩, fun k hk => .inr (k3 k hk)⟩
end Go.Proofs.YthjcmagionaepaaGreat

namespace Go.Proofs.YthjcmagionaepaaGreat
open Go.RowKit Kit
set_option linter.unusedVariables false

/-- A refusal: api.ErrArg, bare. -/
def errA : Value := .iface 81 (.int .i64 1)
set_option maxRecDepth 4000 in
set_option maxHeartbeats 4000000 in
theorem fbirth_bad (pv : Value) (ps : List Th) (id ep : Int) (w : World) (h : SeesB w pv ps) (hr : Asc ps) (hsm : ps.length ≤ 100000) (hn : pv = .pointer none ∨ ¬ birthOk ps id ep) :
    Calls Tryz.prog 54 #[pv, .int .i64 id, .int .i64 ep] w fun e w' => e = .returned errA ∧ Below w.heap.size w w' := by
  have HP : Hid (Calls Tryz.prog 64 #[pv, .int .i64 id] w fun e w' => e = .returned (.tuple #[.int .i64 (lowT ps id : Nat), .bool (hasT ps id)]) ∧ Below w.heap.size w w') := fplace_any pv ps id w h hr hsm
  obtain ⟨i, hi⟩ : ∃ i, i = lowT ps id := ⟨_, rfl⟩
  rw [← hi] at HP
  clear hi
  rcases h with ⟨rfl, rfl⟩ | ⟨p, v, rfl, _, _⟩
  · clear hn hr
    go_enter Tryz.func54, Tryz.ntmps54
    go_wp2_with fail
    go_at_call 64
    refine HP.out.mono ?_
    rintro e w1 ⟨rfl, hb⟩
    have HB : Hid (Below w.heap.size w w1) := hb
    clear hb
    go_wp2_with fail
    go_ret
    exact ⟨rfl, HB.out⟩
  · have hn : ¬ birthOk ps id ep := hn.resolve_left (by simp)
    cases hh : hasT ps id with
    | true =>
      rw [hh] at HP
      clear hn hr
      go_enter Tryz.func54, Tryz.ntmps54
      go_wp2_with fail
      go_at_call 64
      refine HP.out.mono ?_
      rintro e w1 ⟨rfl, hb⟩
      have HB : Hid (Below w.heap.size w w1) := hb
      clear hb
      go_wp2_with fail
      go_ret
      exact ⟨rfl, HB.out⟩
    | false =>
      rw [hh] at HP
      have hn2 : ep < 1 ∨ 1099511627776 < ep := by
        unfold birthOk maxE at hn
        by_cases c1 : 1 ≤ ep
        · by_cases c2 : ep ≤ 1099511627776
          · exact absurd ⟨c1, c2, hh⟩ hn
          · exact .inr (by omega)
        · exact .inl (by omega)
      clear hn hr
      by_cases c1 : ep < 1
      · clear hn2
        go_enter Tryz.func54, Tryz.ntmps54
        go_wp2_with fail
        go_at_call 64
        refine HP.out.mono ?_
        rintro e w1 ⟨rfl, hb⟩
        have HB : Hid (Below w.heap.size w w1) := hb
        clear hb
        go_wp2_with fail
        go_ret
        exact ⟨rfl, HB.out⟩
      · have c2 : 1099511627776 < ep := hn2.resolve_left c1
        clear hn2
        go_enter Tryz.func54, Tryz.ntmps54
        go_wp2_with fail
        go_at_call 64
        refine HP.out.mono ?_
        rintro e w1 ⟨rfl, hb⟩
        have HB : Hid (Below w.heap.size w w1) := hb
        clear hb
        go_wp2_with fail
        go_ret
        exact ⟨rfl, HB.out⟩
set_option maxRecDepth 4000 in
set_option maxHeartbeats 8000000 in
theorem fbirth_good (p B : Nat) (v : Value) (ps : List Th) (id ep : Int) (w : World) (h : BookAt w p B v ps) (hr : Asc ps) (hsm : ps.length ≤ 900) (hn : birthOk ps id ep) :
    Calls Tryz.prog 54 #[.pointer (some ⟨p, 0, none⟩), .int .i64 id, .int .i64 ep] w fun e w' => e = .returned .nilIface ∧ ∃ v', BookAt w' p B v' (putT ps ⟨id, ep, 0⟩) ∧ TurnF (pfoot p v) (pfoot p v') w w' := by
  have HP : Hid (Calls Tryz.prog 64 #[.pointer (some ⟨p, 0, none⟩), .int .i64 id] w fun e w' => e = .returned (.tuple #[.int .i64 (lowT ps id : Nat), .bool (hasT ps id)]) ∧ Below w.heap.size w w') := fplace_any _ ps id w h.sees hr (by omega)
  obtain ⟨c1, c2, hh⟩ := hn
  rw [hh] at HP
  unfold maxE at c2
  have hle := low_leT ps id
  obtain ⟨L, hL⟩ : ∃ L, L = putT ps ⟨id, ep, 0⟩ := ⟨_, rfl⟩
  have HL : Hid (ps.take (lowT ps id) ++ [(⟨id, ep, 0⟩ : Th)] ++ ps.drop (lowT ps id) = L) := hL.symm
  rw [← hL]
  obtain ⟨i, hi⟩ : ∃ i, i = lowT ps id := ⟨_, rfl⟩
  rw [← hi] at HP HL hle
  have HM : Hid (BookAt w p B v ps ∧ ps.length ≤ 900 ∧ i ≤ ps.length) := ⟨h, hsm, hle⟩
  clear h hr hsm hh hL hi hle
  go_enter Tryz.func54, Tryz.ntmps54
  go_wp2_with fail
  go_at_call 64
  refine HP.out.mono ?_
  rintro e w1 ⟨rfl, hb⟩
  have H1 : Hid (BookAt w1 p B v ps ∧ Below w.heap.size w w1) := ⟨HM.out.1.below hb, hb⟩
  clear hb HP
  have q0 : w1.cell? ⟨p, 0, none⟩ = some v := blk_cell H1.out.1.cell rfl
  have hpl : p < w1.heap.size := blk_lt H1.out.1.cell
  obtain ⟨ao, cap, hv⟩ := H1.out.1.row.sees.form
  obtain ⟨n, hn⟩ : ∃ n, n = ps.length := ⟨_, rfl⟩
  rw [← hn] at hv
  clear hn
  subst hv
  have HIN : Hid (Calls Tryz.prog 65 #[.slice ao n cap, .int .i64 (i : Int), .slice (some ⟨w1.heap.size, 0, none⟩) 1 1] (w1.alloc (.cells #[.int .i64 id, .int .i64 ep, .int .i64 0] 108)) fun e w' => ∃ a6 n6 c6, e = .returned (.slice a6 n6 c6) ∧ w'.cell? ⟨p, 0, none⟩ = some (.slice ao n cap) ∧ w'.frozen? ⟨p, 0, none⟩ = false ∧ p < w'.heap.size ∧ Hid (BookAt (w'.setCell ⟨p, 0, none⟩ (.slice a6 n6 c6)) p B (.slice a6 n6 c6) L ∧ TurnF (pfoot p (.slice ao n cap)) (pfoot p (.slice a6 n6 c6)) w (w'.setCell ⟨p, 0, none⟩ (.slice a6 n6 c6)))) := by
    have hb5 : Below w1.heap.size w1 (w1.alloc (.cells #[.int .i64 id, .int .i64 ep, .int .i64 0] 108)) := bel_newG _ _
    have hm5 := H1.out.1.below hb5
    refine (sins_any (.slice ao n cap) B i w1.heap.size ps ⟨id, ep, 0⟩ _ hm5.row hm5.low HM.out.2.2 (by have := HM.out.2.1; omega) (MapKept.heap_alloc w1 _).1 (fun e => by
      obtain ⟨cur, hc⟩ := rowE_obj H1.out.1.row e
      have := blk_lt hc
      omega)).mono ?_
    rw [HL.out]
    rintro e w6 ⟨v6, rfl, k1, k2, k3⟩
    obtain ⟨a6, c6, hv6⟩ := k1.sees.form
    obtain ⟨n6, hn6⟩ : ∃ z, z = L.length := ⟨_, rfl⟩
    rw [← hn6] at hv6
    subst hv6
    have hp6 : w6.heap[p]? = some (.cells #[.slice ao n cap] 104) := by rw [k2.block p (blk_lt hm5.cell) (fun e => hm5.off e.symm)]; exact hm5.cell
    have hst := book_store hm5 k2 k1 k3
    exact ⟨a6, n6, c6, rfl, blk_cell hp6 rfl, blk_frozen hp6 0, blk_lt hp6, hst.1, ((turnF_below H1.out.2).trans (turnF_below hb5)).trans hst.2⟩
  go_wp2_with (go_at_call 65; refine HIN.out.mono ?_; rintro e w6 ⟨a6, n6, c6, rfl, q6, f6, l6, HK6⟩)
  go_ret
  exact ⟨rfl, _, HK6.out.1, HK6.out.2⟩
set_option maxRecDepth 4000 in
set_option maxHeartbeats 4000000 in
theorem fdeath_none (pv : Value) (ps : List Th) (id ep : Int) (w : World) (h : SeesB w pv ps) (hr : Asc ps) (hsm : ps.length ≤ 100000) (hn : hasT ps id = false) :
    Calls Tryz.prog 55 #[pv, .int .i64 id, .int .i64 ep] w fun e w' => e = .returned errA ∧ Below w.heap.size w w' := by
  have HP : Hid (Calls Tryz.prog 64 #[pv, .int .i64 id] w fun e w' => e = .returned (.tuple #[.int .i64 (lowT ps id : Nat), .bool (hasT ps id)]) ∧ Below w.heap.size w w') := fplace_any pv ps id w h hr hsm
  obtain ⟨i, hi⟩ : ∃ i, i = lowT ps id := ⟨_, rfl⟩
  rw [← hi, hn] at HP
  clear hi h hr hsm hn
  go_enter Tryz.func55, Tryz.ntmps55
  go_wp2_with fail
  go_at_call 64
  refine HP.out.mono ?_
  rintro e w1 ⟨rfl, hb⟩
  have HB : Hid (Below w.heap.size w w1) := hb
  clear hb
  go_wp2_with fail
  go_ret
  exact ⟨rfl, HB.out⟩
/-- The cells of a book's row, and its thing at a place given another end. -/
theorem book_died {w : World} {p B g n cap i : Nat} {ps : List Th} {ep : Int} (h : BookAt w p B (.slice (some ⟨g, 0, none⟩) n cap) ps) (hi : i < ps.length) :
    BookAt (w.setCell ⟨g, i * 3 + 2, none⟩ (.int .i64 ep)) p B (.slice (some ⟨g, 0, none⟩) n cap) (ps.set i { ps[i] with died := ep }) ∧ TurnF (pfoot p (.slice (some ⟨g, 0, none⟩) n cap)) (pfoot p (.slice (some ⟨g, 0, none⟩) n cap)) w (w.setCell ⟨g, i * 3 + 2, none⟩ (.int .i64 ep)) := by
  have hpg : p ≠ g := fun e => h.off (by rw [e]; rfl)
  have hs : (w.setCell ⟨g, i * 3 + 2, none⟩ (.int .i64 ep)).heap.size = w.heap.size := by simp [World.setCell]
  refine ⟨⟨by rw [Below.heap_setCell _ _ _ p hpg]; exact h.cell, rowE_put h.row i hi 2 (by decide) _ _ rfl, by rw [hs]; exact h.low, h.hp⟩, rfl, rfl, rfl, by rw [hs]; exact Nat.le_refl _, fun k hk h1 => ?_, fun k hk => .inl hk⟩
  exact Below.heap_setCell _ _ _ k (fun e => h1 (.inr (by rw [e]; rfl)))
end Go.Proofs.YthjcmagionaepaaGreat

namespace Go.Proofs.YthjcmagionaepaaGreat
open Go.RowKit Kit
set_option linter.unusedVariables false

set_option maxRecDepth 4000 in
set_option maxHeartbeats 4000000 in
theorem fdeath_ended (p B g n cap i : Nat) (ps : List Th) (id ep y z : Int) (w : World) (h : BookAt w p B (.slice (some ⟨g, 0, none⟩) n cap) ps) (hil : i < ps.length) (hnn : n = ps.length) (hsm : n ≤ 900) (hy : ps[i].born = y) (hz : ps[i].died = z) (hpl : ∀ W, Below w.heap.size w W → Calls Tryz.prog 64 #[.pointer (some ⟨p, 0, none⟩), .int .i64 id] W fun e w' => e = .returned (.tuple #[.int .i64 (i : Nat), .bool true]) ∧ Below W.heap.size W w') (t1 : ¬ z = 0) :
    Calls Tryz.prog 55 #[.pointer (some ⟨p, 0, none⟩), .int .i64 id, .int .i64 ep] w fun e w' => e = .returned errA ∧ Below w.heap.size w w' := by
  have HP : Hid (Calls Tryz.prog 64 #[.pointer (some ⟨p, 0, none⟩), .int .i64 id] w fun e w' => e = .returned (.tuple #[.int .i64 (i : Nat), .bool true]) ∧ Below w.heap.size w w') := hpl w (Below.refl _ _)
  have HM : Hid (BookAt w p B (.slice (some ⟨g, 0, none⟩) n cap) ps ∧ n = ps.length ∧ ∃ h : i < ps.length, ps[i].born = y ∧ ps[i].died = z) := ⟨h, hnn, hil, hy, hz⟩
  have HE : Hid (∀ w, Calls Tryz.prog 47 #[.agg #[.int .i64 y, .int .i64 z]] w fun e w' => e = .returned (.bool (!decide (z = 0))) ∧ Below w.heap.size w w') := fun w => fended_any y z w
  have hin : (i : Int) < (n : Int) := by omega
  have hi0 : (0 : Int) ≤ (i : Int) := by omega
  clear h hil hnn hsm hy hz hpl
  go_enter Tryz.func55, Tryz.ntmps55
  go_wp2_with fail
  go_at_call 64
  refine HP.out.mono ?_
  rintro e w1 ⟨rfl, hb⟩
  have H1 : Hid (BookAt w1 p B (.slice (some ⟨g, 0, none⟩) n cap) ps ∧ Below w.heap.size w w1) := ⟨HM.out.1.below hb, hb⟩
  clear hb HP
  have q0 : w1.cell? ⟨p, 0, none⟩ = some (.slice (some ⟨g, 0, none⟩) n cap) := blk_cell H1.out.1.cell rfl
  obtain ⟨hil, hy, hz⟩ := HM.out.2.2
  obtain ⟨bb, oo, e1, e2, hbl, hc⟩ := th_cells H1.out.1.row.sees (by omega)
  cases e1
  obtain ⟨c0, c1, c2⟩ := hc i hil
  rw [hy] at c1
  rw [hz] at c2
  rw [Nat.zero_add] at c1 c2
  have HC : Hid (w1.cell? ⟨g, i * 3 + 1, none⟩ = some (.int .i64 y) ∧ w1.cell? ⟨g, i * 3 + 2, none⟩ = some (.int .i64 z) ∧ g < w1.heap.size) := ⟨c1, c2, hbl⟩
  clear hc c0 hy hz e2 hil
  go_wp2_with fail
  go_at_call 47
  refine (HE.out _).mono ?_
  rintro e w2 ⟨rfl, hb2⟩
  have H2 : Hid (BookAt w2 p B (.slice (some ⟨g, 0, none⟩) n cap) ps ∧ Below w.heap.size w w2) := ⟨H1.out.1.below hb2, bel_tr H1.out.2 hb2⟩
  have d1 : w2.cell? ⟨g, i * 3 + 1, none⟩ = some (.int .i64 y) := (hb2.cell (by exact HC.out.2.2)).trans HC.out.1
  have d2 : w2.cell? ⟨g, i * 3 + 2, none⟩ = some (.int .i64 z) := (hb2.cell (by exact HC.out.2.2)).trans HC.out.2.1
  have f2 : w2.frozen? ⟨g, i * 3 + 2, none⟩ = false := by
    obtain ⟨g', cap', e3, _, _, hfz, _⟩ := rowE_form H2.out.1.row (by have := HM.out.2.2.1; omega)
    cases e3
    exact hfz _
  clear hb2 c1 c2 q0
  go_wp2_with fail
  go_ret
  exact ⟨rfl, H2.out.2⟩
set_option maxRecDepth 4000 in
set_option maxHeartbeats 4000000 in
theorem fdeath_early (p B g n cap i : Nat) (ps : List Th) (id ep y z : Int) (w : World) (h : BookAt w p B (.slice (some ⟨g, 0, none⟩) n cap) ps) (hil : i < ps.length) (hnn : n = ps.length) (hsm : n ≤ 900) (hy : ps[i].born = y) (hz : ps[i].died = z) (hpl : ∀ W, Below w.heap.size w W → Calls Tryz.prog 64 #[.pointer (some ⟨p, 0, none⟩), .int .i64 id] W fun e w' => e = .returned (.tuple #[.int .i64 (i : Nat), .bool true]) ∧ Below W.heap.size W w') (t1 : z = 0) (t2 : ep < y) :
    Calls Tryz.prog 55 #[.pointer (some ⟨p, 0, none⟩), .int .i64 id, .int .i64 ep] w fun e w' => e = .returned errA ∧ Below w.heap.size w w' := by
  subst t1
  have HP : Hid (Calls Tryz.prog 64 #[.pointer (some ⟨p, 0, none⟩), .int .i64 id] w fun e w' => e = .returned (.tuple #[.int .i64 (i : Nat), .bool true]) ∧ Below w.heap.size w w') := hpl w (Below.refl _ _)
  have HM : Hid (BookAt w p B (.slice (some ⟨g, 0, none⟩) n cap) ps ∧ n = ps.length ∧ ∃ h : i < ps.length, ps[i].born = y ∧ ps[i].died = 0) := ⟨h, hnn, hil, hy, hz⟩
  have HE : Hid (∀ w, Calls Tryz.prog 47 #[.agg #[.int .i64 y, .int .i64 0]] w fun e w' => e = .returned (.bool (!decide (0 = 0))) ∧ Below w.heap.size w w') := fun w => fended_any y 0 w
  have hin : (i : Int) < (n : Int) := by omega
  have hi0 : (0 : Int) ≤ (i : Int) := by omega
  clear h hil hnn hsm hy hz hpl
  go_enter Tryz.func55, Tryz.ntmps55
  go_wp2_with fail
  go_at_call 64
  refine HP.out.mono ?_
  rintro e w1 ⟨rfl, hb⟩
  have H1 : Hid (BookAt w1 p B (.slice (some ⟨g, 0, none⟩) n cap) ps ∧ Below w.heap.size w w1) := ⟨HM.out.1.below hb, hb⟩
  clear hb HP
  have q0 : w1.cell? ⟨p, 0, none⟩ = some (.slice (some ⟨g, 0, none⟩) n cap) := blk_cell H1.out.1.cell rfl
  obtain ⟨hil, hy, hz⟩ := HM.out.2.2
  obtain ⟨bb, oo, e1, e2, hbl, hc⟩ := th_cells H1.out.1.row.sees (by omega)
  cases e1
  obtain ⟨c0, c1, c2⟩ := hc i hil
  rw [hy] at c1
  rw [hz] at c2
  rw [Nat.zero_add] at c1 c2
  have HC : Hid (w1.cell? ⟨g, i * 3 + 1, none⟩ = some (.int .i64 y) ∧ w1.cell? ⟨g, i * 3 + 2, none⟩ = some (.int .i64 0) ∧ g < w1.heap.size) := ⟨c1, c2, hbl⟩
  clear hc c0 hy hz e2 hil
  go_wp2_with fail
  go_at_call 47
  refine (HE.out _).mono ?_
  rintro e w2 ⟨rfl, hb2⟩
  have H2 : Hid (BookAt w2 p B (.slice (some ⟨g, 0, none⟩) n cap) ps ∧ Below w.heap.size w w2) := ⟨H1.out.1.below hb2, bel_tr H1.out.2 hb2⟩
  have d1 : w2.cell? ⟨g, i * 3 + 1, none⟩ = some (.int .i64 y) := (hb2.cell (by exact HC.out.2.2)).trans HC.out.1
  have d2 : w2.cell? ⟨g, i * 3 + 2, none⟩ = some (.int .i64 0) := (hb2.cell (by exact HC.out.2.2)).trans HC.out.2.1
  have f2 : w2.frozen? ⟨g, i * 3 + 2, none⟩ = false := by
    obtain ⟨g', cap', e3, _, _, hfz, _⟩ := rowE_form H2.out.1.row (by have := HM.out.2.2.1; omega)
    cases e3
    exact hfz _
  clear hb2 c1 c2 q0
  go_wp2_with fail
  go_ret
  exact ⟨rfl, H2.out.2⟩
set_option maxRecDepth 4000 in
set_option maxHeartbeats 4000000 in
theorem fdeath_late (p B g n cap i : Nat) (ps : List Th) (id ep y z : Int) (w : World) (h : BookAt w p B (.slice (some ⟨g, 0, none⟩) n cap) ps) (hil : i < ps.length) (hnn : n = ps.length) (hsm : n ≤ 900) (hy : ps[i].born = y) (hz : ps[i].died = z) (hpl : ∀ W, Below w.heap.size w W → Calls Tryz.prog 64 #[.pointer (some ⟨p, 0, none⟩), .int .i64 id] W fun e w' => e = .returned (.tuple #[.int .i64 (i : Nat), .bool true]) ∧ Below W.heap.size W w') (t1 : z = 0) (t2 : ¬ ep < y) (t3 : 1099511627776 < ep) :
    Calls Tryz.prog 55 #[.pointer (some ⟨p, 0, none⟩), .int .i64 id, .int .i64 ep] w fun e w' => e = .returned errA ∧ Below w.heap.size w w' := by
  subst t1
  have HP : Hid (Calls Tryz.prog 64 #[.pointer (some ⟨p, 0, none⟩), .int .i64 id] w fun e w' => e = .returned (.tuple #[.int .i64 (i : Nat), .bool true]) ∧ Below w.heap.size w w') := hpl w (Below.refl _ _)
  have HM : Hid (BookAt w p B (.slice (some ⟨g, 0, none⟩) n cap) ps ∧ n = ps.length ∧ ∃ h : i < ps.length, ps[i].born = y ∧ ps[i].died = 0) := ⟨h, hnn, hil, hy, hz⟩
  have HE : Hid (∀ w, Calls Tryz.prog 47 #[.agg #[.int .i64 y, .int .i64 0]] w fun e w' => e = .returned (.bool (!decide (0 = 0))) ∧ Below w.heap.size w w') := fun w => fended_any y 0 w
  have hin : (i : Int) < (n : Int) := by omega
  have hi0 : (0 : Int) ≤ (i : Int) := by omega
  clear h hil hnn hsm hy hz hpl
  go_enter Tryz.func55, Tryz.ntmps55
  go_wp2_with fail
  go_at_call 64
  refine HP.out.mono ?_
  rintro e w1 ⟨rfl, hb⟩
  have H1 : Hid (BookAt w1 p B (.slice (some ⟨g, 0, none⟩) n cap) ps ∧ Below w.heap.size w w1) := ⟨HM.out.1.below hb, hb⟩
  clear hb HP
  have q0 : w1.cell? ⟨p, 0, none⟩ = some (.slice (some ⟨g, 0, none⟩) n cap) := blk_cell H1.out.1.cell rfl
  obtain ⟨hil, hy, hz⟩ := HM.out.2.2
  obtain ⟨bb, oo, e1, e2, hbl, hc⟩ := th_cells H1.out.1.row.sees (by omega)
  cases e1
  obtain ⟨c0, c1, c2⟩ := hc i hil
  rw [hy] at c1
  rw [hz] at c2
  rw [Nat.zero_add] at c1 c2
  have HC : Hid (w1.cell? ⟨g, i * 3 + 1, none⟩ = some (.int .i64 y) ∧ w1.cell? ⟨g, i * 3 + 2, none⟩ = some (.int .i64 0) ∧ g < w1.heap.size) := ⟨c1, c2, hbl⟩
  clear hc c0 hy hz e2 hil
  go_wp2_with fail
  go_at_call 47
  refine (HE.out _).mono ?_
  rintro e w2 ⟨rfl, hb2⟩
  have H2 : Hid (BookAt w2 p B (.slice (some ⟨g, 0, none⟩) n cap) ps ∧ Below w.heap.size w w2) := ⟨H1.out.1.below hb2, bel_tr H1.out.2 hb2⟩
  have d1 : w2.cell? ⟨g, i * 3 + 1, none⟩ = some (.int .i64 y) := (hb2.cell (by exact HC.out.2.2)).trans HC.out.1
  have d2 : w2.cell? ⟨g, i * 3 + 2, none⟩ = some (.int .i64 0) := (hb2.cell (by exact HC.out.2.2)).trans HC.out.2.1
  have f2 : w2.frozen? ⟨g, i * 3 + 2, none⟩ = false := by
    obtain ⟨g', cap', e3, _, _, hfz, _⟩ := rowE_form H2.out.1.row (by have := HM.out.2.2.1; omega)
    cases e3
    exact hfz _
  clear hb2 c1 c2 q0
  go_wp2_with fail
  go_ret
  exact ⟨rfl, H2.out.2⟩
set_option maxRecDepth 4000 in
set_option maxHeartbeats 4000000 in
theorem fdeath_here (p B g n cap i : Nat) (ps : List Th) (id ep y z : Int) (w : World) (h : BookAt w p B (.slice (some ⟨g, 0, none⟩) n cap) ps) (hil : i < ps.length) (hnn : n = ps.length) (hsm : n ≤ 900) (hy : ps[i].born = y) (hz : ps[i].died = z) (hpl : ∀ W, Below w.heap.size w W → Calls Tryz.prog 64 #[.pointer (some ⟨p, 0, none⟩), .int .i64 id] W fun e w' => e = .returned (.tuple #[.int .i64 (i : Nat), .bool true]) ∧ Below W.heap.size W w') (t1 : z = 0) (t2 : ¬ ep < y) (t3 : ¬ 1099511627776 < ep) (hdd : ∀ h : i < ps.length, ps.set i { ps[i] with died := ep } = diedT ps id ep) :
    Calls Tryz.prog 55 #[.pointer (some ⟨p, 0, none⟩), .int .i64 id, .int .i64 ep] w fun e w' => e = .returned .nilIface ∧ BookAt w' p B (.slice (some ⟨g, 0, none⟩) n cap) (diedT ps id ep) ∧ TurnF (pfoot p (.slice (some ⟨g, 0, none⟩) n cap)) (pfoot p (.slice (some ⟨g, 0, none⟩) n cap)) w w' := by
  subst t1
  have HP : Hid (Calls Tryz.prog 64 #[.pointer (some ⟨p, 0, none⟩), .int .i64 id] w fun e w' => e = .returned (.tuple #[.int .i64 (i : Nat), .bool true]) ∧ Below w.heap.size w w') := hpl w (Below.refl _ _)
  have HM : Hid (BookAt w p B (.slice (some ⟨g, 0, none⟩) n cap) ps ∧ n = ps.length ∧ ∃ h : i < ps.length, ps[i].born = y ∧ ps[i].died = 0) := ⟨h, hnn, hil, hy, hz⟩
  have HE : Hid (∀ w, Calls Tryz.prog 47 #[.agg #[.int .i64 y, .int .i64 0]] w fun e w' => e = .returned (.bool (!decide (0 = 0))) ∧ Below w.heap.size w w') := fun w => fended_any y 0 w
  have hin : (i : Int) < (n : Int) := by omega
  have hi0 : (0 : Int) ≤ (i : Int) := by omega
  have HD : Hid (∀ h : i < ps.length, ps.set i { ps[i] with died := ep } = diedT ps id ep) := hdd
  clear h hil hnn hsm hy hz hpl hdd
  go_enter Tryz.func55, Tryz.ntmps55
  go_wp2_with fail
  go_at_call 64
  refine HP.out.mono ?_
  rintro e w1 ⟨rfl, hb⟩
  have H1 : Hid (BookAt w1 p B (.slice (some ⟨g, 0, none⟩) n cap) ps ∧ Below w.heap.size w w1) := ⟨HM.out.1.below hb, hb⟩
  clear hb HP
  have q0 : w1.cell? ⟨p, 0, none⟩ = some (.slice (some ⟨g, 0, none⟩) n cap) := blk_cell H1.out.1.cell rfl
  obtain ⟨hil, hy, hz⟩ := HM.out.2.2
  obtain ⟨bb, oo, e1, e2, hbl, hc⟩ := th_cells H1.out.1.row.sees (by omega)
  cases e1
  obtain ⟨c0, c1, c2⟩ := hc i hil
  rw [hy] at c1
  rw [hz] at c2
  rw [Nat.zero_add] at c1 c2
  have HC : Hid (w1.cell? ⟨g, i * 3 + 1, none⟩ = some (.int .i64 y) ∧ w1.cell? ⟨g, i * 3 + 2, none⟩ = some (.int .i64 0) ∧ g < w1.heap.size) := ⟨c1, c2, hbl⟩
  clear hc c0 hy hz e2 hil
  go_wp2_with fail
  go_at_call 47
  refine (HE.out _).mono ?_
  rintro e w2 ⟨rfl, hb2⟩
  have H2 : Hid (BookAt w2 p B (.slice (some ⟨g, 0, none⟩) n cap) ps ∧ Below w.heap.size w w2) := ⟨H1.out.1.below hb2, bel_tr H1.out.2 hb2⟩
  have d1 : w2.cell? ⟨g, i * 3 + 1, none⟩ = some (.int .i64 y) := (hb2.cell (by exact HC.out.2.2)).trans HC.out.1
  have d2 : w2.cell? ⟨g, i * 3 + 2, none⟩ = some (.int .i64 0) := (hb2.cell (by exact HC.out.2.2)).trans HC.out.2.1
  have f2 : w2.frozen? ⟨g, i * 3 + 2, none⟩ = false := by
    obtain ⟨g', cap', e3, _, _, hfz, _⟩ := rowE_form H2.out.1.row (by have := HM.out.2.2.1; omega)
    cases e3
    exact hfz _
  clear hb2 c1 c2 q0
  go_wp2_with fail
  go_ret
  have hst := book_died (ep := ep) H2.out.1 HM.out.2.2.1
  rw [HD.out HM.out.2.2.1] at hst
  exact ⟨rfl, hst.1, (turnF_below H2.out.2).trans hst.2⟩
theorem fdeath_good (p B : Nat) (v : Value) (ps : List Th) (id ep : Int) (w : World) (h : BookAt w p B v ps) (hr : Asc ps) (hsm : ps.length ≤ 900) (hn : deathOk ps id ep) :
    Calls Tryz.prog 55 #[.pointer (some ⟨p, 0, none⟩), .int .i64 id, .int .i64 ep] w fun e w' => e = .returned .nilIface ∧ ∃ v', BookAt w' p B v' (diedT ps id ep) ∧ TurnF (pfoot p v) (pfoot p v') w w' := by
  obtain ⟨he, t, ht, h1, h2, h3⟩ := hn
  have hh : hasT ps id = true := has_iffT.2 ⟨t, ht, h1⟩
  obtain ⟨hl, hi⟩ := (low_memT hr).1 hh
  obtain ⟨hl2, hd⟩ := died_at (e := ep) hr hh
  have et : ps[lowT ps id] = t := once_eq (once_of hr (List.Perm.refl _)) (List.getElem_mem hl) ht (by rw [hi, h1])
  obtain ⟨g, cap, rfl, _⟩ := rowE_form h.row (by omega)
  have hpl : ∀ W, Below w.heap.size w W → Calls Tryz.prog 64 #[.pointer (some ⟨p, 0, none⟩), .int .i64 id] W fun e w' => e = .returned (.tuple #[.int .i64 (lowT ps id : Nat), .bool true]) ∧ Below W.heap.size W w' := fun W hb => by
    have := fplace_any _ ps id W (h.below hb).sees hr (by omega)
    rw [hh] at this
    exact this
  unfold maxE at he
  refine (fdeath_here p B g ps.length cap (lowT ps id) ps id ep t.born 0 w h hl rfl hsm (by rw [et]) (by rw [et]; exact h2) hpl rfl (by omega) (by omega) (fun _ => hd.symm)).mono ?_
  rintro e w' ⟨rfl, k1, k2⟩
  exact ⟨rfl, _, k1, k2⟩
theorem fdeath_bad (p B : Nat) (v : Value) (ps : List Th) (id ep : Int) (w : World) (h : BookAt w p B v ps) (hr : Asc ps) (hsm : ps.length ≤ 900) (hn : ¬ deathOk ps id ep) :
    Calls Tryz.prog 55 #[.pointer (some ⟨p, 0, none⟩), .int .i64 id, .int .i64 ep] w fun e w' => e = .returned errA ∧ Below w.heap.size w w' := by
  cases hh : hasT ps id with
  | false => exact fdeath_none _ ps id ep w h.sees hr (by omega) hh
  | true =>
    obtain ⟨hl, hi⟩ := (low_memT hr).1 hh
    obtain ⟨g, cap, rfl, _⟩ := rowE_form h.row (by omega)
    have hpl : ∀ W, Below w.heap.size w W → Calls Tryz.prog 64 #[.pointer (some ⟨p, 0, none⟩), .int .i64 id] W fun e w' => e = .returned (.tuple #[.int .i64 (lowT ps id : Nat), .bool true]) ∧ Below W.heap.size W w' := fun W hb => by
      have := fplace_any _ ps id W (h.below hb).sees hr (by omega)
      rw [hh] at this
      exact this
    by_cases t1 : ps[lowT ps id].died = 0
    · by_cases t2 : ep < ps[lowT ps id].born
      · exact fdeath_early p B g ps.length cap (lowT ps id) ps id ep _ _ w h hl rfl hsm rfl rfl hpl t1 t2
      · by_cases t3 : 1099511627776 < ep
        · exact fdeath_late p B g ps.length cap (lowT ps id) ps id ep _ _ w h hl rfl hsm rfl rfl hpl t1 t2 t3
        · exact absurd ⟨by unfold maxE; omega, _, List.getElem_mem hl, hi, t1, by omega⟩ hn
    · exact fdeath_ended p B g ps.length cap (lowT ps id) ps id ep _ _ w h hl rfl hsm rfl rfl hpl t1
end Go.Proofs.YthjcmagionaepaaGreat
