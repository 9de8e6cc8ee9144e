/- package life: the book of spans. -/
import Derived.Test.YthjcmagionaepaaMHold
import Derived.Test.YthjcmagionaepaaGKit
import Derived.Test.YthjcmagionaepaaProg
import Derived.Deep.RegionHeld3
import Derived.Deep.QuietTactic
import Derived.BigQuiet
import Derived.Laws.OwnMore
import Derived.Laws.Cover1
import Derived.Deep.LoopGhost
import Derived.Shelf.Abstract
import Derived.Deep.RegionWith
import Derived.Deep.DeepCutAuto
namespace Go.Proofs.Ythjcmagionaepaa
open Go.RowKit Kit
set_option linter.unusedVariables false

/-- A thing: its number, from when, till when. -/
structure Th where
  id : Int
  born : Int
  died : Int
def Asc (l : List Th) : Prop := l.Pairwise fun a b => a.id < b.id
def hasT (l : List Th) (id : Int) : Bool := l.any fun t => decide (t.id = id)
def lowT (l : List Th) (id : Int) : Nat := l.countP fun t => decide (t.id < id)
def idsT (f : Th → Bool) (l : List Th) : List Int := (l.filter f).map Th.id
theorem has_iffT {l : List Th} {id : Int} : hasT l id = true ↔ ∃ t ∈ l, t.id = id := by
  unfold hasT
  rw [List.any_eq_true]
  constructor
  · rintro ⟨t, h1, h2⟩; exact ⟨t, h1, of_decide_eq_true h2⟩
  · rintro ⟨t, h1, h2⟩; exact ⟨t, h1, decide_eq_true h2⟩
theorem low_leT (l : List Th) (id : Int) : lowT l id ≤ l.length := List.countP_le_length
theorem low_splitT : ∀ (l : List Th) (id : Int), Asc l → (∀ j (hj : j < l.length), j < lowT l id → l[j].id < id) ∧ (∀ j (hj : j < l.length), lowT l id ≤ j → ¬ l[j].id < id)
  | [], _, _ => ⟨fun j hj => by simp at hj, fun j hj => by simp at hj⟩
  | a :: r, id, h => by
    obtain ⟨h1, h2⟩ := List.pairwise_cons.1 h
    have ih := low_splitT r id h2
    unfold lowT at *
    rw [List.countP_cons]
    by_cases c : a.id < id
    · simp only [c, decide_true, if_true]
      refine ⟨fun j hj hl => ?_, fun j hj hl => ?_⟩
      · cases j with
        | zero => exact c
        | succ j => exact ih.1 j (by simpa using hj) (by omega)
      · cases j with
        | zero => omega
        | succ j => exact ih.2 j (by simpa using hj) (by omega)
    · have hz : r.countP (fun t => decide (t.id < id)) = 0 := by
        rw [List.countP_eq_zero]
        intro t ht
        have := h1 t ht
        simp only [decide_eq_true_eq]
        omega
      simp only [c, decide_false, hz]
      refine ⟨fun j hj hl => by simp at hl, fun j hj _ => ?_⟩
      cases j with
      | zero => exact c
      | succ j =>
        have := h1 (r[j]'(by simpa using hj)) (List.getElem_mem _)
        simp only [List.getElem_cons_succ]
        omega
theorem low_ofT {l : List Th} {id : Int} (h : Asc l) {k : Nat} (hk : k ≤ l.length) (h1 : ∀ j (hj : j < l.length), j < k → l[j].id < id) (h2 : ∀ j (hj : j < l.length), k ≤ j → ¬ l[j].id < id) : lowT l id = k := by
  have hs := low_splitT l id h
  have hl := low_leT l id
  by_cases c : lowT l id < k
  · exact absurd (h1 (lowT l id) (by omega) c) (hs.2 _ (by omega) (Nat.le_refl _))
  · by_cases d : k < lowT l id
    · exact absurd (hs.1 k (by omega) d) (h2 k (by omega) (Nat.le_refl _))
    · omega
theorem low_memT {l : List Th} {id : Int} (h : Asc l) : hasT l id = true ↔ ∃ hl : lowT l id < l.length, (l[lowT l id]).id = id := by
  have hs := low_splitT l id h
  rw [has_iffT]
  constructor
  · rintro ⟨t, hm, rfl⟩
    obtain ⟨j, hj, rfl⟩ := List.mem_iff_getElem.1 hm
    have e : lowT l l[j].id = j := low_ofT h (by omega) (fun i hi hij => List.pairwise_iff_getElem.1 h i j hi hj hij) (fun i hi hij hlt => by
      by_cases e : i = j
      · subst e; omega
      · have := List.pairwise_iff_getElem.1 h j i hj hi (by omega); omega)
    refine ⟨by omega, ?_⟩
    simp only [e]
  · rintro ⟨h1, h2⟩
    exact ⟨_, List.getElem_mem h1, h2⟩
/-- Set in where it belongs. -/
def putT (l : List Th) (x : Th) : List Th := l.take (lowT l x.id) ++ [x] ++ l.drop (lowT l x.id)
def diedT (l : List Th) (id e : Int) : List Th := l.map fun t => if t.id = id then { t with died := e } else t
def outT (l : List Th) (id : Int) : List Th := l.filter fun t => decide (t.id ≠ id)
theorem asc_put {l : List Th} {x : Th} (h : Asc l) (hx : hasT l x.id = false) : Asc (putT l x) := by
  have hs := low_splitT l x.id h
  unfold putT Asc
  rw [List.append_assoc]
  refine List.pairwise_append.2 ⟨h.sublist (List.take_sublist _ _), ?_, ?_⟩
  · rw [List.singleton_append]
    refine List.pairwise_cons.2 ⟨fun t ht => ?_, h.sublist (List.drop_sublist _ _)⟩
    obtain ⟨j, hj, rfl⟩ := List.getElem_of_mem ht
    rw [List.length_drop] at hj
    rw [List.getElem_drop]
    have h1 := hs.2 (lowT l x.id + j) (by omega) (by omega)
    have h2 : l[lowT l x.id + j].id ≠ x.id := fun e => by
      have := has_iffT.2 ⟨_, List.getElem_mem (by omega : lowT l x.id + j < l.length), e⟩
      rw [hx] at this; cases this
    omega
  · intro a ha b hb
    have hax : a.id < x.id := by
      obtain ⟨j, hj, rfl⟩ := List.getElem_of_mem ha
      rw [List.length_take] at hj
      rw [List.getElem_take]
      exact hs.1 j (by omega) (by omega)
    rw [List.singleton_append] at hb
    rcases List.mem_cons.1 hb with rfl | hb
    · exact hax
    · obtain ⟨j, hj, rfl⟩ := List.getElem_of_mem hb
      rw [List.length_drop] at hj
      rw [List.getElem_drop]
      have h1 := hs.2 (lowT l x.id + j) (by omega) (by omega)
      omega
theorem perm_put (l : List Th) (x : Th) : (putT l x).Perm (l ++ [x]) := by
  unfold putT
  have h1 : (l.take (lowT l x.id) ++ [x] ++ l.drop (lowT l x.id)).Perm (l.take (lowT l x.id) ++ l.drop (lowT l x.id) ++ [x]) := by
    rw [List.append_assoc, List.append_assoc]
    exact List.Perm.append_left _ List.perm_append_comm
  rw [List.take_append_drop] at h1
  exact h1
theorem asc_died {l : List Th} (h : Asc l) (id e : Int) : Asc (diedT l id e) := by
  unfold diedT Asc at *
  rw [List.pairwise_map]
  refine h.imp fun {a b} hab => ?_
  have e1 : ∀ t : Th, (if t.id = id then { t with died := e } else t).id = t.id := fun t => by split <;> rfl
  rw [e1, e1]; exact hab
theorem asc_out {l : List Th} (h : Asc l) (id : Int) : Asc (outT l id) := h.sublist (List.filter_sublist)
/-- In the program's book: at the place alone. -/
theorem died_at {l : List Th} {id e : Int} (h : Asc l) (hx : hasT l id = true) : ∃ hl : lowT l id < l.length, diedT l id e = l.set (lowT l id) { l[lowT l id] with died := e } := by
  obtain ⟨hl, hi⟩ := (low_memT h).1 hx
  refine ⟨hl, ?_⟩
  unfold diedT
  apply List.ext_getElem?
  intro j
  rw [List.getElem?_map, List.getElem?_set]
  by_cases hj : lowT l id = j
  · subst hj
    rw [if_pos rfl, if_pos hl, List.getElem?_eq_getElem hl, Option.map_some, if_pos hi]
  · rw [if_neg hj]
    by_cases hjl : j < l.length
    · rw [List.getElem?_eq_getElem hjl, Option.map_some, if_neg]
      intro e2
      have hs := low_splitT l id h
      rcases Nat.lt_or_ge j (lowT l id) with h1 | h1
      · have := hs.1 j hjl h1; omega
      · have := List.pairwise_iff_getElem.1 h (lowT l id) j hl hjl (by omega)
        omega
    · rw [List.getElem?_eq_none (by omega), Option.map_none]
theorem out_at {l : List Th} {id : Int} (h : Asc l) (hx : hasT l id = true) : outT l id = l.take (lowT l id) ++ l.drop (lowT l id + 1) := by
  obtain ⟨hl, hi⟩ := (low_memT h).1 hx
  have hs := low_splitT l id h
  unfold outT
  conv => lhs; rw [← List.take_append_drop (lowT l id) l]
  rw [List.filter_append, List.drop_eq_getElem_cons hl, List.filter_cons_of_neg (by simp [hi])]
  congr 1
  · rw [List.filter_eq_self]
    intro t ht
    obtain ⟨j, hj, rfl⟩ := List.getElem_of_mem ht
    rw [List.length_take] at hj
    rw [List.getElem_take]
    have := hs.1 j (by omega) (by omega)
    simp; omega
  · rw [List.filter_eq_self]
    intro t ht
    obtain ⟨j, hj, rfl⟩ := List.getElem_of_mem ht
    rw [List.length_drop] at hj
    rw [List.getElem_drop]
    have := List.pairwise_iff_getElem.1 h (lowT l id) (lowT l id + 1 + j) hl (by omega) (by omega)
    simp; omega
/-- In the document's book: where it stands. -/
def Once (l : List Th) : Prop := l.Pairwise fun a b => a.id ≠ b.id
theorem once_of {a b : List Th} (h : Asc a) (hp : a.Perm b) : Once b := by
  have h1 : Once a := h.imp fun hab => by omega
  unfold Once at *
  exact (hp.pairwise_iff (fun h e => h e.symm)).1 h1
/-- Where a number stands; so many where it does not. -/
def seatT (l : List Th) (id : Int) : Nat := (l.takeWhile fun t => decide (t.id ≠ id)).length
theorem seat_leT (l : List Th) (id : Int) : seatT l id ≤ l.length := by
  unfold seatT
  exact (List.takeWhile_sublist _).length_le
theorem seat_at : ∀ (l : List Th) (id : Int), (∀ j (hj : j < l.length), j < seatT l id → l[j].id ≠ id) ∧ (∀ h : seatT l id < l.length, (l[seatT l id]).id = id)
  | [], _ => ⟨fun j hj => by simp at hj, fun h => by simp at h⟩
  | a :: r, id => by
    have ih := seat_at r id
    unfold seatT at *
    by_cases c : a.id = id
    · rw [List.takeWhile_cons_of_neg (by simp [c])]
      exact ⟨fun j hj h => by simp at h, fun h => c⟩
    · rw [List.takeWhile_cons_of_pos (by simp [c])]
      simp only [List.length_cons]
      refine ⟨fun j hj h => ?_, fun h => ?_⟩
      · cases j with
        | zero => exact c
        | succ j => exact ih.1 j (by simpa using hj) (by omega)
      · simp only [List.getElem_cons_succ]
        exact ih.2 (by omega)
theorem seat_ofT {l : List Th} {id : Int} {k : Nat} (hk : k ≤ l.length) (h1 : ∀ j (hj : j < l.length), j < k → l[j].id ≠ id) (h2 : ∀ h : k < l.length, l[k].id = id) : seatT l id = k := by
  have hs := seat_at l id
  have hl := seat_leT l id
  by_cases c : seatT l id < k
  · exact absurd (hs.2 (by omega)) (h1 _ (by omega) c)
  · by_cases d : k < seatT l id
    · exact absurd (h2 (by omega)) (hs.1 k (by omega) d)
    · omega
theorem seat_has {l : List Th} {id : Int} : hasT l id = true ↔ seatT l id < l.length := by
  have hs := seat_at l id
  rw [has_iffT]
  constructor
  · rintro ⟨t, hm, rfl⟩
    obtain ⟨j, hj, rfl⟩ := List.mem_iff_getElem.1 hm
    by_cases c : seatT l l[j].id < l.length
    · exact c
    · exact absurd rfl (hs.1 j hj (by omega))
  · intro h
    exact ⟨_, List.getElem_mem h, hs.2 h⟩
theorem died_seat {l : List Th} {id e : Int} (h : Once l) (hl : seatT l id < l.length) : diedT l id e = l.set (seatT l id) { l[seatT l id] with died := e } := by
  have hs := seat_at l id
  have hi := hs.2 hl
  unfold diedT
  apply List.ext_getElem?
  intro j
  rw [List.getElem?_map, List.getElem?_set]
  by_cases hj : seatT l id = j
  · subst hj
    rw [if_pos rfl, if_pos hl, List.getElem?_eq_getElem hl, Option.map_some, if_pos hi]
  · rw [if_neg hj]
    by_cases hjl : j < l.length
    · rw [List.getElem?_eq_getElem hjl, Option.map_some, if_neg]
      intro e2
      rcases Nat.lt_or_ge j (seatT l id) with h1 | h1
      · exact hs.1 j hjl h1 e2
      · exact List.pairwise_iff_getElem.1 h (seatT l id) j hl hjl (by omega) (by rw [hi, e2])
    · rw [List.getElem?_eq_none (by omega), Option.map_none]
theorem out_seat {l : List Th} {id : Int} (h : Once l) (hl : seatT l id < l.length) : outT l id = l.take (seatT l id) ++ l.drop (seatT l id + 1) := by
  have hs := seat_at l id
  have hi := hs.2 hl
  unfold outT
  conv => lhs; rw [← List.take_append_drop (seatT l id) l]
  rw [List.filter_append, List.drop_eq_getElem_cons hl, List.filter_cons_of_neg (by simp [hi])]
  congr 1
  · rw [List.filter_eq_self]
    intro t ht
    obtain ⟨j, hj, rfl⟩ := List.getElem_of_mem ht
    rw [List.length_take] at hj
    rw [List.getElem_take]
    simpa using hs.1 j (by omega) (by omega)
  · rw [List.filter_eq_self]
    intro t ht
    obtain ⟨j, hj, rfl⟩ := List.getElem_of_mem ht
    rw [List.length_drop] at hj
    rw [List.getElem_drop]
    have := List.pairwise_iff_getElem.1 h (seatT l id) (seatT l id + 1 + j) hl (by omega) (by omega)
    rw [hi] at this
    simp
    exact fun e => this e.symm
/-- A step. -/
structure St where
  kind : Int
  id : Int
  ep : Int
theorem has_perm {a b : List Th} (h : a.Perm b) (id : Int) : hasT a id = hasT b id := by
  rw [Bool.eq_iff_iff, has_iffT, has_iffT]
  exact ⟨fun ⟨t, h1, h2⟩ => ⟨t, h.mem_iff.1 h1, h2⟩, fun ⟨t, h1, h2⟩ => ⟨t, h.mem_iff.2 h1, h2⟩⟩
/-- The thing of a number. -/
theorem once_eq {l : List Th} (h : Once l) {a b : Th} (ha : a ∈ l) (hb : b ∈ l) (e : a.id = b.id) : a = b := by
  obtain ⟨i, hi, rfl⟩ := List.mem_iff_getElem.1 ha
  obtain ⟨j, hj, rfl⟩ := List.mem_iff_getElem.1 hb
  rcases Nat.lt_trichotomy i j with h1 | h1 | h1
  · exact absurd e (List.pairwise_iff_getElem.1 h i j hi hj h1)
  · subst h1; rfl
  · exact absurd e.symm (List.pairwise_iff_getElem.1 h j i hj hi h1)
/-- May a step be? The same of both books. -/
def birthOk (l : List Th) (id e : Int) : Prop := 1 ≤ e ∧ e ≤ maxE ∧ hasT l id = false
def deathOk (l : List Th) (id e : Int) : Prop := e ≤ maxE ∧ ∃ t ∈ l, t.id = id ∧ t.died = 0 ∧ t.born ≤ e
theorem birth_perm {a b : List Th} (h : a.Perm b) (id e : Int) : birthOk a id e ↔ birthOk b id e := by unfold birthOk; rw [has_perm h]
theorem death_perm {a b : List Th} (h : a.Perm b) (id e : Int) : deathOk a id e ↔ deathOk b id e := by
  unfold deathOk
  exact ⟨fun ⟨h0, t, h1, h2⟩ => ⟨h0, t, h.mem_iff.1 h1, h2⟩, fun ⟨h0, t, h1, h2⟩ => ⟨h0, t, h.mem_iff.2 h1, h2⟩⟩
end Go.Proofs.Ythjcmagionaepaa

namespace Go.Proofs.Ythjcmagionaepaa
open Go.RowKit Kit
set_option linter.unusedVariables false

/-- How a thing lies: three cells; its span: two. -/
def thE : Enc Th where
  k := 3
  c t := [.int .i64 t.id, .int .i64 t.born, .int .i64 t.died]
  len _ := rfl
  pos := by decide
  one p u hu := by
    simp at hu
    rcases hu with rfl | rfl | rfl <;> rfl
def spE : Enc Th where
  k := 2
  c t := [.int .i64 t.born, .int .i64 t.died]
  len _ := rfl
  pos := by decide
  one p u hu := by
    simp at hu
    rcases hu with rfl | rfl <;> rfl
def pfoot (p : Nat) (v : Value) (k : Nat) : Prop := k = p ∨ v.ownBlock = some k
theorem th_cells {w : World} {ao : Option Addr} {n cap : Nat} {xs : List Th} (h : SeesE thE w (.slice ao n cap) xs) (h0 : 0 < xs.length) : ∃ b off, ao = some ⟨b, off, none⟩ ∧ n = xs.length ∧ b < w.heap.size ∧ ∀ (i : Nat) (hi : i < xs.length), w.cell? ⟨b, off + i * 3, none⟩ = some (.int .i64 xs[i].id) ∧ w.cell? ⟨b, off + i * 3 + 1, none⟩ = some (.int .i64 xs[i].born) ∧ w.cell? ⟨b, off + i * 3 + 2, none⟩ = some (.int .i64 xs[i].died) := by
  obtain ⟨b, off, e, hn, hb, hc⟩ := h.cells h0
  exact ⟨b, off, e, hn, hb, fun i hi => ⟨hc i hi 0 _ rfl, hc i hi 1 _ rfl, hc i hi 2 _ rfl⟩⟩
theorem sp_cells {w : World} {ao : Option Addr} {n cap : Nat} {xs : List Th} (h : SeesE spE w (.slice ao n cap) xs) (h0 : 0 < xs.length) : ∃ b off, ao = some ⟨b, off, none⟩ ∧ n = xs.length ∧ b < w.heap.size ∧ ∀ (i : Nat) (hi : i < xs.length), w.cell? ⟨b, off + i * 2, none⟩ = some (.int .i64 xs[i].born) ∧ w.cell? ⟨b, off + i * 2 + 1, none⟩ = some (.int .i64 xs[i].died) := by
  obtain ⟨b, off, e, hn, hb, hc⟩ := h.cells h0
  exact ⟨b, off, e, hn, hb, fun i hi => ⟨hc i hi 0 _ rfl, hc i hi 1 _ rfl⟩⟩
theorem enter9 {f : FuncId} {fn : Func} {c : Code} (hf : Try.prog.funcs[f]? = some fn) (hname : (fn.name == "runtime.NumGoroutine") = false) (hb : fn.body = some c) (args : Array Value) (w : World) :
    (callFunc f args).run Try.prog w = .ok (.enter f args) w := by
  have h1 : fn.name ≠ "runtime.NumGoroutine" := by simpa using hname
  simp [callFunc, hf, h1, hb]

/-- What comparing says. -/
def cmpI (a b : Int) : Int := if a < b then -1 else if b < a then 1 else 0
theorem fended_any (b d : Int) (w : World) : Calls Try.prog 27 #[.agg #[.int .i64 b, .int .i64 d]] w fun e w' => e = .returned (.bool (!decide (d = 0))) ∧ Below w.heap.size w w' := by
  by_cases h : d = 0
  · subst h
    go_enter Try.func27, Try.ntmps27
    go_wp2
    go_ret
    exact ⟨rfl, bel_newG _ _⟩
  · have h2 : (d == 0) = false := by simpa using h
    go_enter Try.func27, Try.ntmps27
    go_wp2
    go_ret
    exact ⟨by simp [h], bel_newG _ _⟩
end Go.Proofs.Ythjcmagionaepaa

namespace Go.Proofs.Ythjcmagionaepaa
open Go.RowKit Kit
set_option linter.unusedVariables false

theorem cmpI_lt {a b : Int} : cmpI a b < 0 ↔ a < b := by
  unfold cmpI
  by_cases h1 : a < b
  · rw [if_pos h1]; omega
  · rw [if_neg h1]
    by_cases h2 : b < a
    · rw [if_pos h2]; omega
    · rw [if_neg h2]; omega
theorem cmpI_eq {a b : Int} : cmpI a b = 0 ↔ a = b := by
  unfold cmpI
  by_cases h1 : a < b
  · rw [if_pos h1]; omega
  · rw [if_neg h1]
    by_cases h2 : b < a
    · rw [if_pos h2]; omega
    · rw [if_neg h2]; omega
end Go.Proofs.Ythjcmagionaepaa

namespace Go.Proofs.Ythjcmagionaepaa
open Go.RowKit Kit
set_option linter.unusedVariables false

theorem infoI9 : (Try.prog.info? 3).map (fun i => (i.zero, i.size, i.bytes)) = some (some (.int .i64 0), 1, 8) := by kernel_rfl

theorem fholds_any (b d e : Int) (w : World) : Calls Try.prog 20 #[.agg #[.int .i64 b, .int .i64 d], .int .i64 e] w fun r w' => r = .returned (.bool (holdsB b d e)) ∧ Below w.heap.size w w' := by
  unfold holdsB
  by_cases h1 : b ≤ e
  · have HE : Hid (∀ w, Calls Try.prog 27 #[.agg #[.int .i64 b, .int .i64 d]] w fun r w' => r = .returned (.bool (!decide (d = 0))) ∧ Below w.heap.size w w') := fun w => fended_any b d w
    by_cases h2 : d = 0
    · subst h2
      go_enter Try.func20, Try.ntmps20
      go_wp2_with fail
      go_at_call 27
      refine (HE.out _).mono ?_
      rintro r w2 ⟨rfl, hb⟩
      have HB : Hid (Below w.heap.size w w2) := bel_tr (bel_newG _ _) hb
      clear hb
      go_wp2
      go_ret
      exact ⟨by simp [h1], HB.out⟩
    · by_cases h3 : e < d
      · go_enter Try.func20, Try.ntmps20
        go_wp2_with fail
        go_at_call 27
        refine (HE.out _).mono ?_
        rintro r w2 ⟨rfl, hb⟩
        have HB : Hid (Below w.heap.size w w2) := bel_tr (bel_newG _ _) hb
        have hbk : w2.heap[w.heap.size]? = some (.cells #[.int .i64 b, .int .i64 d] 46) := blk_below hb (MapKept.heap_alloc w _).1
        have c1 : w2.cell? ⟨w.heap.size, 1, none⟩ = some (.int .i64 d) := blk_cell hbk rfl
        clear hb hbk
        go_wp2
        go_ret
        exact ⟨by simp [h1, h2, h3], HB.out⟩
      · go_enter Try.func20, Try.ntmps20
        go_wp2_with fail
        go_at_call 27
        refine (HE.out _).mono ?_
        rintro r w2 ⟨rfl, hb⟩
        have HB : Hid (Below w.heap.size w w2) := bel_tr (bel_newG _ _) hb
        have hbk : w2.heap[w.heap.size]? = some (.cells #[.int .i64 b, .int .i64 d] 46) := blk_below hb (MapKept.heap_alloc w _).1
        have c1 : w2.cell? ⟨w.heap.size, 1, none⟩ = some (.int .i64 d) := blk_cell hbk rfl
        clear hb hbk
        go_wp2
        go_ret
        exact ⟨by simp [h2]; omega, HB.out⟩
  · go_enter Try.func20, Try.ntmps20
    go_wp2
    go_ret
    have h9 : ¬ b ≤ e := by omega
    exact ⟨by simp [h9], bel_newG _ _⟩
theorem ids_snoc (f : Th → Bool) (l : List Th) (i : Nat) (h : i < l.length) : idsT f (l.take (i + 1)) = idsT f (l.take i) ++ (if f l[i] then [l[i].id] else []) := by
  unfold idsT
  rw [List.take_succ_eq_append_getElem h, List.filter_append, List.map_append]
  congr 1
  by_cases hf : f l[i] = true
  · rw [List.filter_cons_of_pos hf, if_pos hf]; rfl
  · rw [List.filter_cons_of_neg hf, if_neg hf]; rfl
theorem ids_len (f : Th → Bool) (l : List Th) : (idsT f l).length ≤ l.length := by
  unfold idsT
  rw [List.length_map]
  exact List.length_filter_le _ _
theorem iV_snoc (a : List Int) (x : Int) : iV (a ++ [x]) = iV a ++ [.int .i64 x] := by simp [iV]
end Go.Proofs.Ythjcmagionaepaa
