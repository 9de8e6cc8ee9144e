/- Pieces: which page has which byte. The mathematics of chapter 9. (No program in it.) -/
import Derived.Test.YthdmclhccbjgoaaKitSt
namespace Go.Proofs.Ythdmclhccbjgoaa
open Go.RowKit Kit
set_option linter.unusedVariables false

/-- A piece. -/
structure Pc where
  off : Int
  len : Int
  page : Int
  pos : Int
/-- How a piece lies in memory. -/
def pcE : Enc Pc where
  k := 4
  c p := [.int .i64 p.off, .int .i64 p.len, .int .i64 p.page, .int .i64 p.pos]
  len _ := rfl
  pos := by decide
  one p u hu := by
    simp at hu
    rcases hu with rfl | rfl | rfl | rfl <;> rfl
/-- One piece, of another off and length, cut to the places from a to b - 1. -/
def Pc.sub (p : Pc) (a b : Int) : Pc := ⟨a, b - a, p.page, p.pos + a - p.off⟩
def clear1 (a b : Int) (p : Pc) : List Pc :=
  (if p.off < a then [⟨p.off, min (p.off + p.len) a - p.off, p.page, p.pos⟩] else []) ++ (if b < p.off + p.len then [p.sub (max p.off b) (p.off + p.len)] else [])
def clearB (a b : Int) (l : List Pc) : List Pc := l.flatMap (clear1 a b)
def touchB (q p : Pc) : Bool := decide (q.off + q.len = p.off ∧ q.page = p.page ∧ q.pos + q.len = p.pos)
def join1 (q : Pc) : List Pc → List Pc
  | [] => [q]
  | p :: l => if touchB q p then join1 { q with len := q.len + p.len } l else q :: join1 p l
def joinB : List Pc → List Pc
  | [] => []
  | p :: l => join1 p l
def aheadB (o : Int) (l : List Pc) : Nat := (l.takeWhile fun p => decide (p.off < o)).length
def putB (l : List Pc) (p : Pc) : List Pc :=
  let c := clearB p.off (p.off + p.len) l
  joinB (c.take (aheadB p.off c) ++ p :: c.drop (aheadB p.off c))
def cutB (l : List Pc) (a b : Int) : List Pc := if a < b then joinB (clearB a b l) else l
def hasB (k : Int) (p : Pc) : Bool := decide (p.off ≤ k ∧ k < p.off + p.len)
def findB (l : List Pc) (k : Int) : Option Pc := l.find? (hasB k)
def rangeB (l : List Pc) (a b : Int) : List Pc := l.flatMap fun p => if max p.off a < min (p.off + p.len) b then [p.sub (max p.off a) (min (p.off + p.len) b)] else []
def endB (l : List Pc) : Int := match l.getLast? with | some p => p.off + p.len | none => 0
/-- Rising, none empty, none over another one. -/
def Rise (l : List Pc) : Prop := (∀ p ∈ l, 1 ≤ p.len) ∧ l.Pairwise fun p q => p.off + p.len ≤ q.off
/-- And no two that could be one. -/
def Apart : List Pc → Prop
  | [] => True
  | p :: l => (∀ q, l.head? = some q → touchB p q = false) ∧ Apart l
def Can (l : List Pc) : Prop := Rise l ∧ Apart l
/-- What stands at a place: the page, and where there. -/
def valB (l : List Pc) (k : Int) : Option (Int × Int) := (findB l k).map fun p => (p.page, p.pos + k - p.off)
theorem rise_nil : Rise [] := ⟨fun p h => (by cases h), List.Pairwise.nil⟩
theorem rise_cons {p : Pc} {l : List Pc} : Rise (p :: l) ↔ 1 ≤ p.len ∧ (∀ q ∈ l, p.off + p.len ≤ q.off) ∧ Rise l := by
  unfold Rise
  rw [List.pairwise_cons]
  constructor
  · rintro ⟨h1, h2, h3⟩
    exact ⟨h1 p (List.mem_cons_self ..), h2, fun q hq => h1 q (List.mem_cons_of_mem _ hq), h3⟩
  · rintro ⟨h1, h2, h3, h4⟩
    refine ⟨fun q hq => ?_, h2, h4⟩
    rcases List.mem_cons.1 hq with rfl | hq
    · exact h1
    · exact h3 q hq
theorem valB_cons (p : Pc) (l : List Pc) (k : Int) : valB (p :: l) k = if p.off ≤ k ∧ k < p.off + p.len then some (p.page, p.pos + k - p.off) else valB l k := by
  unfold valB findB
  rw [List.find?_cons]
  by_cases h : p.off ≤ k ∧ k < p.off + p.len
  · simp [hasB, h]
  · rw [if_neg h]
    have : hasB k p = false := by simpa [hasB] using h
    rw [this]
theorem valB_nil (k : Int) : valB [] k = none := rfl
theorem valB_none {l : List Pc} {k : Int} (h : ∀ p ∈ l, ¬ (p.off ≤ k ∧ k < p.off + p.len)) : valB l k = none := by
  induction l with
  | nil => rfl
  | cons p l ih =>
    rw [valB_cons, if_neg (h p (List.mem_cons_self ..))]
    exact ih fun q hq => h q (List.mem_cons_of_mem _ hq)
theorem valB_app (l m : List Pc) (k : Int) : valB (l ++ m) k = (valB l k).or (valB m k) := by
  induction l with
  | nil => simp [valB_nil]
  | cons p l ih =>
    rw [List.cons_append, valB_cons, valB_cons]
    split <;> simp [*]
theorem valB_lt {l : List Pc} {B k : Int} (h : ∀ p ∈ l, B ≤ p.off) (hk : k < B) : valB l k = none := valB_none fun p hp => by have := h p hp; omega
/-- Two rising lists without neighbours that could be one, alike at every place, are one. -/
theorem can_ext : ∀ (a b : List Pc), Can a → Can b → (∀ k, valB a k = valB b k) → a = b
  | [], [], _, _, _ => rfl
  | [], q :: b, _, hb, h => by
    have h1 := h q.off
    rw [valB_nil, valB_cons, if_pos ⟨Int.le_refl _, by have := (rise_cons.1 hb.1).1; omega⟩] at h1
    cases h1
  | p :: a, [], ha, _, h => by
    have h1 := h p.off
    rw [valB_nil, valB_cons, if_pos ⟨Int.le_refl _, by have := (rise_cons.1 ha.1).1; omega⟩] at h1
    cases h1
  | p :: a, q :: b, ha, hb, h => by
    obtain ⟨pl, pa, ra⟩ := rise_cons.1 ha.1
    obtain ⟨ql, qb, rb⟩ := rise_cons.1 hb.1
    have hoff : p.off = q.off := by
      have h1 := h p.off
      have h2 := h q.off
      rw [valB_cons, if_pos ⟨Int.le_refl _, by omega⟩] at h1
      rw [valB_cons q, if_pos ⟨Int.le_refl _, by omega⟩] at h2
      by_cases e : p.off < q.off
      · rw [valB_cons, if_neg (by omega), valB_lt (B := q.off) (fun x hx => by have := qb x hx; omega) e] at h1
        cases h1
      · by_cases e2 : q.off < p.off
        · rw [valB_cons, if_neg (by omega), valB_lt (B := p.off) (fun x hx => by have := pa x hx; omega) e2] at h2
          cases h2
        · omega
    have hpp : p.page = q.page ∧ p.pos = q.pos := by
      have h1 := h p.off
      rw [valB_cons, if_pos ⟨Int.le_refl _, by omega⟩, valB_cons, if_pos ⟨by omega, by omega⟩] at h1
      injection h1 with h1
      injection h1 with h1 h2
      exact ⟨h1, by omega⟩
    have key : ∀ (x y : Pc) (l m : List Pc), Can (x :: l) → Can (y :: m) → (∀ k, valB (x :: l) k = valB (y :: m) k) → x.off = y.off → x.page = y.page → x.pos = y.pos → ¬ x.len < y.len := by
      intro x y l m hx hy hv e1 e2 e3 hlt
      obtain ⟨xl, xa, rx⟩ := rise_cons.1 hx.1
      have h1 := hv (x.off + x.len)
      rw [valB_cons, if_neg (by omega), valB_cons, if_pos ⟨by omega, by omega⟩] at h1
      cases l with
      | nil => rw [valB_nil] at h1; cases h1
      | cons z l =>
        have hz := xa z (List.mem_cons_self ..)
        obtain ⟨zl, za, rz⟩ := rise_cons.1 rx
        rw [valB_cons] at h1
        by_cases hc : z.off ≤ x.off + x.len ∧ x.off + x.len < z.off + z.len
        · rw [if_pos hc] at h1
          injection h1 with h1
          injection h1 with h1 h2
          have ht := hx.2.1 z rfl
          simp only [touchB, decide_eq_false_iff_not] at ht
          exact ht ⟨by omega, by rw [e2, h1], by omega⟩
        · rw [if_neg hc, valB_lt (B := z.off + z.len) (fun w hw => za w hw) (by omega)] at h1
          cases h1
    have hlen : p.len = q.len := by
      have h1 := key p q a b ha hb h hoff hpp.1 hpp.2
      have h2 := key q p b a hb ha (fun k => (h k).symm) hoff.symm hpp.1.symm hpp.2.symm
      omega
    have hpq : p = q := by
      cases p; cases q
      simp at hoff hpp hlen ⊢
      exact ⟨hoff, hlen, hpp⟩
    subst hpq
    have := can_ext a b ⟨ra, ha.2.2⟩ ⟨rb, hb.2.2⟩ fun k => by
      have h1 := h k
      rw [valB_cons, valB_cons] at h1
      by_cases hc : p.off ≤ k ∧ k < p.off + p.len
      · rw [valB_none fun x hx => by have := pa x hx; omega, valB_none fun x hx => by have := qb x hx; omega]
      · rwa [if_neg hc, if_neg hc] at h1
    rw [this]
end Go.Proofs.Ythdmclhccbjgoaa
