/- Pieces: what clearing, joining, Put and Cut do at each place. (No program in it.) -/
import Derived.Test.YthdmclhccbjgoaaMExt
namespace Go.Proofs.Ythdmclhccbjgoaa
open Go.RowKit Kit
set_option linter.unusedVariables false

/-- A list that is made piece by piece, each within its own piece, rises. -/
theorem rise_flat {f : Pc → List Pc} : ∀ {l : List Pc}, Rise l → (∀ p ∈ l, Rise (f p) ∧ ∀ x ∈ f p, p.off ≤ x.off ∧ x.off + x.len ≤ p.off + p.len) → Rise (l.flatMap f)
  | [], _, _ => rise_nil
  | p :: l, h, hf => by
    obtain ⟨h1, h2, h3⟩ := rise_cons.1 h
    have ih := rise_flat h3 fun q hq => hf q (List.mem_cons_of_mem _ hq)
    obtain ⟨k1, k2⟩ := hf p (List.mem_cons_self ..)
    rw [List.flatMap_cons]
    refine ⟨fun x hx => ?_, List.pairwise_append.2 ⟨k1.2, ih.2, fun x hx y hy => ?_⟩⟩
    · rcases List.mem_append.1 hx with hx | hx
      · exact k1.1 x hx
      · exact ih.1 x hx
    · obtain ⟨q, hq, hy⟩ := List.mem_flatMap.1 hy
      have a1 := k2 x hx
      have a2 := h2 q hq
      have a3 := (hf q (List.mem_cons_of_mem _ hq)).2 y hy
      omega
theorem clear1_mem {a b : Int} {p x : Pc} (hp : 1 ≤ p.len) (hx : x ∈ clear1 a b p) : 1 ≤ x.len ∧ p.off ≤ x.off ∧ x.off + x.len ≤ p.off + p.len ∧ (x.off + x.len ≤ a ∨ b ≤ x.off) ∧ x.page = p.page ∧ x.pos = p.pos + x.off - p.off := by
  unfold clear1 at hx
  rcases List.mem_append.1 hx with hx | hx
  · split at hx
    · rw [List.mem_singleton] at hx
      subst hx
      refine ⟨?_, ?_, ?_, ?_, rfl, ?_⟩ <;> (try simp only []) <;> omega
    · cases hx
  · split at hx
    · rw [List.mem_singleton] at hx
      subst hx
      refine ⟨?_, ?_, ?_, ?_, rfl, ?_⟩ <;> simp only [Pc.sub] <;> omega
    · cases hx
theorem rise_clear1 {a b : Int} (hab : a ≤ b) {p : Pc} (hp : 1 ≤ p.len) : Rise (clear1 a b p) := by
  refine ⟨fun x hx => (clear1_mem hp hx).1, ?_⟩
  unfold clear1
  split <;> split <;> simp [List.pairwise_cons, Pc.sub]
  omega
theorem rise_clear {a b : Int} (hab : a ≤ b) {l : List Pc} (h : Rise l) : Rise (clearB a b l) :=
  rise_flat h fun p hp => ⟨rise_clear1 hab (h.1 p hp), fun x hx => ⟨(clear1_mem (h.1 p hp) hx).2.1, (clear1_mem (h.1 p hp) hx).2.2.1⟩⟩
theorem clear_apart {a b : Int} {l : List Pc} (h : Rise l) : ∀ x ∈ clearB a b l, x.off + x.len ≤ a ∨ b ≤ x.off := by
  intro x hx
  obtain ⟨p, hp, hx⟩ := List.mem_flatMap.1 hx
  exact (clear1_mem (h.1 p hp) hx).2.2.2.1
theorem val_clear1 {a b : Int} (hab : a ≤ b) (p : Pc) (hp : 1 ≤ p.len) (k : Int) : valB (clear1 a b p) k = if a ≤ k ∧ k < b then none else valB [p] k := by
  unfold clear1
  rw [valB_app, valB_cons, valB_nil]
  by_cases hk : a ≤ k ∧ k < b
  · rw [if_pos hk]
    have e1 : valB (if p.off < a then [⟨p.off, min (p.off + p.len) a - p.off, p.page, p.pos⟩] else []) k = none := by
      split
      · rw [valB_cons, valB_nil, if_neg (by simp only []; omega)]
      · rfl
    have e2 : valB (if b < p.off + p.len then [p.sub (max p.off b) (p.off + p.len)] else []) k = none := by
      split
      · rw [valB_cons, valB_nil, if_neg (by simp only [Pc.sub]; omega)]
      · rfl
    rw [e1, e2]; rfl
  · rw [if_neg hk]
    by_cases hin : p.off ≤ k ∧ k < p.off + p.len
    · rw [if_pos hin]
      by_cases hka : k < a
      · rw [if_pos (by omega), valB_cons, if_pos (by simp only []; omega)]
        simp
      · have e1 : valB (if p.off < a then [⟨p.off, min (p.off + p.len) a - p.off, p.page, p.pos⟩] else []) k = none := by
          split
          · rw [valB_cons, valB_nil, if_neg (by simp only []; omega)]
          · rfl
        rw [e1, if_pos (by omega), valB_cons, if_pos (by simp only [Pc.sub]; omega)]
        simp only [Pc.sub, Option.none_or, Option.some.injEq, Prod.mk.injEq, true_and]
        omega
    · rw [if_neg hin]
      have e1 : valB (if p.off < a then [⟨p.off, min (p.off + p.len) a - p.off, p.page, p.pos⟩] else []) k = none := by
        split
        · rw [valB_cons, valB_nil, if_neg (by simp only []; omega)]
        · rfl
      have e2 : valB (if b < p.off + p.len then [p.sub (max p.off b) (p.off + p.len)] else []) k = none := by
        split
        · rw [valB_cons, valB_nil, if_neg (by simp only [Pc.sub]; omega)]
        · rfl
      rw [e1, e2]; rfl
theorem val_clear {a b : Int} (hab : a ≤ b) : ∀ {l : List Pc}, Rise l → ∀ k, valB (clearB a b l) k = if a ≤ k ∧ k < b then none else valB l k
  | [], _, k => by simp [clearB, valB_nil]
  | p :: l, h, k => by
    obtain ⟨h1, h2, h3⟩ := rise_cons.1 h
    have ih := val_clear hab h3 k
    unfold clearB at *
    rw [List.flatMap_cons, valB_app, ih, val_clear1 hab p h1 k]
    by_cases hk : a ≤ k ∧ k < b
    · simp [hk]
    · rw [if_neg hk, if_neg hk, if_neg hk]
      have : valB (p :: l) k = (valB [p] k).or (valB l k) := valB_app [p] l k
      rw [this]
/-- Joining. -/
theorem join1_ok : ∀ (l : List Pc) (q : Pc), Rise (q :: l) → ∃ x r, join1 q l = x :: r ∧ x.off = q.off ∧ x.page = q.page ∧ x.pos = q.pos ∧ Can (x :: r) ∧ ∀ k, valB (x :: r) k = valB (q :: l) k
  | [], q, h => ⟨q, [], rfl, rfl, rfl, rfl, ⟨h, by simp [Apart]⟩, fun _ => rfl⟩
  | p :: l, q, h => by
    obtain ⟨h1, h2, h3⟩ := rise_cons.1 h
    obtain ⟨p1, p2, p3⟩ := rise_cons.1 h3
    have hqp := h2 p (List.mem_cons_self ..)
    unfold join1
    cases ht : touchB q p with
    | true =>
      simp only [touchB, decide_eq_true_eq] at ht
      rw [if_pos rfl]
      have hr : Rise ({ q with len := q.len + p.len } :: l) := rise_cons.2 ⟨by simp only []; omega, fun z hz => by have := p2 z hz; simp only []; omega, p3⟩
      obtain ⟨x, r, e, e1, e2, e3, e4, e5⟩ := join1_ok l { q with len := q.len + p.len } hr
      refine ⟨x, r, e, e1, e2, e3, e4, fun k => ?_⟩
      rw [e5, valB_cons, valB_cons, valB_cons]
      simp only []
      by_cases c1 : q.off ≤ k ∧ k < q.off + q.len
      · rw [if_pos c1, if_pos (by omega)]
      · rw [if_neg c1]
        by_cases c2 : p.off ≤ k ∧ k < p.off + p.len
        · rw [if_pos c2, if_pos (by omega), ht.2.1]
          have : q.pos + k - q.off = p.pos + k - p.off := by omega
          rw [this]
        · rw [if_neg c2, if_neg (by omega)]
    | false =>
      rw [if_neg (by simp)]
      obtain ⟨x, r, e, e1, e2, e3, e4, e5⟩ := join1_ok l p h3
      rw [e]
      have hx : q.off + q.len ≤ x.off := by rw [e1]; exact hqp
      refine ⟨q, x :: r, rfl, rfl, rfl, rfl, ⟨rise_cons.2 ⟨h1, fun z hz => ?_, e4.1⟩, fun z hz => ?_, e4.2⟩, fun k => ?_⟩
      · rcases List.mem_cons.1 hz with rfl | hz
        · exact hx
        · have := (rise_cons.1 e4.1).2.1 z hz
          have := (rise_cons.1 e4.1).1
          omega
      · simp only [List.head?_cons, Option.some.injEq] at hz
        subst hz
        unfold touchB at ht ⊢
        rw [e1, e2, e3]; exact ht
      · rw [valB_cons, e5, valB_cons q]
theorem can_join {l : List Pc} (h : Rise l) : Can (joinB l) ∧ ∀ k, valB (joinB l) k = valB l k := by
  cases l with
  | nil => exact ⟨⟨rise_nil, trivial⟩, fun _ => rfl⟩
  | cons q l =>
    obtain ⟨x, r, e, _, _, _, e4, e5⟩ := join1_ok l q h
    have hj : joinB (q :: l) = join1 q l := rfl
    rw [hj, e]
    exact ⟨e4, e5⟩
/-- What is ahead of a place, in a rising list that has a hole there. -/
theorem put_rise {l : List Pc} {p : Pc} (h : Rise l) (hp : 1 ≤ p.len) (ha : ∀ x ∈ l, x.off + x.len ≤ p.off ∨ p.off + p.len ≤ x.off) :
    Rise (l.take (aheadB p.off l) ++ p :: l.drop (aheadB p.off l)) ∧ ∀ k, valB (l.take (aheadB p.off l) ++ p :: l.drop (aheadB p.off l)) k = if p.off ≤ k ∧ k < p.off + p.len then some (p.page, p.pos + k - p.off) else valB l k := by
  unfold aheadB
  have e1 : l.take (l.takeWhile fun x => decide (x.off < p.off)).length = l.takeWhile fun x => decide (x.off < p.off) := by
    conv => lhs; arg 2; rw [← List.takeWhile_append_dropWhile (p := fun x : Pc => decide (x.off < p.off)) (l := l)]
    rw [List.take_left']
    rfl
  have e2 : l.drop (l.takeWhile fun x => decide (x.off < p.off)).length = l.dropWhile fun x => decide (x.off < p.off) := by
    conv => lhs; arg 2; rw [← List.takeWhile_append_dropWhile (p := fun x : Pc => decide (x.off < p.off)) (l := l)]
    rw [List.drop_left']
    rfl
  rw [e1, e2]
  have hT : ∀ x ∈ l.takeWhile (fun x => decide (x.off < p.off)), x ∈ l ∧ x.off < p.off := by
    intro x hx
    refine ⟨(List.takeWhile_sublist _).subset hx, ?_⟩
    have := List.all_eq_true.1 (List.all_takeWhile (l := l) (p := fun x : Pc => decide (x.off < p.off))) x hx
    simpa using this
  have hsub : ∀ x ∈ l.dropWhile (fun x => decide (x.off < p.off)), x ∈ l := fun x hx => (List.dropWhile_sublist _).subset hx
  have hRd : Rise (l.dropWhile fun x => decide (x.off < p.off)) := ⟨fun x hx => h.1 x (hsub x hx), h.2.sublist (List.dropWhile_sublist _)⟩
  have hRt : Rise (l.takeWhile fun x => decide (x.off < p.off)) := ⟨fun x hx => h.1 x (hT x hx).1, h.2.sublist (List.takeWhile_sublist _)⟩
  have hD : ∀ x ∈ l.dropWhile (fun x => decide (x.off < p.off)), p.off + p.len ≤ x.off := by
    intro x hx
    have hge : p.off ≤ x.off := by
      cases hd : l.dropWhile (fun x => decide (x.off < p.off)) with
      | nil => rw [hd] at hx; cases hx
      | cons y m =>
        have hy : ¬ y.off < p.off := by
          have := List.head?_dropWhile_not (fun x : Pc => decide (x.off < p.off)) l
          rw [hd] at this
          simpa using this
        rw [hd] at hx hRd
        rcases List.mem_cons.1 hx with rfl | hx
        · omega
        · have h1 := (rise_cons.1 hRd).2.1 x hx
          have h2 := (rise_cons.1 hRd).1
          omega
    rcases ha x (hsub x hx) with h1 | h1
    · have := h.1 x (hsub x hx); omega
    · exact h1
  have hT2 : ∀ x ∈ l.takeWhile (fun x => decide (x.off < p.off)), x.off + x.len ≤ p.off := by
    intro x hx
    rcases ha x (hT x hx).1 with h1 | h1
    · exact h1
    · have := (hT x hx).2; omega
  refine ⟨⟨fun x hx => ?_, List.pairwise_append.2 ⟨hRt.2, List.pairwise_cons.2 ⟨hD, hRd.2⟩, fun x hx y hy => ?_⟩⟩, fun k => ?_⟩
  · rcases List.mem_append.1 hx with hx | hx
    · exact hRt.1 x hx
    · rcases List.mem_cons.1 hx with rfl | hx
      · exact hp
      · exact hRd.1 x hx
  · have h1 := hT2 x hx
    rcases List.mem_cons.1 hy with rfl | hy
    · exact h1
    · have := hD y hy; omega
  · have e3 : valB l k = (valB (l.takeWhile fun x => decide (x.off < p.off)) k).or (valB (l.dropWhile fun x => decide (x.off < p.off)) k) := by
      rw [← valB_app, List.takeWhile_append_dropWhile]
    rw [valB_app, valB_cons, e3]
    by_cases hk : p.off ≤ k ∧ k < p.off + p.len
    · rw [if_pos hk, if_pos hk, valB_none fun x hx => by have := hT2 x hx; omega]; rfl
    · rw [if_neg hk, if_neg hk]
theorem can_put {l : List Pc} {p : Pc} (h : Rise l) (hp : 1 ≤ p.len) : Can (putB l p) ∧ ∀ k, valB (putB l p) k = if p.off ≤ k ∧ k < p.off + p.len then some (p.page, p.pos + k - p.off) else valB l k := by
  unfold putB
  obtain ⟨h1, h2⟩ := put_rise (rise_clear (a := p.off) (b := p.off + p.len) (by omega) h) hp (clear_apart h)
  obtain ⟨h3, h4⟩ := can_join h1
  refine ⟨h3, fun k => ?_⟩
  simp only []
  rw [h4, h2, val_clear (by omega) h]
  by_cases hk : p.off ≤ k ∧ k < p.off + p.len
  · rw [if_pos hk, if_pos hk]
  · rw [if_neg hk, if_neg hk, if_neg hk]
theorem can_cut {l : List Pc} {a b : Int} (h : Can l) : Can (cutB l a b) ∧ ∀ k, valB (cutB l a b) k = if a ≤ k ∧ k < b then none else valB l k := by
  unfold cutB
  by_cases hab : a < b
  · rw [if_pos hab]
    obtain ⟨h3, h4⟩ := can_join (rise_clear (a := a) (b := b) (by omega) h.1)
    exact ⟨h3, fun k => by rw [h4, val_clear (by omega) h.1]⟩
  · rw [if_neg hab]
    exact ⟨h, fun k => by rw [if_neg (by omega)]⟩
end Go.Proofs.Ythdmclhccbjgoaa
