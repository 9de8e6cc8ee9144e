/- The program's way to put and cut a piece comes to the document's. (No program in it.) -/
import Derived.Test.YthdmclhccbjgoaaEFirst
import Derived.Test.YthdmclhccbjgoaaMExt4
namespace Go.Proofs.Ythdmclhccbjgoaa
open Go.RowKit Kit
set_option linter.unusedVariables false

def join0 : List Pc → List Pc
  | q :: p :: l => if touchB q p then { q with len := q.len + p.len } :: l else q :: p :: l
  | l => l
def joinAt (i : Nat) (L : List Pc) : List Pc := L.take i ++ join0 (L.drop i)
theorem joinAt_app (A M : List Pc) : joinAt A.length (A ++ M) = A ++ join0 M := by unfold joinAt; rw [List.take_left, List.drop_left]
theorem touch_more {q p z : Pc} (h : touchB q p = true) : touchB { q with len := q.len + p.len } z = touchB p z := by
  unfold touchB at h ⊢
  rw [decide_eq_true_eq] at h
  simp only
  congr 1
  apply propext
  constructor <;> (rintro ⟨h1, h2, h3⟩; refine ⟨by omega, by omega, by omega⟩)
theorem join0_t {q p : Pc} {l : List Pc} (h : touchB q p = true) : join0 (q :: p :: l) = { q with len := q.len + p.len } :: l := by show (if touchB q p then _ else _) = _; rw [if_pos h]
theorem join0_f {q p : Pc} {l : List Pc} (h : touchB q p = false) : join0 (q :: p :: l) = q :: p :: l := by show (if touchB q p then _ else _) = _; rw [if_neg (by simp [h])]
theorem join1_t {q p : Pc} {l : List Pc} (h : touchB q p = true) : join1 q (p :: l) = join1 { q with len := q.len + p.len } l := by show (if touchB q p then _ else _) = _; rw [if_pos h]
theorem join1_f {q p : Pc} {l : List Pc} (h : touchB q p = false) : join1 q (p :: l) = q :: join1 p l := by show (if touchB q p then _ else _) = _; rw [if_neg (by simp [h])]
theorem join_head {x : Pc} {D : List Pc} (h : Apart D) : joinB (x :: D) = join0 (x :: D) := by
  cases D with
  | nil => rfl
  | cons d D =>
    show join1 x (d :: D) = _
    cases ht : touchB x d with
    | true =>
      rw [join0_t ht, join1_t ht]
      refine join1_apart D _ ⟨fun z hz => ?_, h.2⟩
      rw [touch_more ht]
      exact h.1 z hz
    | false => rw [join0_f ht, join1_f ht, join1_apart D d h]
theorem join_mid {x : Pc} {D : List Pc} (h : Apart D) : ∀ (A : List Pc) (e : Pc), Apart (A ++ [e]) → joinB (A ++ e :: x :: D) = A ++ join0 (e :: join0 (x :: D))
  | [], e, _ => by
    rw [List.nil_append, List.nil_append]
    show join1 e (x :: D) = _
    have hx := join_head (x := x) h
    cases ht : touchB e x with
    | true =>
      rw [join1_t ht]
      have h2 := join_head (x := { e with len := e.len + x.len }) h
      show joinB ({ e with len := e.len + x.len } :: D) = _
      rw [h2]
      cases D with
      | nil =>
        show [_] = join0 (e :: [x])
        rw [join0_t ht]
      | cons d D =>
        cases hd : touchB x d with
        | true =>
          rw [join0_t (by rw [touch_more ht]; exact hd), join0_t hd]
          have h3 : touchB e { x with len := x.len + d.len } = true := ht
          rw [join0_t h3]
          simp only
          rw [show e.len + x.len + d.len = e.len + (x.len + d.len) by omega]
        | false =>
          rw [join0_f (by rw [touch_more ht]; exact hd), join0_f hd, join0_t ht]
    | false =>
      rw [join1_f ht]
      show e :: joinB (x :: D) = _
      rw [hx]
      cases D with
      | nil => show [e, x] = join0 [e, x]; rw [join0_f ht]
      | cons d D =>
        cases hd : touchB x d with
        | true =>
          rw [join0_t hd]
          have h3 : touchB e { x with len := x.len + d.len } = false := ht
          rw [join0_f h3]
        | false => rw [join0_f hd, join0_f ht]
  | q :: A, e, ha => by
    have ih := join_mid (x := x) h A e ha.2
    rw [List.cons_append, List.cons_append, ← ih]
    show join1 q (A ++ e :: x :: D) = _
    cases A with
    | nil =>
      have ht : touchB q e = false := ha.1 e rfl
      rw [List.nil_append]
      show join1 q (e :: (x :: D)) = _
      rw [join1_f ht]
      rfl
    | cons r A =>
      have ht : touchB q r = false := ha.1 r rfl
      rw [List.cons_append]
      show join1 q (r :: (A ++ e :: x :: D)) = _
      rw [join1_f ht]
      rfl
theorem apart_app_left {A D : List Pc} (h : Apart (A ++ D)) : Apart A := by
  induction A with
  | nil => trivial
  | cons q A ih =>
    refine ⟨fun z hz => h.1 z ?_, ih h.2⟩
    cases A with
    | nil => cases hz
    | cons r A => exact hz
theorem apart_drop {l : List Pc} (h : Apart l) : ∀ n, Apart (l.drop n) := by
  induction l with
  | nil => intro n; simp [Apart]
  | cons q l ih =>
    intro n
    cases n with
    | zero => exact h
    | succ n => exact ih h.2 n
theorem apart_take {l : List Pc} (h : Apart l) (n : Nat) : Apart (l.take n) := apart_app_left (A := l.take n) (D := l.drop n) (by rw [List.take_append_drop]; exact h)
/-- Put's two joins. -/
theorem joins_is {c : List Pc} {x : Pc} {i : Nat} (hi : i ≤ c.length) (h : Apart c) :
    (if i = 0 then joinAt 0 (c.take i ++ x :: c.drop i) else joinAt (i - 1) (joinAt i (c.take i ++ x :: c.drop i))) = joinB (c.take i ++ x :: c.drop i) := by
  have hD := apart_drop h i
  have hl : (c.take i).length = i := by rw [List.length_take]; omega
  by_cases h0 : i = 0
  · subst h0
    rw [if_pos rfl, List.take_zero, List.nil_append, join_head hD]
    rfl
  · rw [if_neg h0]
    have hA := apart_take h i
    obtain ⟨A, e, hAe⟩ : ∃ A e, c.take i = A ++ [e] := by
      have hne : c.take i ≠ [] := fun h => by rw [h] at hl; simp at hl; omega
      exact ⟨_, _, (List.dropLast_concat_getLast hne).symm⟩
    have hj := joinAt_app (c.take i) (x :: c.drop i)
    rw [hl] at hj
    rw [hj, hAe, List.append_assoc, List.append_assoc]
    have hAl : A.length = i - 1 := by
      have := congrArg List.length hAe
      rw [hl] at this
      simp at this
      omega
    rw [← hAl, joinAt_app]
    rw [hAe] at hA
    exact (join_mid hD A e hA).symm
/-- A hole leaves no two that could be one. -/
theorem clear1_last {a b : Int} {p y : Pc} (hp : 1 ≤ p.len) (h : (clear1 a b p).getLast? = some y) : y.off + y.len ≤ p.off + p.len ∧ (y.off + y.len = p.off + p.len → y.page = p.page ∧ y.pos + y.len = p.pos + p.len) := by
  have hm := clear1_mem hp (List.mem_of_getLast? h)
  exact ⟨hm.2.2.1, fun e => ⟨hm.2.2.2.2.1, by have := hm.2.2.2.2.2; omega⟩⟩
theorem apart_app {A D : List Pc} (hA : Apart A) (hD : Apart D) (h : ∀ y z, A.getLast? = some y → D.head? = some z → touchB y z = false) : Apart (A ++ D) := by
  induction A with
  | nil => exact hD
  | cons q A ih =>
    rw [List.cons_append]
    refine ⟨fun z hz => ?_, ih hA.2 fun y z hy hz => h y z ?_ hz⟩
    · cases A with
      | nil => exact h q z rfl hz
      | cons r A => exact hA.1 z hz
    · cases A with
      | nil => cases hy
      | cons r A => rw [List.getLast?_cons_cons]; exact hy
theorem apart_clear {a b : Int} (hab : a < b) : ∀ {l : List Pc}, Can l → Apart (clearB a b l)
  | [], _ => trivial
  | p :: l, h => by
    obtain ⟨hp, hpl, hrl⟩ := rise_cons.1 h.1
    show Apart (clear1 a b p ++ clearB a b l)
    refine apart_app ?_ (apart_clear hab ⟨hrl, h.2.2⟩) fun y z hy hz => ?_
    · unfold clear1
      split <;> split <;> simp [Apart, touchB, Pc.sub]
      omega
    · obtain ⟨y1, y2⟩ := clear1_last hp hy
      have hzm : z ∈ clearB a b l := List.mem_of_head? hz
      obtain ⟨q, hq, hzq⟩ := List.mem_flatMap.1 hzm
      have hqm := clear1_mem (hrl.1 q hq) hzq
      have hqp := hpl q hq
      unfold touchB
      rw [decide_eq_false_iff_not]
      rintro ⟨e1, e2, e3⟩
      have e4 : q.off = p.off + p.len := by omega
      have e5 : z.off = q.off := by omega
      obtain ⟨y3, y4⟩ := y2 (by omega)
      cases l with
      | nil => cases hq
      | cons r l =>
        have hrq : r = q := by
          rcases List.mem_cons.1 hq with h | h
          · exact h.symm
          · have h1 := (rise_cons.1 hrl).2.1 q h
            have h2 := (rise_cons.1 hrl).1
            have h3 := hpl r (List.mem_cons_self ..)
            omega
        have ht := h.2.1 r rfl
        rw [hrq] at ht
        unfold touchB at ht
        rw [decide_eq_false_iff_not] at ht
        exact ht ⟨by omega, by rw [← y3, e2, hqm.2.2.2.2.1], by have := hqm.2.2.2.2.2; omega⟩
theorem joinB_apart {l : List Pc} (h : Apart l) : joinB l = l := by
  cases l with
  | nil => rfl
  | cons q l => exact join1_apart l q h
theorem cut_is {l : List Pc} {a b : Int} (hab : a < b) (h : Can l) : cutB l a b = clearB a b l := by
  unfold cutB
  rw [if_pos hab, joinB_apart (apart_clear hab h)]
theorem first_ahead {a b : Int} (hab : a < b) {l : List Pc} (hr : Rise l) (h : ∀ x ∈ l, x.off + x.len ≤ a ∨ b ≤ x.off) : firstI a l = aheadB a l := by
  unfold firstI aheadB
  congr 1
  have : ∀ x ∈ l, decide (x.off + x.len ≤ a) = decide (x.off < a) := fun x hx => by
    have h1 := h x hx
    have h2 := hr.1 x hx
    by_cases hh : x.off + x.len ≤ a
    · rw [decide_eq_true hh, decide_eq_true (by omega)]
    · rw [decide_eq_false hh, decide_eq_false (by omega)]
  clear h hr
  induction l with
  | nil => rfl
  | cons q l ih =>
    have hq := this q (List.mem_cons_self ..)
    rw [List.takeWhile_cons, List.takeWhile_cons, hq, ih fun x hx => this x (List.mem_cons_of_mem _ hx)]
theorem first_le (o : Int) (l : List Pc) : firstI o l ≤ l.length := by unfold firstI; exact List.IsPrefix.length_le (List.takeWhile_prefix _)
theorem tw_all {q : Pc → Bool} : ∀ (l : List Pc) (x : Pc), x ∈ l.take (l.takeWhile q).length → q x = true := by
  intro l x hx
  have h : l.take (l.takeWhile q).length = l.takeWhile q := by
    have := List.takeWhile_append_dropWhile (p := q) (l := l)
    rw [show l.take (l.takeWhile q).length = (l.takeWhile q ++ l.dropWhile q).take (l.takeWhile q).length by rw [this], List.take_left]
  rw [h] at hx
  clear h
  induction l with
  | nil => cases hx
  | cons y l ih =>
    cases hy : q y with
    | false => rw [List.takeWhile_cons_of_neg (by simp [hy])] at hx; cases hx
    | true =>
      rw [List.takeWhile_cons_of_pos hy] at hx
      rcases List.mem_cons.1 hx with rfl | hx
      · exact hy
      · exact ih hx
theorem tw_head {q : Pc → Bool} {l : List Pc} (h : (l.takeWhile q).length < l.length) : q (l[(l.takeWhile q).length]) = false := by
  induction l with
  | nil => simp at h
  | cons x l ih =>
    cases hq : q x with
    | false =>
      have : ((x :: l).takeWhile q).length = 0 := by rw [List.takeWhile_cons_of_neg (by simp [hq])]; rfl
      simp only [this, List.getElem_cons_zero]; exact hq
    | true =>
      have e : ((x :: l).takeWhile q).length = (l.takeWhile q).length + 1 := by rw [List.takeWhile_cons_of_pos hq]; rfl
      have h' : (l.takeWhile q).length < l.length := by rw [e] at h; simpa using h
      have := ih h'
      simp only [e, List.getElem_cons_succ]; exact this
theorem from_first {a : Int} {l : List Pc} (hr : Rise l) : ∀ x ∈ l.drop (firstI a l), a < x.off + x.len := by
  intro x hx
  obtain ⟨j, hj, rfl⟩ := List.mem_iff_getElem.1 hx
  rw [List.getElem_drop]
  have hlt : firstI a l < l.length := by rw [List.length_drop] at hj; omega
  have h1 := tw_head (q := fun x => decide (x.off + x.len ≤ a)) hlt
  rw [decide_eq_false_iff_not] at h1
  have h2 : ¬ (l[firstI a l].off + l[firstI a l].len ≤ a) := h1
  rw [List.length_drop] at hj
  rcases Nat.eq_zero_or_pos j with rfl | hj0
  · simp only [Nat.add_zero]; omega
  · have h3 := rise_le hr (i := firstI a l) (j := firstI a l + j) (by omega) (by omega)
    have h4 := rise_len hr (i := firstI a l + j) (by omega)
    omega
theorem to_first {a : Int} {l : List Pc} : ∀ x ∈ l.take (firstI a l), x.off + x.len ≤ a := fun x hx => by
  have := tw_all (q := fun x => decide (x.off + x.len ≤ a)) l x hx
  simpa using this
theorem to_ahead {a : Int} {l : List Pc} : ∀ x ∈ l.take (aheadB a l), x.off < a := fun x hx => by
  have := tw_all (q := fun x => decide (x.off < a)) l x hx
  simpa using this
theorem from_ahead {a : Int} {l : List Pc} (hr : Rise l) : ∀ x ∈ l.drop (aheadB a l), a ≤ x.off := by
  intro x hx
  obtain ⟨j, hj, rfl⟩ := List.mem_iff_getElem.1 hx
  rw [List.getElem_drop]
  have hlt : aheadB a l < l.length := by rw [List.length_drop] at hj; omega
  have h1 := tw_head (q := fun x => decide (x.off < a)) hlt
  rw [decide_eq_false_iff_not] at h1
  have h2 : ¬ (l[aheadB a l].off < a) := h1
  rw [List.length_drop] at hj
  rcases Nat.eq_zero_or_pos j with rfl | hj0
  · simp only [Nat.add_zero]; omega
  · have h3 := rise_le hr (i := aheadB a l) (j := aheadB a l + j) (by omega) (by omega)
    have h4 := rise_len hr (i := aheadB a l) (by omega)
    omega
theorem first_le_ahead {a b : Int} (hab : a < b) {l : List Pc} (hr : Rise l) : firstI a l ≤ aheadB b l := by
  rcases Nat.lt_or_ge (aheadB b l) (firstI a l) with h | h
  · have hlt : aheadB b l < l.length := by have := first_le a l; omega
    have h1 := to_first (a := a) (l := l) l[aheadB b l] (List.mem_take_iff_getElem.2 ⟨aheadB b l, by omega, rfl⟩)
    have h2 := from_ahead (a := b) hr l[aheadB b l] (List.mem_drop_iff_getElem.2 ⟨0, by omega, by simp⟩)
    have h3 := rise_len hr hlt
    omega
  · exact h
theorem clear1_keep_lo {a b : Int} {p : Pc} (hp : 1 ≤ p.len) (hab : a ≤ b) (h : p.off + p.len ≤ a) : clear1 a b p = [p] := by
  unfold clear1
  rw [if_pos (by omega), if_neg (by omega), List.append_nil]
  have : min (p.off + p.len) a - p.off = p.len := by omega
  rw [this]
theorem clear1_keep_hi {a b : Int} {p : Pc} (hp : 1 ≤ p.len) (hab : a ≤ b) (h : b ≤ p.off) : clear1 a b p = [p] := by
  unfold clear1
  rw [if_neg (by omega), if_pos (by omega), List.nil_append]
  unfold Pc.sub
  have h1 : max p.off b = p.off := by omega
  have h2 : p.off + p.len - p.off = p.len := by omega
  have h3 : p.pos + p.off - p.off = p.pos := by omega
  rw [h1, h2, h3]
theorem clear_same {a b : Int} {l : List Pc} (h : ∀ x ∈ l, clear1 a b x = [x]) : clearB a b l = l := by
  induction l with
  | nil => rfl
  | cons q l ih =>
    show clear1 a b q ++ clearB a b l = _
    rw [h q (List.mem_cons_self ..), ih fun x hx => h x (List.mem_cons_of_mem _ hx)]
    rfl
/-- What makeHole leaves. -/
theorem hole_is {a b : Int} (hab : a < b) {l : List Pc} (hr : Rise l) :
    l.take (firstI a l) ++ clearB a b ((l.take (aheadB b l)).drop (firstI a l)) ++ l.drop (aheadB b l) = clearB a b l := by
  have hij := first_le_ahead hab hr
  have e : l = l.take (firstI a l) ++ ((l.take (aheadB b l)).drop (firstI a l) ++ l.drop (aheadB b l)) := by
    rw [← List.append_assoc]
    have h1 : l.take (firstI a l) = (l.take (aheadB b l)).take (firstI a l) := by rw [List.take_take, Nat.min_eq_left hij]
    rw [h1, List.take_append_drop, List.take_append_drop]
  have k1 : clearB a b (l.take (firstI a l)) = l.take (firstI a l) := clear_same fun x hx => clear1_keep_lo (hr.1 x (List.mem_of_mem_take hx)) (by omega) (to_first x hx)
  have k2 : clearB a b (l.drop (aheadB b l)) = l.drop (aheadB b l) := clear_same fun x hx => clear1_keep_hi (hr.1 x (List.mem_of_mem_drop hx)) (by omega) (from_ahead hr x hx)
  have app : ∀ x y : List Pc, clearB a b (x ++ y) = clearB a b x ++ clearB a b y := fun x y => by unfold clearB; rw [List.flatMap_append]
  conv => rhs; rw [e, app, app, k1, k2]
  rw [List.append_assoc]
theorem mid_len0 {a b : Int} : ∀ {l : List Pc}, Rise l → (∀ x ∈ l, x.off < b ∧ a ≤ x.off) → (clearB a b l).length ≤ 1
  | [], _, _ => by simp [clearB]
  | p :: l, hr, h => by
    obtain ⟨h1, h2, h3⟩ := rise_cons.1 hr
    have hp := h p (List.mem_cons_self ..)
    show (clear1 a b p ++ clearB a b l).length ≤ 1
    rw [List.length_append]
    have e1 : (clear1 a b p).length ≤ if b < p.off + p.len then 1 else 0 := by
      unfold clear1
      rw [if_neg (by omega)]
      split <;> simp
    by_cases hb : b < p.off + p.len
    · have : l = [] := by
        cases l with
        | nil => rfl
        | cons q l => have := (h q (List.mem_cons_of_mem _ (List.mem_cons_self ..))).1; have := h2 q (List.mem_cons_self ..); omega
      subst this
      rw [if_pos hb] at e1
      simp [clearB] at *; omega
    · rw [if_neg hb] at e1
      have := mid_len0 h3 fun x hx => h x (List.mem_cons_of_mem _ hx)
      omega
theorem mid_len {a b : Int} (hab : a < b) {l : List Pc} (hr : Rise l) (h : ∀ x ∈ l, x.off < b ∧ a < x.off + x.len) : (clearB a b l).length ≤ 2 := by
  cases l with
  | nil => simp [clearB]
  | cons p l =>
    obtain ⟨h1, h2, h3⟩ := rise_cons.1 hr
    have hp := h p (List.mem_cons_self ..)
    show (clear1 a b p ++ clearB a b l).length ≤ 2
    rw [List.length_append]
    have hl : ∀ x ∈ l, x.off < b ∧ a ≤ x.off := fun x hx => ⟨(h x (List.mem_cons_of_mem _ hx)).1, by have := h2 x hx; omega⟩
    by_cases hb : b < p.off + p.len
    · have : l = [] := by
        cases l with
        | nil => rfl
        | cons q l => have := (hl q (List.mem_cons_self ..)).1; have := h2 q (List.mem_cons_self ..); omega
      subst this
      have := clear1_len a b p
      simp [clearB]; omega
    · have e1 : (clear1 a b p).length ≤ 1 := by unfold clear1; rw [if_neg hb]; split <;> simp
      have := mid_len0 h3 hl
      omega
/-- Put, whole. -/
theorem put_is {l : List Pc} {x : Pc} (hx : 1 ≤ x.len) (h : Can l) (c : List Pc) (hc : c = clearB x.off (x.off + x.len) l) (i : Nat) (hi : i = firstI x.off c) :
    (if i = 0 then joinAt 0 (c.take i ++ x :: c.drop i) else joinAt (i - 1) (joinAt i (c.take i ++ x :: c.drop i))) = putB l x := by
  have hrc : Rise c := by rw [hc]; exact rise_clear (by omega) h.1
  have hac : Apart c := by rw [hc]; exact apart_clear (by omega) h
  rw [joins_is (by rw [hi]; exact first_le _ _) hac]
  have hia : i = aheadB x.off c := by rw [hi]; exact first_ahead (b := x.off + x.len) (by omega) hrc (by rw [hc]; exact clear_apart h.1)
  unfold putB
  simp only
  rw [← hc, hia]
end Go.Proofs.Ythdmclhccbjgoaa
