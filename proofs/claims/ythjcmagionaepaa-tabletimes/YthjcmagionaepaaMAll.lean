/- The document's All: the one list that is in order and keeps the order of coming. (No program in it, but for RAll's insertion.) -/
import Derived.Test.YthjcmagionaepaaRAll
import Derived.Test.YthjcmagionaepaaMSets
namespace Go.Proofs.Ythjcmagionaepaa
open Go.RowKit Kit
set_option linter.unusedVariables false

/-- By name, then by the epoch of birth. -/
def ltR (a b : Rw) : Prop := less a.name b.name ∨ (a.name = b.name ∧ a.born < b.born)
theorem gtB_iff (a x : Rw) : gtB a x = true ↔ ltR x a := by
  unfold gtB ltR
  rw [Bool.or_eq_true, gt_iff, Bool.and_eq_true, decide_eq_true_eq, beq_iff_eq]
  constructor
  · rintro (h | ⟨h1, h2⟩)
    · exact .inl h
    · exact .inr ⟨(toList_inj h1).symm, h2⟩
  · rintro (h | ⟨h1, h2⟩)
    · exact .inl h
    · exact .inr ⟨by rw [h1], h2⟩
theorem ltR_trans {a b c : Rw} (h : ltR a b) (k : ltR b c) : ltR a c := by
  rcases h with h | ⟨h1, h2⟩ <;> rcases k with k | ⟨k1, k2⟩
  · exact .inl (less_trans h k)
  · exact .inl (by rw [← k1]; exact h)
  · exact .inl (by rw [h1]; exact k)
  · exact .inr ⟨h1.trans k1, by omega⟩
theorem ltR_irrefl (a : Rw) : ¬ ltR a a := by
  rintro (h | ⟨_, h⟩)
  · exact less_irrefl _ h
  · omega
/-- One key, or the one ahead of the other. -/
theorem ltR_tri {a b : Rw} (h : ¬ ltR a b) (k : ¬ ltR b a) : a.name = b.name ∧ a.born = b.born := by
  by_cases e : less a.name b.name
  · exact absurd (.inl e) h
  · rcases less_or e with e1 | e1
    · refine ⟨e1, ?_⟩
      have h1 : ¬ a.born < b.born := fun x => h (.inr ⟨e1, x⟩)
      have h2 : ¬ b.born < a.born := fun x => k (.inr ⟨e1.symm, x⟩)
      omega
    · exact absurd (.inl e1) k
/-- Not behind: not ahead of what is ahead. -/
theorem leR_trans {a b c : Rw} (h : ¬ ltR b a) (k : ¬ ltR c b) : ¬ ltR c a := by
  intro x
  by_cases e : ltR a b
  · exact k (ltR_trans x e)
  · obtain ⟨e1, e2⟩ := ltR_tri e h
    apply k
    rcases x with x | ⟨x1, x2⟩
    · exact .inl (by rw [← e1]; exact x)
    · exact .inr ⟨x1.trans e1, by omega⟩
def InOrder (l : List Rw) : Prop := l.Pairwise fun a b => ¬ ltR b a
def keyP (n : ByteArray) (b : Int) (r : Rw) : Bool := decide (r.name = n) && decide (r.born = b)
theorem keyP_iff {n : ByteArray} {b : Int} {r : Rw} : keyP n b r = true ↔ r.name = n ∧ r.born = b := by
  unfold keyP
  rw [Bool.and_eq_true, decide_eq_true_eq, decide_eq_true_eq]
theorem keyP_self (r : Rw) : keyP r.name r.born r = true := keyP_iff.2 ⟨rfl, rfl⟩
/-- In order, and the same of each key: the same. -/
theorem order_one : ∀ (L M : List Rw), InOrder L → InOrder M → (∀ n b, L.filter (keyP n b) = M.filter (keyP n b)) → L = M
  | [], [], _, _, _ => rfl
  | [], c :: M, _, _, h => by
    have h1 := h c.name c.born
    rw [List.filter_nil, List.filter_cons_of_pos (keyP_self c)] at h1
    cases h1
  | a :: L, [], _, _, h => by
    have h1 := h a.name a.born
    rw [List.filter_nil, List.filter_cons_of_pos (keyP_self a)] at h1
    cases h1
  | a :: L, c :: M, hL, hM, h => by
    have hL' := List.pairwise_cons.1 hL
    have hM' := List.pairwise_cons.1 hM
    have hac : ¬ ltR a c := by
      have h1 : a ∈ (c :: M).filter (keyP a.name a.born) := by rw [← h]; exact List.mem_filter.2 ⟨List.mem_cons_self .., keyP_self a⟩
      rcases List.mem_cons.1 (List.mem_filter.1 h1).1 with e | e
      · rw [e]; exact ltR_irrefl c
      · exact hM'.1 a e
    have hca : ¬ ltR c a := by
      have h1 : c ∈ (a :: L).filter (keyP c.name c.born) := by rw [h]; exact List.mem_filter.2 ⟨List.mem_cons_self .., keyP_self c⟩
      rcases List.mem_cons.1 (List.mem_filter.1 h1).1 with e | e
      · rw [e]; exact ltR_irrefl a
      · exact hL'.1 c e
    obtain ⟨e1, e2⟩ := ltR_tri hac hca
    have h2 := h a.name a.born
    rw [List.filter_cons_of_pos (keyP_self a), List.filter_cons_of_pos (keyP_iff.2 ⟨e1.symm, e2.symm⟩)] at h2
    have e3 : a = c := (List.cons.inj h2).1
    subst e3
    rw [order_one L M hL'.2 hM'.2 fun n b => ?_]
    have h3 := h n b
    by_cases k : keyP n b a = true
    · rw [List.filter_cons_of_pos k, List.filter_cons_of_pos k] at h3
      exact (List.cons.inj h3).2
    · rw [List.filter_cons_of_neg k, List.filter_cons_of_neg k] at h3
      exact h3
theorem posW_spec (out : List Rw) (x : Rw) : ∀ k, k ≤ out.length → (∀ j (hj : j < out.length), posW out x k ≤ j → j < k → ltR x out[j]) ∧ (∀ h : 0 < posW out x k, ∀ hl : posW out x k - 1 < out.length, ¬ ltR x out[posW out x k - 1])
  | 0, _ => ⟨fun j _ _ h => by omega, fun h => by simp [posW] at h⟩
  | k + 1, hk => by
    have ih := posW_spec out x k (by omega)
    have e : out.getD k zR = out[k] := by simp [List.getD, show k < out.length by omega]
    by_cases c : gtB (out.getD k zR) x = true
    · have ep : posW out x (k + 1) = posW out x k := by rw [posW, if_pos c]
      rw [ep]
      refine ⟨fun j hj h1 h2 => ?_, ih.2⟩
      by_cases hjk : j = k
      · subst hjk
        rw [e] at c
        exact (gtB_iff _ _).1 c
      · exact ih.1 j hj h1 (by omega)
    · have ep : posW out x (k + 1) = k + 1 := by rw [posW, if_neg c]
      rw [ep]
      refine ⟨fun j hj h1 h2 => by omega, fun _ hl => ?_⟩
      rw [e] at c
      intro h
      exact c ((gtB_iff _ _).2 h)
theorem insW_both {out : List Rw} (x : Rw) (h : InOrder out) : InOrder (insW out x) ∧ ∀ n b, (insW out x).filter (keyP n b) = out.filter (keyP n b) ++ [x].filter (keyP n b) := by
  have hp := posW_le out x out.length
  have hs := posW_spec out x out.length (Nat.le_refl _)
  unfold insW
  generalize posW out x out.length = p at hp hs
  have hd : ∀ y ∈ out.drop p, ltR x y := by
    intro y hy
    obtain ⟨j, hj, rfl⟩ := List.mem_iff_getElem.1 hy
    rw [List.length_drop] at hj
    rw [List.getElem_drop]
    exact hs.1 (p + j) (by omega) (by omega) (by omega)
  have ht : ∀ y ∈ out.take p, ¬ ltR x y := by
    intro y hy
    obtain ⟨j, hj, rfl⟩ := List.mem_iff_getElem.1 hy
    rw [List.length_take] at hj
    rw [List.getElem_take]
    have h1 := hs.2 (by omega) (by omega)
    by_cases hjp : j = p - 1
    · subst hjp; exact h1
    · exact leR_trans ((List.pairwise_iff_getElem.1 h) j (p - 1) (by omega) (by omega) (by omega)) h1
  have h0 := h
  rw [← List.take_append_drop p out] at h0
  have h1 := List.pairwise_append.1 h0
  refine ⟨?_, fun n b => ?_⟩
  · refine List.pairwise_append.2 ⟨h1.1, List.pairwise_cons.2 ⟨fun y hy k => ltR_irrefl x (ltR_trans (hd y hy) k), h1.2.1⟩, fun y hy z hz => ?_⟩
    rcases List.mem_cons.1 hz with e | e
    · rw [e]; exact ht y hy
    · exact h1.2.2 y hy z e
  · conv => rhs; rw [← List.take_append_drop p out]
    rw [List.filter_append, List.filter_append]
    by_cases k : keyP n b x = true
    · have e : (out.drop p).filter (keyP n b) = [] := by
        rw [List.filter_eq_nil_iff]
        intro y hy k2
        obtain ⟨k3, k4⟩ := keyP_iff.1 k
        obtain ⟨k5, k6⟩ := keyP_iff.1 k2
        rcases hd y hy with h | ⟨_, h⟩
        · rw [k3, ← k5] at h; exact less_irrefl _ h
        · omega
      rw [List.filter_cons_of_pos k, List.filter_cons_of_pos k, e]
      simp
    · rw [List.filter_cons_of_neg k, List.filter_cons_of_neg k]
      simp
theorem foldW_both : ∀ (l out : List Rw), InOrder out → InOrder (l.foldl insW out) ∧ ∀ n b, (l.foldl insW out).filter (keyP n b) = out.filter (keyP n b) ++ l.filter (keyP n b)
  | [], out, h => ⟨h, fun n b => by simp⟩
  | x :: l, out, h => by
    have h1 := insW_both x h
    have h2 := foldW_both l (insW out x) h1.1
    refine ⟨h2.1, fun n b => ?_⟩
    rw [List.foldl_cons, h2.2, h1.2, List.append_assoc, ← List.filter_append]
    rfl
theorem allW_order (l : List Rw) : InOrder (allW l) := (foldW_both l [] List.Pairwise.nil).1
theorem allW_key (l : List Rw) (n : ByteArray) (b : Int) : (allW l).filter (keyP n b) = l.filter (keyP n b) := by
  have := (foldW_both l [] List.Pairwise.nil).2 n b
  simpa [allW] using this
/-- The only one. -/
theorem allW_one {l M : List Rw} (h : InOrder M) (hk : ∀ n b, M.filter (keyP n b) = l.filter (keyP n b)) : M = allW l :=
  order_one M (allW l) h (allW_order l) fun n b => by rw [hk, allW_key]
theorem allW_mem (l : List Rw) (r : Rw) : r ∈ allW l ↔ r ∈ l := by
  have h := allW_key l r.name r.born
  constructor
  · intro hr
    have : r ∈ (allW l).filter (keyP r.name r.born) := List.mem_filter.2 ⟨hr, keyP_self r⟩
    rw [h] at this
    exact (List.mem_filter.1 this).1
  · intro hr
    have : r ∈ l.filter (keyP r.name r.born) := List.mem_filter.2 ⟨hr, keyP_self r⟩
    rw [← h] at this
    exact (List.mem_filter.1 this).1
/-- The rows of a name. -/
def ofN (n : ByteArray) (r : Rw) : Bool := decide (r.name = n)
theorem ofN_iff {n : ByteArray} {r : Rw} : ofN n r = true ↔ r.name = n := by unfold ofN; rw [decide_eq_true_eq]
theorem key_of (L : List Rw) (n m : ByteArray) (b : Int) : (L.filter (ofN n)).filter (keyP m b) = if m = n then L.filter (keyP m b) else [] := by
  rw [List.filter_filter]
  by_cases e : m = n
  · rw [if_pos e]
    apply List.filter_congr
    intro r _
    subst e
    cases k : keyP m b r with
    | false => rfl
    | true => rw [ofN_iff.2 (keyP_iff.1 k).1]; rfl
  · rw [if_neg e, List.filter_eq_nil_iff]
    intro r _ h
    rw [Bool.and_eq_true] at h
    exact e ((keyP_iff.1 h.1).1.symm.trans (ofN_iff.1 h.2))
/-- What came in the order of birth, name by name, stands so in All. -/
theorem allW_name {l : List Rw} (h : l.Pairwise fun a b => a.name = b.name → a.born ≤ b.born) (n : ByteArray) : (allW l).filter (ofN n) = l.filter (ofN n) := by
  apply order_one
  · exact (allW_order l).filter _
  · rw [InOrder, List.pairwise_filter]
    refine h.imp fun {a b} hab ha hb => ?_
    have h1 := ofN_iff.1 ha
    have h2 := ofN_iff.1 hb
    rintro (x | ⟨_, x⟩)
    · rw [h1, h2] at x; exact less_irrefl _ x
    · have := hab (h1.trans h2.symm); omega
  · intro m b
    rw [key_of, key_of, allW_key]
/-- A list that is in order by names and keeps each name's rows is All. -/
theorem allW_names {l M : List Rw} (h : l.Pairwise fun a b => a.name = b.name → a.born ≤ b.born) (hM : M.Pairwise fun a b => ¬ less b.name a.name) (hk : ∀ n, M.filter (ofN n) = l.filter (ofN n)) : M = allW l := by
  apply allW_one
  · rw [InOrder]
    have key : ∀ (L : List Rw), (∀ n, (L.filter (ofN n)).Pairwise fun a b => a.born ≤ b.born) → L.Pairwise fun a b => a.name = b.name → a.born ≤ b.born := by
      intro L
      induction L with
      | nil => intro _; exact List.Pairwise.nil
      | cons a L ih =>
        intro hL
        refine List.pairwise_cons.2 ⟨fun b hb e => ?_, ih fun n => ?_⟩
        · have h1 := hL a.name
          rw [List.filter_cons_of_pos (ofN_iff.2 rfl)] at h1
          exact (List.pairwise_cons.1 h1).1 b (List.mem_filter.2 ⟨hb, ofN_iff.2 e.symm⟩)
        · have h1 := hL n
          by_cases k : ofN n a = true
          · rw [List.filter_cons_of_pos k] at h1
            exact (List.pairwise_cons.1 h1).2
          · rw [List.filter_cons_of_neg k] at h1
            exact h1
    have hb := key M fun n => by
      rw [hk, List.pairwise_filter]
      exact h.imp fun {a b} hab ha hb => hab ((ofN_iff.1 ha).trans (ofN_iff.1 hb).symm)
    refine hM.imp₂ (fun a b h1 h2 => ?_) hb
    rintro (x | ⟨e, x⟩)
    · exact h1 x
    · have := h2 e.symm; omega
  · intro m b
    have e := key_of M m m b
    have e2 := key_of l m m b
    rw [if_pos rfl] at e e2
    rw [← e, ← e2, hk]
end Go.Proofs.Ythjcmagionaepaa
