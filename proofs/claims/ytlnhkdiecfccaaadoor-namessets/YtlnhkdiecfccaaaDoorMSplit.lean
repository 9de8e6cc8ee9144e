/- A text cut at each slash: the library's Split is the reference's Cut. The library's Join, with a slash ahead, is the reference's. (No walk in it.) -/
import Derived.Test.YtlnhkdiecfccaaaDoorRSplit
import Derived.Lib.SplitLaws
import Derived.Lib.Join
namespace Go.Proofs.YtlnhkdiecfccaaaDoor
open Go.RowKit Kit
set_option linter.unusedVariables false

theorem bytesOf_from (s : ByteArray) (i : Nat) : bytesOf (s.extract i s.size) = (bytesOf s).drop i := by
  rw [extract_strOf, List.take_of_length_le (by simp [bytesOf_len])]
  have h : bytesIn ((bytesOf s).drop i) := fun z hz => bytesOf_in s z (List.mem_of_mem_drop hz)
  exact strOf_inj (bytesOf_in _) h (strOf_bytesOf _)
theorem occ_one (l : List UInt8) (c : UInt8) (i : Nat) : Lib.occAt l [c] i = true ↔ l[i]? = some c := by
  unfold Lib.occAt
  have e : (l.drop i)[0]? = l[i]? := by simp
  rw [← e]
  cases l.drop i with
  | nil => simp
  | cons a t =>
    simp only [List.isPrefixOf, Bool.and_true, beq_iff_eq, List.getElem?_cons_zero, Option.some.injEq]
    exact eq_comm
theorem slash_free (s : ByteArray) (h : ∀ j, j ≤ s.data.toList.length → Lib.occAt s.data.toList [47] j = false) : ∀ x ∈ bytesOf s, x ≠ 47 := by
  intro x hx
  unfold bytesOf at hx
  obtain ⟨b, hb, rfl⟩ := List.mem_map.1 hx
  intro e
  obtain ⟨i, hi⟩ := List.mem_iff_getElem?.1 hb
  have hb2 : b = 47 := by
    apply UInt8.toNat_inj.1
    show b.toNat = 47
    omega
  have hlt := (List.getElem?_eq_some_iff.1 hi).1
  have := h i (by omega)
  rw [hb2] at hi
  rw [(occ_one _ _ _).2 hi] at this
  cases this
theorem split_cut : ∀ (n : Nat) (s : ByteArray), s.size ≤ n → Lib.splitB ⟨#[47]⟩ 0 (Lib.countB s ⟨#[47]⟩) s = (cutL 47 (bytesOf s)).map strOf := by
  intro n
  induction n with
  | zero =>
    intro s hs
    rcases Lib.index_spec s.data.toList [47] with ⟨h1, h2⟩ | ⟨i, h1, h2, h3, _⟩
    · rw [Lib.countB_miss s ⟨#[47]⟩ h1, Lib.splitB_zero, cutL_free 47 _ (slash_free s h2), List.map_singleton, strOf_bytesOf]
    · exfalso
      have := (List.getElem?_eq_some_iff.1 ((occ_one _ _ _).1 h3)).1
      have e : s.data.toList.length = s.size := by simp
      omega
  | succ n ih =>
    intro s hs
    rcases Lib.index_spec s.data.toList [47] with ⟨h1, h2⟩ | ⟨i, h1, h2, h3, h4⟩
    · rw [Lib.countB_miss s ⟨#[47]⟩ h1, Lib.splitB_zero, cutL_free 47 _ (slash_free s h2), List.map_singleton, strOf_bytesOf]
    · have hi := (occ_one _ _ _).1 h3
      have hlt := (List.getElem?_eq_some_iff.1 hi).1
      have e : s.data.toList.length = s.size := by simp
      have eb : (bytesOf s)[i]? = some 47 := by
        unfold bytesOf; rw [List.getElem?_map, hi]; rfl
      have hlb : i < (bytesOf s).length := by rw [bytesOf_len]; omega
      have eb2 : (bytesOf s)[i] = 47 := by rw [List.getElem?_eq_getElem hlb] at eb; exact Option.some.inj eb
      have ed : bytesOf s = (bytesOf s).take i ++ 47 :: (bytesOf s).drop (i + 1) := by
        conv => lhs; rw [← List.take_append_drop i (bytesOf s), List.drop_eq_getElem_cons hlb, eb2]
      have hfree : ∀ x ∈ (bytesOf s).take i, x ≠ 47 := by
        intro x hx hx47
        obtain ⟨j, hj⟩ := List.mem_iff_getElem?.1 hx
        rw [List.getElem?_take] at hj
        split at hj
        · rename_i hji
          unfold bytesOf at hj
          rw [List.getElem?_map] at hj
          obtain ⟨b, hb, rfl⟩ := Option.map_eq_some_iff.1 hj
          have hb2 : b = 47 := by
            apply UInt8.toNat_inj.1
            show b.toNat = 47
            omega
          rw [hb2] at hb
          have := h4 j hji
          rw [(occ_one _ _ _).2 hb] at this
          cases this
        · cases hj
      rw [Lib.countB_hit s ⟨#[47]⟩ i (by decide) h1, Nat.add_comm, Lib.splitB_hit ⟨#[47]⟩ 0 _ s i h1]
      show s.extract 0 (i + 0) :: Lib.splitB ⟨#[47]⟩ 0 (Lib.countB (s.extract (i + 1) s.size) ⟨#[47]⟩) (s.extract (i + 1) s.size) = _
      rw [ih _ (by rw [ByteArray.size_extract]; omega), bytesOf_from]
      conv => rhs; rw [ed, cutL_at 47 _ _ hfree]
      rw [List.map_cons, extract_strOf]
      simp
/-- The library's Join with a slash ahead. -/
theorem join_slash : ∀ (ss : List ByteArray), joinB ss = ⟨#[47]⟩ ++ ⟨(Lib.join (ss.map (·.data.toList)) [47]).toArray⟩ := by
  have step : ∀ (ss : List ByteArray) (a : ByteArray), ss.foldl (fun s p => s ++ ⟨#[47]⟩ ++ p) a = a ++ ⟨(ss.map (fun p => 47 :: p.data.toList)).flatten.toArray⟩ := by
    intro ss
    induction ss with
    | nil => intro a; apply ByteArray.ext; simp
    | cons p ss ih =>
      intro a
      rw [List.foldl_cons, ih]
      apply ByteArray.ext
      apply Array.ext'
      simp
  intro ss
  unfold joinB
  cases ss with
  | nil => apply ByteArray.ext; simp [Lib.join]
  | cons p ss =>
    rw [if_neg (by simp)]
    unfold joinTo
    rw [List.take_length, step]
    apply ByteArray.ext
    have : ∀ (q : List UInt8) (ss : List ByteArray), [47].intercalate (q :: ss.map (·.data.toList)) = q ++ (ss.map (fun p => 47 :: p.data.toList)).flatten := by
      intro q ss
      induction ss generalizing q with
      | nil => simp [List.intercalate]
      | cons r ss ih =>
        have := ih r.data.toList
        simp only [List.intercalate, List.map_cons, List.intersperse_cons_cons, List.flatten_cons] at this ⊢
        rw [this]
        simp
    unfold Lib.join
    have e := this p.data.toList ss
    rw [show List.map (fun x => x.data.toList) (p :: ss) = p.data.toList :: ss.map (fun x => x.data.toList) from rfl, e]
    apply Array.ext'
    simp
end Go.Proofs.YtlnhkdiecfccaaaDoor
