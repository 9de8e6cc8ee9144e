/- dolmenref1.Cut: what one call answers. -/
import Derived.Test.YtlnhkdiecfccaaaDoorRLetter
import Derived.Test.YtlnhkdiecfccaaaDoorKitVals
import Derived.Test.YtlnhkdiecfccaaaDoorKitRows
namespace Go.Proofs.YtlnhkdiecfccaaaDoor
open Go.RowKit Kit
set_option linter.unusedVariables false

/-- A text at each place of a byte. -/
def cutL (c : Int) : List Int → List (List Int)
  | [] => [[]]
  | x :: r => if x = c then [] :: cutL c r else match cutL c r with
    | [] => [[x]]
    | p :: q => (x :: p) :: q
theorem cutL_free (c : Int) : ∀ p : List Int, (∀ x ∈ p, x ≠ c) → cutL c p = [p]
  | [], _ => rfl
  | x :: p, h => by
    rw [cutL, if_neg (h x (by simp)), cutL_free c p (fun y hy => h y (by simp [hy]))]
theorem cutL_at (c : Int) (r : List Int) : ∀ p : List Int, (∀ x ∈ p, x ≠ c) → cutL c (p ++ c :: r) = p :: cutL c r
  | [], _ => by show cutL c (c :: r) = _; rw [cutL, if_pos rfl]
  | x :: p, h => by
    show cutL c (x :: (p ++ c :: r)) = _
    rw [cutL, if_neg (h x (by simp)), cutL_at c r p (fun y hy => h y (by simp [hy]))]
/-- Texts in cells. -/
def txtsL (l : List (List Int)) : List Value := l.map fun p => .string (strOf p)
theorem txtsL_len (l : List (List Int)) : (txtsL l).length = l.length := by simp [txtsL]
theorem extract_strOf (s : ByteArray) (i j : Nat) : s.extract i j = strOf (((bytesOf s).drop i).take (j - i)) := by
  have h : s = ⟨s.data.toList.toArray⟩ := by cases s; simp
  conv => lhs; rw [h, ByteArray.extract_mk]
  unfold strOf bytesOf
  rw [← List.map_drop, ← List.map_take, List.map_map]
  congr 1
  have e : ((fun n : Int => UInt8.ofNat n.toNat) ∘ fun b : UInt8 => (b.toNat : Int)) = id := by funext b; simp
  rw [e, List.map_id]
theorem byte_at (s : ByteArray) (k : Nat) (h : k < s.size) : ((s[k]'h).toNat : Int) = (bytesOf s).getD k 0 := by
  have h2 : k < s.data.size := h
  show ((s.data[k]'h2).toNat : Int) = _
  unfold bytesOf
  rw [List.getD, List.getElem?_map, Array.getElem?_toList, Array.getElem?_eq_getElem h2]; rfl
theorem cut_last {c : Int} {l : List Int} {done : List (List Int)} {f k : Nat} (hk : k = l.length) (h1 : cutL c l = done ++ cutL c (l.drop f)) (h2 : ∀ x ∈ (l.drop f).take (k - f), x ≠ c) : cutL c l = done ++ [(l.drop f).take (k - f)] := by
  have e : (l.drop f).take (k - f) = l.drop f := List.take_of_length_le (by simp; omega)
  rw [e] at h2
  rw [h1, cutL_free c _ h2, e]
theorem cut_next {c : Int} {l : List Int} {done : List (List Int)} {f k : Nat} (hk : k < l.length) (hf : f ≤ k) (h1 : cutL c l = done ++ cutL c (l.drop f)) (h2 : ∀ x ∈ (l.drop f).take (k - f), x ≠ c) (hc : l.getD k 0 = c) : cutL c l = (done ++ [(l.drop f).take (k - f)]) ++ cutL c (l.drop (k + 1)) := by
  have e : l.drop f = (l.drop f).take (k - f) ++ c :: l.drop (k + 1) := by
    have e1 := (List.take_append_drop (k - f) (l.drop f)).symm
    rw [List.drop_drop, show f + (k - f) = k by omega, List.drop_eq_getElem_cons hk] at e1
    rw [← hc, List.getD, List.getElem?_eq_getElem hk]
    exact e1
  rw [h1]
  conv => lhs; rw [e, cutL_at c _ _ h2]
  simp
theorem cut_more {c : Int} {l : List Int} {f k : Nat} (hk : k < l.length) (hf : f ≤ k) (h2 : ∀ x ∈ (l.drop f).take (k - f), x ≠ c) (hc : l.getD k 0 ≠ c) : ∀ x ∈ (l.drop f).take (k + 1 - f), x ≠ c := by
  intro x hx
  rw [show k + 1 - f = (k - f) + 1 by omega, List.take_add_one] at hx
  rcases List.mem_append.1 hx with hx | hx
  · exact h2 x hx
  · have e : (l.drop f)[k - f]? = some (l.getD k 0) := by
      rw [List.getElem?_drop, show f + (k - f) = k by omega, List.getElem?_eq_getElem hk]; simp [List.getD, hk]
    rw [e] at hx
    simp only [Option.toList, List.mem_singleton] at hx
    rw [hx]; exact hc
theorem bel2v {w w1 w2 : World} (h : Below w.heap.size w w1) (k : Below w1.heap.size w1 w2) : Below w.heap.size w w2 := h.trans (k.mono h.size)
theorem infoS : (Tryd.prog.info? 9).map (fun i => (i.zero, i.size, i.bytes)) = some (some (.string ⟨#[]⟩), 1, 16) := by kernel_rfl

set_option maxRecDepth 4000 in
set_option maxHeartbeats 4000000 in
theorem cut_any (s : ByteArray) (c : Int) (w : World) (hs : s.size ≤ 100000) :
    Calls Tryd.prog 28 #[.string s, .int .u8 c] w fun e w' => ∃ r, e = .returned r ∧ RowV w' w.heap.size 9 r (txtsL (cutL c (bytesOf s))) ∧ Below w.heap.size w w' := by
  have HS : Hid (s.size ≤ 100000) := hs
  have hm : (s.size : Int) ≤ 100000 := by omega
  obtain ⟨l, hl⟩ : ∃ l, bytesOf s = l := ⟨_, rfl⟩
  have HLE : Hid (bytesOf s = l ∧ l.length = s.size) := ⟨hl, by rw [← hl]; exact bytesOf_len s⟩
  rw [hl]
  clear hs hl
  go_enter Tryd.func28, Tryd.ntmps28
  go_wp2
  go_loopw [5, 6, 7] (fun o f i wr => ∃ (k from_ : Nat) (done : List (List Int)), k ≤ s.size + 1 ∧ from_ ≤ k ∧ i = .int .i64 (k : Int) ∧ f = .int .i64 (from_ : Int) ∧
      Hid ((k ≤ s.size → cutL c l = done ++ cutL c (l.drop from_) ∧ ∀ x ∈ (l.drop from_).take (k - from_), x ≠ c) ∧ (k = s.size + 1 → cutL c l = done) ∧ done.length ≤ k ∧ RowV wr w.heap.size 9 o (txtsL done) ∧ Below w.heap.size w wr)) (fun _ _ i _ => s.size + 1 - (intOf i).toNat)
  case atStart => exact ⟨0, 0, [], Nat.zero_le _, Nat.le_refl _, rfl, rfl, ⟨fun _ => ⟨rfl, fun x hx => by simp at hx⟩, fun h => by omega, Nat.le_refl _, rowV_nil _ _ _, Below.refl _ _⟩⟩
  case round =>
    obtain ⟨k, from_, done, hk, hf, rfl, rfl, HR⟩ := hrel
    have i2 : (0 : Int) ≤ (from_ : Int) := by omega
    have i3 : (from_ : Int) ≤ (k : Int) := by omega
    have i4 : (0 : Int) ≤ (k : Int) := by omega
    by_cases h1 : k = s.size + 1
    · have HE : Hid (RowV wr w.heap.size 9 u5 (txtsL (cutL c l)) ∧ Below w.heap.size w wr) := by
        rw [HR.out.2.1 h1]; exact HR.out.2.2.2
      have h2 : ¬ (k : Int) ≤ (s.size : Int) := by omega
      clear HR h1
      go_wp2
      go_ret
      exact ⟨_, rfl, HE.out⟩
    · have hks : k ≤ s.size := by omega
      have h2 : (k : Int) ≤ (s.size : Int) := by omega
      obtain ⟨g1, g2⟩ := HR.out.1 hks
      have HG : Hid (cutL c l = done ++ cutL c (l.drop from_) ∧ ∀ x ∈ (l.drop from_).take (k - from_), x ≠ c) := ⟨g1, g2⟩
      clear g1 g2
      by_cases h3 : k = s.size
      · have h4 : ((k : Int) == (s.size : Int)) = true := by rw [h3]; simp
        have HC : Hid (cutL c l = done ++ [(l.drop from_).take (k - from_)]) := cut_last (by rw [HLE.out.2]; exact h3) HG.out.1 HG.out.2
        have H3 : Hid (k = s.size) := h3
        clear h3 h1 HG
        have B1 : Hid (Below wr.heap.size wr (wr.alloc (.cells #[.string (s.extract from_ k)] 9))) := (Below.refl _ _).alloc (Nat.le_refl _) _
        have S1 : Hid (Sees (wr.alloc (.cells #[.string (s.extract from_ k)] 9)) (.slice (some ⟨wr.heap.size, 0, none⟩) 1 1) [.string (s.extract from_ k)]) := sees_one _ _ _ _ rfl
        have hd : done.length ≤ 100001 := by have := HR.out.2.2.1; omega
        have HD : Hid (done.length ≤ 100001) := hd
        clear hd
        go_wp2_with (at_builtin; refine wpList_appV Tryd.underlying23 infoS rfl (by decide) rfl _ _ rfl w.heap.size u5 (txtsL done) rfl (HR.out.2.2.2.1.below B1.out) (.slice (some ⟨wr.heap.size, 0, none⟩) 1 1) _ rfl S1.out ?c1 ?c2 ?c3 ?_)
        case c1 => first | rfl | (intro y hy; simp at hy; subst hy; rfl)
        case c2 => have := HD.out; rw [txtsL_len]; simp; omega
        case c3 => have := HR.out.2.2.2.2.size; simp; omega
        intro l3 w3 hr hb3
        have HN : Hid (∃ (k' from' : Nat) (done' : List (List Int)), k' ≤ s.size + 1 ∧ from' ≤ k' ∧ (.int .i64 ((k : Int) + 1) : Value) = .int .i64 (k' : Int) ∧ (.int .i64 ((k : Int) + 1) : Value) = .int .i64 (from' : Int) ∧
          Hid ((k' ≤ s.size → cutL c l = done' ++ cutL c (l.drop from') ∧ ∀ x ∈ (l.drop from').take (k' - from'), x ≠ c) ∧ (k' = s.size + 1 → cutL c l = done') ∧ done'.length ≤ k' ∧ RowV w3 w.heap.size 9 l3 (txtsL done') ∧ Below w.heap.size w w3)) :=
          ⟨k + 1, k + 1, done ++ [(l.drop from_).take (k - from_)], by omega, Nat.le_refl _, by simp, by simp, fun h => by have := H3.out; omega, fun _ => HC.out, by simp; exact HR.out.2.2.1, by
            unfold txtsL at *
            rw [List.map_append, List.map_cons, List.map_nil, ← HLE.out.1, ← extract_strOf]; exact hr, (bel2v HR.out.2.2.2.2 B1.out).trans hb3⟩
        clear hr hb3 B1 S1 HR HC HD
        go_wp2
        go_roundw
        case rel => exact HN.out
        case measure => simp [intOf]; omega
      · have hkl : k < s.size := by omega
        have h4 : ((k : Int) == (s.size : Int)) = false := beq_eq_false_iff_ne.2 (by omega)
        have h5 : (k : Int) < (s.size : Int) := by omega
        have hb := byte_at s k hkl
        rw [HLE.out.1] at hb
        have hkl2 : k < l.length := by rw [HLE.out.2]; exact hkl
        by_cases h6 : l.getD k 0 = c
        · have h7 : (((s[k]'hkl).toNat : Int) == c) = true := by rw [hb, h6]; simp
          have HC : Hid (cutL c l = (done ++ [(l.drop from_).take (k - from_)]) ++ cutL c (l.drop (k + 1))) := cut_next hkl2 hf HG.out.1 HG.out.2 h6
          clear h1 h3 HG hb h6 hkl2
          have B1 : Hid (Below wr.heap.size wr (wr.alloc (.cells #[.string (s.extract from_ k)] 9))) := (Below.refl _ _).alloc (Nat.le_refl _) _
          have S1 : Hid (Sees (wr.alloc (.cells #[.string (s.extract from_ k)] 9)) (.slice (some ⟨wr.heap.size, 0, none⟩) 1 1) [.string (s.extract from_ k)]) := sees_one _ _ _ _ rfl
          have hd : done.length ≤ 100001 := by have := HR.out.2.2.1; omega
          have HD : Hid (done.length ≤ 100001) := hd
          clear hd
          go_wp2_with (at_builtin; refine wpList_appV Tryd.underlying23 infoS rfl (by decide) rfl _ _ rfl w.heap.size u5 (txtsL done) rfl (HR.out.2.2.2.1.below B1.out) (.slice (some ⟨wr.heap.size, 0, none⟩) 1 1) _ rfl S1.out ?c1 ?c2 ?c3 ?_)
          case c1 => first | rfl | (intro y hy; simp at hy; subst hy; rfl)
          case c2 => have := HD.out; rw [txtsL_len]; simp; omega
          case c3 => have := HR.out.2.2.2.2.size; simp; omega
          intro l3 w3 hr hb3
          have HN : Hid (∃ (k' from' : Nat) (done' : List (List Int)), k' ≤ s.size + 1 ∧ from' ≤ k' ∧ (.int .i64 ((k : Int) + 1) : Value) = .int .i64 (k' : Int) ∧ (.int .i64 ((k : Int) + 1) : Value) = .int .i64 (from' : Int) ∧
            Hid ((k' ≤ s.size → cutL c l = done' ++ cutL c (l.drop from') ∧ ∀ x ∈ (l.drop from').take (k' - from'), x ≠ c) ∧ (k' = s.size + 1 → cutL c l = done') ∧ done'.length ≤ k' ∧ RowV w3 w.heap.size 9 l3 (txtsL done') ∧ Below w.heap.size w w3)) :=
            ⟨k + 1, k + 1, done ++ [(l.drop from_).take (k - from_)], by omega, Nat.le_refl _, by simp, by simp, fun _ => ⟨HC.out, fun x hx => by simp at hx⟩, fun h => by omega, by simp; exact HR.out.2.2.1, by
              unfold txtsL at *
              rw [List.map_append, List.map_cons, List.map_nil, ← HLE.out.1, ← extract_strOf]; exact hr, (bel2v HR.out.2.2.2.2 B1.out).trans hb3⟩
          clear hr hb3 B1 S1 HR HC HD
          go_wp2
          go_roundw
          case rel => exact HN.out
          case measure => simp [intOf]; omega
        · have h7 : (((s[k]'hkl).toNat : Int) == c) = false := by rw [hb]; exact beq_eq_false_iff_ne.2 h6
          have HM := cut_more hkl2 hf HG.out.2 h6
          have HN : Hid ((k + 1 ≤ s.size → cutL c l = done ++ cutL c (l.drop from_) ∧ ∀ x ∈ (l.drop from_).take (k + 1 - from_), x ≠ c) ∧ (k + 1 = s.size + 1 → cutL c l = done) ∧ done.length ≤ k + 1 ∧ RowV wr w.heap.size 9 u5 (txtsL done) ∧ Below w.heap.size w wr) :=
            ⟨fun _ => ⟨HG.out.1, HM⟩, fun h => by omega, Nat.le_succ_of_le HR.out.2.2.1, HR.out.2.2.2⟩
          clear h1 h3 HG hb h6 hkl2 HM HR
          go_wp2
          go_roundw
          case rel => exact ⟨k + 1, from_, done, by omega, by omega, by simp, rfl, HN.out⟩
          case measure => simp [intOf]; omega
end Go.Proofs.YtlnhkdiecfccaaaDoor
