/- names.pieces, broken, Split: what one call answers. -/
import Derived.Test.YtlnhkdiecfccaaaDoorNFns0
import Derived.Test.YtlnhkdiecfccaaaDoorShelf
import Derived.Lib.SplitLaws
import Derived.Lib.IndexMore
namespace Go.Proofs.YtlnhkdiecfccaaaDoor
open Go.RowKit Kit
set_option linter.unusedVariables false

theorem index_byte (c : UInt8) : ∀ s : List UInt8, Lib.index s [c] = Lib.indexByte s c := by
  intro s
  induction s with
  | nil => rfl
  | cons b l ih =>
    unfold Lib.index Lib.indexByte
    rw [ih]
    by_cases h : b = c
    · subst h; simp [List.isPrefixOf]
    · have h2 : (c == b) = false := beq_eq_false_iff_ne.2 (fun e => h e.symm)
      have h3 : (b == c) = false := beq_eq_false_iff_ne.2 h
      simp [List.isPrefixOf, h2, h3]
set_option maxHeartbeats 1000000 in
theorem sindex_any (x : ByteArray) (w : World) : Calls Tryd.prog 68 #[.string x, .string ⟨#[47]⟩] w fun e w' => e = .returned (.int .i64 (Lib.indexB x ⟨#[47]⟩)) ∧ w' = w := by
  have HX : Hid (Calls Tryd.prog 80 #[.string x, .string ⟨#[47]⟩] w fun e w' => e = .returned (.int .i64 (Lib.indexB x ⟨#[47]⟩)) ∧ w' = w) := by
    have h := Any.stringslite_Index_one Tryd.lays219 x 47 w
    have e : Lib.indexB x ⟨#[47]⟩ = Lib.indexByte x.data.toList 47 := index_byte 47 x.data.toList
    show Calls _ _ _ _ _
    rw [e]
    exact h
  go_enter Tryd.func68, Tryd.ntmps68
  go_wp2_with fail
  go_at_call 80
  refine HX.out.mono ?_
  rintro e1 w1 ⟨rfl, rfl⟩
  clear HX
  go_wp2
  go_ret
  exact ⟨rfl, rfl⟩
/-- What stands between the slashes. -/
def cutB (s : ByteArray) : List ByteArray := (cutL 47 (bytesOf s)).map strOf
set_option maxHeartbeats 1000000 in
theorem ssplit_any (s : ByteArray) (w : World) (hs : s.size ≤ 1000) : Calls Tryd.prog 41 #[.string s, .string ⟨#[47]⟩] w fun e w' =>
    e = .returned (.slice (some ⟨w.heap.size, 0, none⟩) (cutB s).length (cutB s).length) ∧ w' = w.alloc (.cells (strs (cutB s)).toArray 9) := by
  have hle := Lib.countB_le ⟨#[47]⟩ (by decide) s.size s (Nat.le_refl _)
  have hlen := Lib.splitB_all ⟨#[47]⟩ (by decide) 0 _ s rfl
  have hcut : Lib.splitB ⟨#[47]⟩ 0 (Lib.countB s ⟨#[47]⟩) s = cutB s := split_cut s.size s (Nat.le_refl _)
  have hC : Calls Tryd.prog 67 #[.string s, .string ⟨#[47]⟩] w fun e w' => e = .returned (.int .i64 (Lib.countB s ⟨#[47]⟩)) ∧ w' = w := by
    have h := Any.strings_Count_one Tryd.lays138 s 47 w
    have e : Lib.countB s ⟨#[47]⟩ = Lib.countByte s.data.toList 47 := Lib.count_one 47 s.data.toList
    rw [e]
    exact h
  have HG : Hid (Calls Tryd.prog 52 #[.string s, .string ⟨#[47]⟩, .int .i64 0, .int .i64 (-1)] w fun e w' =>
      e = .returned (.slice (some ⟨w.heap.size, 0, none⟩) (cutB s).length (cutB s).length) ∧ w' = w.alloc (.cells (strs (cutB s)).toArray 9)) := by
    have h := Any.strings_genSplit_core Tryd.lays221 (by kernel_rfl) s ⟨#[47]⟩ 0 (-1) (Lib.countB s ⟨#[47]⟩ + 1) w (by omega) (by decide) (Nat.zero_le _) (fun x c _ => sindex_any x _) hC (by decide) (by decide) (by rw [if_pos (by decide)]; omega)
    rw [Nat.add_sub_cancel, hlen] at h
    have e2 : Lib.cellsOf (Lib.splitB ⟨#[47]⟩ 0 (Lib.countB s ⟨#[47]⟩) s) (Lib.countB s ⟨#[47]⟩ + 1) = (strs (cutB s)).toArray := by
      rw [← hlen, Lib.cellsOf_full, hcut]; rfl
    rw [e2] at h
    rw [hcut] at hlen
    rw [hlen]
    exact h
  clear hC hcut hlen hle hs
  go_enter Tryd.func41, Tryd.ntmps41
  go_wp2_with fail
  go_at_call 52
  refine HG.out.mono ?_
  rintro e1 w1 ⟨rfl, rfl⟩
  clear HG
  go_wp2
  go_ret
  exact ⟨rfl, rfl⟩
/-- A path's pieces. -/
def piecesB (s : ByteArray) : List ByteArray := if s = ⟨#[47]⟩ then [] else partsB s
theorem sees_none (w : World) : Sees w (.slice none 0 0) (strs []) := ⟨none, 0, rfl, by simp [strs], by simp, fun _ => rfl, fun h => by simp [strs] at h⟩
theorem cutL_num (c : Int) : ∀ l : List Int, (cutL c l).length ≤ l.length + 1
  | [] => by simp [cutL]
  | x :: r => by
    have ih := cutL_num c r
    rw [cutL]
    split
    · simp; omega
    · cases h : cutL c r with
      | nil => simp
      | cons p q => rw [h] at ih; simp at ih ⊢; omega
theorem sees_cells (w : World) (l : List ByteArray) (hl : l.length ≤ maxLen) (t : TypeId) : Sees (w.alloc (.cells (strs l).toArray t)) (.slice (some ⟨w.heap.size, 0, none⟩) l.length l.length) (strs l) := by
  have h := (rowV_lit w 0 t (strs l) (Nat.zero_le _) (by rw [strs_len]; exact hl)).sees
  rw [strs_len] at h
  exact h
set_option maxHeartbeats 1000000 in
theorem pieces_any (s : ByteArray) (w : World) (hs : s.size ≤ 200) (h0 : 0 < s.size) : Calls Tryd.prog 27 #[.string s] w fun e w' => ∃ r, e = .returned r ∧ Sees w' r (strs (piecesB s)) ∧ Below w.heap.size w w' := by
  by_cases h1 : s = ⟨#[47]⟩
  · have HP : Hid (piecesB s = []) := by show _ = _; unfold piecesB; rw [if_pos h1]
    subst h1
    clear hs h0
    go_enter Tryd.func27, Tryd.ntmps27
    go_wp2
    go_ret
    rw [HP.out]
    exact ⟨_, rfl, sees_none _, Below.refl _ _⟩
  · have HP : Hid (piecesB s = cutB (s.extract 1 s.size)) := by show _ = _; unfold piecesB; rw [if_neg h1]; rfl
    have q1 : (s.toList == [47]) = false := beq_eq_false_iff_ne.2 (by rw [Ne, toList_eq_iff]; exact h1)
    have HX : Hid (Calls Tryd.prog 41 _ _ _) := ssplit_any (s.extract 1 s.size) w (by rw [ByteArray.size_extract]; omega)
    have hz : (s.extract 1 s.size).size ≤ 200 := by rw [ByteArray.size_extract]; omega
    have HL : Hid ((cutB (s.extract 1 s.size)).length ≤ maxLen) := by
      have := cutL_num 47 (bytesOf (s.extract 1 s.size))
      rw [bytesOf_len] at this
      show _ ≤ _
      unfold cutB maxLen
      rw [List.length_map]
      omega
    have i1 : (1 : Int) ≤ (s.size : Int) := by omega
    have i2 : (s.size : Int) ≤ 200 := by omega
    clear h1 hs h0 hz
    go_enter Tryd.func27, Tryd.ntmps27
    go_wp2_with fail
    go_at_call 41
    refine HX.out.mono ?_
    rintro e1 w1 ⟨rfl, rfl⟩
    clear HX
    go_wp2
    go_ret
    rw [HP.out]
    exact ⟨_, rfl, sees_cells w _ HL.out _, (Below.refl _ _).alloc (Nat.le_refl _) _⟩
end Go.Proofs.YtlnhkdiecfccaaaDoor
