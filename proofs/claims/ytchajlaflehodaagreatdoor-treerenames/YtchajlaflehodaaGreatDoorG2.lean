/- Several texts in one: First More NSplit TLaw TLinks. -/
import Derived.Test.YtchajlaflehodaaGreatDoorMIs
import Derived.Test.YtchajlaflehodaaGreatDoorMNFns0
import Derived.Test.YtchajlaflehodaaGreatDoorMShelf
import Derived.Lib.SplitLaws
import Derived.Lib.IndexMore
import Derived.Test.YtchajlaflehodaaGreatDoorG1
/- The first one of a type within; what errors.as leaves. -/
namespace Go.Proofs.YtchajlaflehodaaGreatDoor
open Go.RowKit Go.Extern.Stop Go.Stop Go.Extern
set_option linter.unusedVariables false

def firstOf (T : Nat) (ns : List Nd) : Option Value := (ns.find? fun x => x.1 == T).map fun x => x.2.1
theorem firstOf_skip (T t : Nat) (x : Value × List (ByteArray × ByteArray)) (ns : List Nd) (h : (t == T) = false) : firstOf T ((t, x) :: ns) = firstOf T ns := by
  unfold firstOf; rw [List.find?_cons]; simp only [h]
theorem firstOf_hit (T : Nat) (x : Value) (l : List (ByteArray × ByteArray)) (ns : List Nd) : firstOf T ((T, x, l) :: ns) = some x := by
  unfold firstOf; rw [List.find?_cons]; simp
theorem firstOf_nil (T : Nat) : firstOf T [] = none := rfl
theorem firstOf_left (T : Nat) (a b : List Nd) (x : Value) (h : firstOf T a = some x) : firstOf T (a ++ b) = some x := by
  unfold firstOf at *
  rw [List.find?_append]
  obtain ⟨y, hy, rfl⟩ := Option.map_eq_some_iff.1 h
  rw [hy]; rfl
theorem firstOf_right (T : Nat) (a b : List Nd) (h : firstOf T a = none) : firstOf T (a ++ b) = firstOf T b := by
  unfold firstOf at *
  rw [List.find?_append]
  rw [Option.map_eq_none_iff.1 h]; rfl
theorem chainOf_skip (t : Nat) (x : Value × List (ByteArray × ByteArray)) (ns : List Nd) (h : (t == 86) = false) : chainOf ((t, x) :: ns) = chainOf ns := by
  unfold chainOf; rw [List.find?_cons]; simp only [h]
theorem chainOf_hit (x : Value) (l : List (ByteArray × ByteArray)) (ns : List Nd) : chainOf ((86, x, l) :: ns) = l := by
  unfold chainOf; rw [List.find?_cons]; simp
theorem chainOf_none (ns : List Nd) (h : firstOf 86 ns = none) : chainOf ns = [] := by
  unfold chainOf firstOf at *
  rw [Option.map_eq_none_iff.1 h]; rfl
theorem chainOf_left (a b : List Nd) (x : Value) (h : firstOf 86 a = some x) : chainOf (a ++ b) = chainOf a := by
  unfold chainOf firstOf at *
  rw [List.find?_append]
  obtain ⟨y, hy, rfl⟩ := Option.map_eq_some_iff.1 h
  rw [hy]; rfl
theorem chainOf_right (a b : List Nd) (h : firstOf 86 a = none) : chainOf (a ++ b) = chainOf b := by
  unfold chainOf firstOf at *
  rw [List.find?_append]
  rw [Option.map_eq_none_iff.1 h]; rfl
/-- The first Fault within: its cells, and what is within its own error. -/
theorem Pre.fault {w : World} : ∀ {f : Nat} {v : Value} {ns : List Nd} {x : Value}, Pre w f v ns → firstOf 86 ns = some x →
    ∃ (b : Nat) (op path : ByteArray) (e : Value) (ms : List Nd) (k : Nat), x = .pointer (some ⟨b, 0, none⟩) ∧ w.cell? ⟨b, 0, none⟩ = some (.string op) ∧ w.cell? ⟨b, 1, none⟩ = some (.string path) ∧ w.cell? ⟨b, 2, none⟩ = some e ∧ (op.size ≤ 1000 ∧ path.size ≤ 1000) ∧ e ≠ .nilIface ∧ Pre w k e ms ∧ k < f ∧ chainOf ns = (op, path) :: chainOf ms
  | 0, v, ns, x, h, hx => by rw [h.2] at hx; cases hx
  | f + 1, v, ns, x, h, hx => by
    rcases h with h | ⟨m, h, hm⟩ | ⟨b, op, path, e, ms', h, h2, h3, h4, h9, h5, h6, hm⟩
    · rw [h.2] at hx; cases hx
    · subst hm; rw [firstOf_skip 86 68 _ _ rfl, firstOf_nil] at hx; cases hx
    · subst hm
      rw [firstOf_hit] at hx
      cases hx
      exact ⟨b, op, path, e, ms', f, rfl, h2, h3, h4, h9, h5, h6, Nat.lt_succ_self _, chainOf_hit _ _ _⟩
/-- What errors.as leaves: nothing that was there has turned; or the target holds x. -/
def AsPost (w w' : World) (t : Addr) : Option Value → Prop
  | none => Below w.heap.size w w'
  | some x => ∃ w1, Below w.heap.size w w1 ∧ w' = w1.setCell t x
theorem frozen_old {w w' : World} {a : Addr} {v : Value} (hb : Below w.heap.size w w') (h : w.cell? a = some v) (hf : w.frozen? a = false) : w'.frozen? a = false := by
  have hlt : a.block < w.heap.size := by
    rcases Nat.lt_or_ge a.block w.heap.size with h' | h'
    · exact h'
    · simp [World.cell?, Array.getElem?_eq_none h'] at h
  exact (hb.frozen hlt).trans hf
theorem AsPost.from {w w0 w' : World} {t : Addr} {r : Option Value} (h : AsPost w0 w' t r) (hb : Below w.heap.size w w0) : AsPost w w' t r := by
  cases r with
  | none => exact bel2e hb h
  | some x => obtain ⟨w1, h1, h2⟩ := h; exact ⟨w1, bel2e hb h1, h2⟩
end Go.Proofs.YtchajlaflehodaaGreatDoor
/- Of an error: its numbers; how long its chain is; what single Unwraps lead to. -/
namespace Go.Proofs.YtchajlaflehodaaGreatDoor
open Go.RowKit Go.Extern.Stop Go.Stop Go.Extern
set_option linter.unusedVariables false

theorem nums_skip (t : Nat) (x : Value × List (ByteArray × ByteArray)) (a : List Nd) (h : (t == 68) = false) : nums ((t, x) :: a) = nums a := by unfold nums; simp [h]
/-- The first number within. -/
theorem Pre.number {w : World} : ∀ {f : Nat} {v : Value} {ns : List Nd}, Pre w f v ns → (firstOf 68 ns = none ∧ nums ns = []) ∨ ∃ n l, firstOf 68 ns = some (.int .i64 n) ∧ nums ns = n :: l
  | 0, v, ns, h => .inl ⟨by rw [h.2]; rfl, by rw [h.2]; rfl⟩
  | f + 1, v, ns, h => by
    rcases h with h | ⟨m, h, hm⟩ | ⟨b, op, path, e, ms', h, h2, h3, h4, h9, h5, h6, hm⟩
    · exact .inl ⟨by rw [h.2]; rfl, by rw [h.2]; rfl⟩
    · subst hm; exact .inr ⟨m, [], firstOf_hit _ _ _ _, rfl⟩
    · subst hm; rw [firstOf_skip 68 86 _ _ rfl, nums_skip 86 _ _ rfl]; exact Pre.number h6
/-- A chain is no longer than the error is deep. -/
theorem Pre.short {w : World} : ∀ (f : Nat) {v : Value} {ns : List Nd}, Pre w f v ns → (chainOf ns).length ≤ f := by
  intro f
  induction f using Nat.strongRecOn with
  | _ f ih =>
    intro v ns h
    rcases hh : firstOf 86 ns with _ | x
    · rw [chainOf_none _ hh]; simp
    · obtain ⟨b, op, path, e, ms, k, _, _, _, _, _, _, h7, h8, h9⟩ := Pre.fault h hh
      have := ih k h8 h7
      rw [h9]; simp; omega
/-- What single Unwraps lead to: the Faults ahead are gone. -/
def innerOf (ns : List Nd) : List Nd := ns.dropWhile fun x => x.1 == 86
theorem innerOf_fault (x : Value × List (ByteArray × ByteArray)) (ns : List Nd) : innerOf ((86, x) :: ns) = innerOf ns := by unfold innerOf; simp
theorem innerOf_skip (t : Nat) (x : Value × List (ByteArray × ByteArray)) (ns : List Nd) (h : (t == 86) = false) : innerOf ((t, x) :: ns) = (t, x) :: ns := by unfold innerOf; simp [h]
theorem pre_num (w : World) (f : Nat) (n : Int) : Pre w (f + 1) (.iface 68 (.int .i64 n)) [(68, .int .i64 n, [])] := .inr (.inl (⟨n, rfl, rfl⟩))
theorem pre_fault {w : World} {f b : Nat} {op path : ByteArray} {e : Value} {ms : List Nd} (h2 : w.cell? ⟨b, 0, none⟩ = some (.string op)) (h3 : w.cell? ⟨b, 1, none⟩ = some (.string path)) (h4 : w.cell? ⟨b, 2, none⟩ = some e) (ho : op.size ≤ 1000) (ha : path.size ≤ 1000) (he : e ≠ .nilIface) (hp : Pre w f e ms) :
    Pre w (f + 1) (.iface 86 (.pointer (some ⟨b, 0, none⟩))) ((86, .pointer (some ⟨b, 0, none⟩), (op, path) :: chainOf ms) :: ms) := .inr (.inr (⟨b, op, path, e, ms, rfl, h2, h3, h4, ⟨ho, ha⟩, he, hp, rfl⟩))
end Go.Proofs.YtchajlaflehodaaGreatDoor
/- names.pieces, broken, Split: what one call answers. -/
namespace Go.Proofs.YtchajlaflehodaaGreatDoor
open Go.RowKit Kit
set_option linter.unusedVariables false

theorem index_byte (c : UInt8) : ∀ s : List UInt8, Lib.index s [c] = Lib.indexByte s c := by
  intro s
  induction s with
  | nil => rfl
  | cons b l ih =>
    unfold Lib.index Lib.indexByte
    rw [ih]
    by_cases h : b = c
    · subst h; simp [List.isPrefixOf]
    · have h2 : (c == b) = false := beq_eq_false_iff_ne.2 (fun e => h e.symm)
      have h3 : (b == c) = false := beq_eq_false_iff_ne.2 h
      simp [List.isPrefixOf, h2, h3]
set_option maxHeartbeats 1000000 in
theorem sindex_any (x : ByteArray) (w : World) : Calls Tryz.prog 120 #[.string x, .string ⟨#[47]⟩] w fun e w' => e = .returned (.int .i64 (Lib.indexB x ⟨#[47]⟩)) ∧ w' = w := by
  have HX : Hid (Calls Tryz.prog 129 #[.string x, .string ⟨#[47]⟩] w fun e w' => e = .returned (.int .i64 (Lib.indexB x ⟨#[47]⟩)) ∧ w' = w) := by
    have h := Any.stringslite_Index_one Tryz.lays219 x 47 w
    have e : Lib.indexB x ⟨#[47]⟩ = Lib.indexByte x.data.toList 47 := index_byte 47 x.data.toList
    show Calls _ _ _ _ _
    rw [e]
    exact h
  go_enter Tryz.func120, Tryz.ntmps120
  go_wp2_with fail
  go_at_call 129
  refine HX.out.mono ?_
  rintro e1 w1 ⟨rfl, rfl⟩
  clear HX
  go_wp2
  go_ret
  exact ⟨rfl, rfl⟩
/-- What stands between the slashes. -/
def cutB (s : ByteArray) : List ByteArray := (cutL 47 (bytesOf s)).map strOf
set_option maxHeartbeats 1000000 in
theorem ssplit_any (s : ByteArray) (w : World) (hs : s.size ≤ 1000) : Calls Tryz.prog 83 #[.string s, .string ⟨#[47]⟩] w fun e w' =>
    e = .returned (.slice (some ⟨w.heap.size, 0, none⟩) (cutB s).length (cutB s).length) ∧ w' = w.alloc (.cells (strs (cutB s)).toArray 9) := by
  have hle := Lib.countB_le ⟨#[47]⟩ (by decide) s.size s (Nat.le_refl _)
  have hlen := Lib.splitB_all ⟨#[47]⟩ (by decide) 0 _ s rfl
  have hcut : Lib.splitB ⟨#[47]⟩ 0 (Lib.countB s ⟨#[47]⟩) s = cutB s := split_cut s.size s (Nat.le_refl _)
  have hC : Calls Tryz.prog 119 #[.string s, .string ⟨#[47]⟩] w fun e w' => e = .returned (.int .i64 (Lib.countB s ⟨#[47]⟩)) ∧ w' = w := by
    have h := Any.strings_Count_one Tryz.lays138 s 47 w
    have e : Lib.countB s ⟨#[47]⟩ = Lib.countByte s.data.toList 47 := Lib.count_one 47 s.data.toList
    rw [e]
    exact h
  have HG : Hid (Calls Tryz.prog 105 #[.string s, .string ⟨#[47]⟩, .int .i64 0, .int .i64 (-1)] w fun e w' =>
      e = .returned (.slice (some ⟨w.heap.size, 0, none⟩) (cutB s).length (cutB s).length) ∧ w' = w.alloc (.cells (strs (cutB s)).toArray 9)) := by
    have h := Any.strings_genSplit_core Tryz.lays221 (by kernel_rfl) s ⟨#[47]⟩ 0 (-1) (Lib.countB s ⟨#[47]⟩ + 1) w (by omega) (by decide) (Nat.zero_le _) (fun x c _ => sindex_any x _) hC (by decide) (by decide) (by rw [if_pos (by decide)]; omega)
    rw [Nat.add_sub_cancel, hlen] at h
    have e2 : Lib.cellsOf (Lib.splitB ⟨#[47]⟩ 0 (Lib.countB s ⟨#[47]⟩) s) (Lib.countB s ⟨#[47]⟩ + 1) = (strs (cutB s)).toArray := by
      rw [← hlen, Lib.cellsOf_full, hcut]; rfl
    rw [e2] at h
    rw [hcut] at hlen
    rw [hlen]
    exact h
  clear hC hcut hlen hle hs
  go_enter Tryz.func83, Tryz.ntmps83
  go_wp2_with fail
  go_at_call 105
  refine HG.out.mono ?_
  rintro e1 w1 ⟨rfl, rfl⟩
  clear HG
  go_wp2
  go_ret
  exact ⟨rfl, rfl⟩
/-- A path's pieces. -/
def piecesB (s : ByteArray) : List ByteArray := if s = ⟨#[47]⟩ then [] else partsB s
theorem sees_none (w : World) : Sees w (.slice none 0 0) (strs []) := ⟨none, 0, rfl, by simp [strs], by simp, fun _ => rfl, fun h => by simp [strs] at h⟩
theorem cutL_num (c : Int) : ∀ l : List Int, (cutL c l).length ≤ l.length + 1
  | [] => by simp [cutL]
  | x :: r => by
    have ih := cutL_num c r
    rw [cutL]
    split
    · simp; omega
    · cases h : cutL c r with
      | nil => simp
      | cons p q => rw [h] at ih; simp at ih ⊢; omega
theorem sees_cells (w : World) (l : List ByteArray) (hl : l.length ≤ maxLen) (t : TypeId) : Sees (w.alloc (.cells (strs l).toArray t)) (.slice (some ⟨w.heap.size, 0, none⟩) l.length l.length) (strs l) := by
  have h := (rowV_lit w 0 t (strs l) (Nat.zero_le _) (by rw [strs_len]; exact hl)).sees
  rw [strs_len] at h
  exact h
set_option maxHeartbeats 1000000 in
theorem pieces_any (s : ByteArray) (w : World) (hs : s.size ≤ 200) (h0 : 0 < s.size) : Calls Tryz.prog 56 #[.string s] w fun e w' => ∃ r, e = .returned r ∧ Sees w' r (strs (piecesB s)) ∧ Below w.heap.size w w' := by
  by_cases h1 : s = ⟨#[47]⟩
  · have HP : Hid (piecesB s = []) := by show _ = _; unfold piecesB; rw [if_pos h1]
    subst h1
    clear hs h0
    go_enter Tryz.func56, Tryz.ntmps56
    go_wp2
    go_ret
    rw [HP.out]
    exact ⟨_, rfl, sees_none _, Below.refl _ _⟩
  · have HP : Hid (piecesB s = cutB (s.extract 1 s.size)) := by show _ = _; unfold piecesB; rw [if_neg h1]; rfl
    have q1 : (s.toList == [47]) = false := beq_eq_false_iff_ne.2 (by rw [Ne, toList_eq_iff]; exact h1)
    have HX : Hid (Calls Tryz.prog 83 _ _ _) := ssplit_any (s.extract 1 s.size) w (by rw [ByteArray.size_extract]; omega)
    have hz : (s.extract 1 s.size).size ≤ 200 := by rw [ByteArray.size_extract]; omega
    have HL : Hid ((cutB (s.extract 1 s.size)).length ≤ maxLen) := by
      have := cutL_num 47 (bytesOf (s.extract 1 s.size))
      rw [bytesOf_len] at this
      show _ ≤ _
      unfold cutB maxLen
      rw [List.length_map]
      omega
    have i1 : (1 : Int) ≤ (s.size : Int) := by omega
    have i2 : (s.size : Int) ≤ 200 := by omega
    clear h1 hs h0 hz
    go_enter Tryz.func56, Tryz.ntmps56
    go_wp2_with fail
    go_at_call 83
    refine HX.out.mono ?_
    rintro e1 w1 ⟨rfl, rfl⟩
    clear HX
    go_wp2
    go_ret
    rw [HP.out]
    exact ⟨_, rfl, sees_cells w _ HL.out _, (Below.refl _ _).alloc (Nat.le_refl _) _⟩
end Go.Proofs.YtchajlaflehodaaGreatDoor
/- What is refused, what only reads, changes nothing; the codes that are told. (No walk of a program in it.) -/
namespace Go.Proofs.YtchajlaflehodaaGreatDoor
open Go.RowKit Kit
set_option linter.unusedVariables false

theorem makes_refused (t : TreeB) (o : OpB) (h : (makesB t o).2.2 ≠ 0) : (makesB t o).1 = t ∧ (makesB t o).2.1 = noReply := by
  unfold makesB at *
  cases hh : homeB t o.path with
  | error x => exact ⟨rfl, rfl⟩
  | ok ds =>
    rw [hh] at h
    simp only at h ⊢
    split
    · exact ⟨rfl, rfl⟩
    · rename_i h1
      rw [if_neg h1] at h
      split
      · exact ⟨rfl, rfl⟩
      · rename_i h2
        rw [if_neg h2] at h
        exact absurd rfl h
theorem removes_refused (t : TreeB) (o : OpB) (h : (removesB t o).2.2 ≠ 0) : (removesB t o).1 = t ∧ (removesB t o).2.1 = noReply := by
  unfold removesB at *
  split
  · exact ⟨rfl, rfl⟩
  · rename_i h1
    rw [if_neg h1] at h
    cases hf : findB t o.path with
    | error x => exact ⟨rfl, rfl⟩
    | ok k =>
      rw [hf] at h
      simp only at h ⊢
      split
      · exact ⟨rfl, rfl⟩
      rename_i h2
      rw [if_neg h2] at h
      split
      · exact ⟨rfl, rfl⟩
      rename_i h3
      rw [if_neg h3] at h
      split
      · exact ⟨rfl, rfl⟩
      rename_i h4
      rw [if_neg h4] at h
      cases hh : homeB t o.path with
      | error x => exact ⟨rfl, rfl⟩
      | ok ds => rw [hh] at h; exact absurd rfl h
theorem rename_refused (t : TreeB) (o : OpB) (h : (renameB t o).2.2 ≠ 0) : (renameB t o).1 = t ∧ (renameB t o).2.1 = noReply := by
  unfold renameB at *
  split
  · exact ⟨rfl, rfl⟩
  rename_i h1
  rw [if_neg h1] at h
  split
  · exact ⟨rfl, rfl⟩
  rename_i h2
  rw [if_neg h2] at h
  cases hf : findB t o.path with
  | error x => exact ⟨rfl, rfl⟩
  | ok k =>
    rw [hf] at h
    simp only at h ⊢
    split
    · exact ⟨rfl, rfl⟩
    rename_i h3
    rw [if_neg h3] at h
    cases hh : homeB t o.to with
    | error x => exact ⟨rfl, rfl⟩
    | ok ds =>
      rw [hh] at h
      simp only at h ⊢
      cases hp : homeB t o.path with
      | error x => exact ⟨rfl, rfl⟩
      | ok po =>
        rw [hp] at h
        simp only at h ⊢
        split
        · rename_i h4
          rw [if_pos h4] at h
          split
          · exact ⟨rfl, rfl⟩
          rename_i h5
          rw [if_neg h5] at h
          split
          · exact ⟨rfl, rfl⟩
          rename_i h6
          rw [if_neg h6] at h
          split
          · exact ⟨rfl, rfl⟩
          rename_i h7
          rw [if_neg h7] at h
          split
          · exact ⟨rfl, rfl⟩
          rename_i h8
          rw [if_neg h8] at h
          exact absurd rfl h
        · rename_i h4
          rw [if_neg h4] at h
          exact absurd rfl h
theorem link_refused (t : TreeB) (o : OpB) (h : (linkB t o).2.2 ≠ 0) : (linkB t o).1 = t ∧ (linkB t o).2.1 = noReply := by
  unfold linkB at *
  split
  · exact ⟨rfl, rfl⟩
  rename_i h1
  rw [if_neg h1] at h
  cases hf : findB t o.path with
  | error x => exact ⟨rfl, rfl⟩
  | ok k =>
    rw [hf] at h
    simp only at h ⊢
    split
    · exact ⟨rfl, rfl⟩
    rename_i h2
    rw [if_neg h2] at h
    cases hh : homeB t o.to with
    | error x => exact ⟨rfl, rfl⟩
    | ok ds =>
      rw [hh] at h
      simp only at h ⊢
      split
      · exact ⟨rfl, rfl⟩
      rename_i h3
      rw [if_neg h3] at h
      split
      · exact ⟨rfl, rfl⟩
      rename_i h4
      rw [if_neg h4] at h
      exact absurd rfl h
theorem file_refused (t : TreeB) (o : OpB) (h : (fileB t o).2.2 ≠ 0) : (fileB t o).1 = t ∧ (fileB t o).2.1 = noReply := by
  unfold fileB at *
  cases hf : findB t o.path with
  | error x => exact ⟨rfl, rfl⟩
  | ok k =>
    rw [hf] at h
    simp only at h ⊢
    split
    · exact ⟨rfl, rfl⟩
    rename_i h1
    rw [if_neg h1] at h
    split
    · rename_i h2
      rw [if_pos h2] at h
      split
      · exact ⟨rfl, rfl⟩
      · rename_i h3; rw [if_neg h3] at h; exact absurd rfl h
    rename_i h2
    rw [if_neg h2] at h
    split
    · rename_i h3
      rw [if_pos h3] at h
      split
      · exact ⟨rfl, rfl⟩
      rename_i h4
      rw [if_neg h4] at h
      split
      · rename_i h5; rw [if_pos h5] at h; exact absurd rfl h
      · rename_i h5; rw [if_neg h5] at h; exact absurd rfl h
    rename_i h3
    rw [if_neg h3] at h
    split
    · exact ⟨rfl, rfl⟩
    · rename_i h4; rw [if_neg h4] at h; exact absurd rfl h
theorem looks_refused (t : TreeB) (o : OpB) (h : (looksB t o).2.2 ≠ 0) : (looksB t o).2.1 = noReply := by
  unfold looksB at *
  cases hf : findB t o.path with
  | error x => rfl
  | ok k =>
    rw [hf] at h
    simp only at h ⊢
    split
    · rename_i h1; rw [if_pos h1] at h; exact absurd rfl h
    · rename_i h1
      rw [if_neg h1] at h
      split
      · rfl
      · rename_i h2; rw [if_neg h2] at h; exact absurd rfl h
/-- What is refused changes nothing. -/
theorem do_refused (t : TreeB) (o : OpB) (h : (doB t o).2.2 ≠ 0) : (doB t o).1 = t ∧ (doB t o).2.1 = noReply := by
  unfold doB at *
  split
  · rename_i h1; rw [if_pos h1] at h; exact makes_refused t o h
  rename_i h1; rw [if_neg h1] at h
  split
  · rename_i h2; rw [if_pos h2] at h; exact removes_refused t o h
  rename_i h2; rw [if_neg h2] at h
  split
  · rename_i h3; rw [if_pos h3] at h; exact rename_refused t o h
  rename_i h3; rw [if_neg h3] at h
  split
  · rename_i h4; rw [if_pos h4] at h; exact link_refused t o h
  rename_i h4; rw [if_neg h4] at h
  split
  · rename_i h5; rw [if_pos h5] at h; exact file_refused t o h
  rename_i h5; rw [if_neg h5] at h
  split
  · rename_i h6; rw [if_pos h6] at h; exact ⟨looks_good o, looks_refused t o h⟩
  · exact ⟨rfl, rfl⟩
def readsB (k : Int) : Bool := k == 7 || k == 10 || k == 11
/-- What only reads changes nothing. -/
theorem do_reads (t : TreeB) (o : OpB) (h : readsB o.kind = true) : (doB t o).1 = t := by
  unfold readsB at h
  simp at h
  unfold doB
  rw [if_neg (by omega), if_neg (by omega), if_neg (by omega), if_neg (by omega)]
  rcases h with (h | h) | h
  · rw [if_pos (.inl h)]
    unfold fileB
    cases hf : findB t o.path with
    | error x => rfl
    | ok k =>
      simp only
      split
      · rfl
      · split <;> first | rfl | (split <;> rfl)
  · rw [if_neg (by omega), if_pos (.inl h)]; exact looks_good o
  · rw [if_neg (by omega), if_pos (.inr h)]; exact looks_good o
theorem find_code {t : TreeB} {p : ByteArray} {x : Int} (h : findB t p = .error x) : x = 2 ∨ x = 3 ∨ x = 4 ∨ x = 5 ∨ x = 8 := by
  unfold findB at h
  split at h
  · rename_i h1
    injection h with h
    subst h
    have h0 := h1
    unfold splitB at h0 ⊢
    split
    · rename_i e; rw [if_pos e] at h0; exact absurd rfl h0
    split
    · exact .inl rfl
    split
    · exact .inl rfl
    split
    · exact .inr (.inl rfl)
    split
    · exact .inr (.inr (.inl rfl))
    · rename_i a b c d e; rw [if_neg a, if_neg b, if_neg c, if_neg d, if_neg e] at h0; exact absurd rfl h0
  · have : ∀ (l : List ByteArray) (k : Nat), walkB t k l = .error x → x = 5 ∨ x = 8 := by
      intro l
      induction l with
      | nil => intro k h; rw [walkB] at h; cases h
      | cons s r ih =>
        intro k h
        rw [walkB] at h
        split at h
        · injection h with h; exact .inr h.symm
        · split at h
          · injection h with h; exact .inl h.symm
          · exact ih _ h
    rcases this _ _ h with h1 | h1
    · exact .inr (.inr (.inr (.inl h1)))
    · exact .inr (.inr (.inr (.inr h1)))
end Go.Proofs.YtchajlaflehodaaGreatDoor
/- dolmenref5.Links, home: what one call answers. -/
namespace Go.Proofs.YtchajlaflehodaaGreatDoor
open Go.RowKit Kit
set_option linter.unusedVariables false

theorem sum_take_le {α : Type} (f : α → Nat) (l : List α) (k : Nat) : ((l.take k).map f).sum ≤ (l.map f).sum := by
  conv => rhs; rw [← List.take_append_drop k l, List.map_append, List.sum_append]
  omega
theorem sum_take_next {α : Type} (f : α → Nat) (l : List α) (k : Nat) (h : k < l.length) : ((l.take (k + 1)).map f).sum = ((l.take k).map f).sum + f l[k] := by
  rw [List.take_add_one, List.getElem?_eq_getElem h, Option.toList_some, List.map_append, List.sum_append]
  simp
theorem count_take_next (l : List Int) (k : Nat) (h : k < l.length) (i : Int) : (l.take (k + 1)).count i = (l.take k).count i + if l.getD k 0 = i then 1 else 0 := by
  rw [List.take_add_one, List.getElem?_eq_getElem h, Option.toList_some, List.count_append]
  simp [List.getD, h, List.count_cons]
theorem count_take_le (l : List Int) (k : Nat) (i : Int) : (l.take k).count i ≤ l.count i := by
  conv => rhs; rw [← List.take_append_drop k l, List.count_append]
  omega
set_option maxRecDepth 4000 in
set_option maxHeartbeats 8000000 in
/-- Links. -/
theorem links_any (v : Value) (t : TreeB) (i : Int) (w : World) (hT : TreeAt w v t) (hs : t.nodes.length ≤ 100) (hk : (t.nodes.map fun n => countB n i).sum ≤ 100000) :
    Calls Tryz.prog 19 #[v, .int .i64 i] w fun e w' => e = .returned (.int .i64 (linksB t i : Int)) ∧ Below w.heap.size w w' := by
  have HT : Hid (TreeAt w v t) := hT
  obtain ⟨ao, cap, fs, rfl, h1, h2, h3, h4, h5⟩ := hT.opened
  have hl := fs_len h3
  have lm : (t.nodes.length : Int) ≤ 100 := by omega
  have HKB : Hid ((t.nodes.map fun n => countB n i).sum ≤ 100000) := hk
  have H5 : Hid (_ → _) := h5
  have H3 : Hid (fs.map FN.n = t.nodes ∧ ∀ f ∈ fs, f.is w) := ⟨h3, h4⟩
  obtain ⟨w0, hw0⟩ : ∃ w0, w0 = w.alloc (.cells #[.slice ao t.nodes.length cap, .int .i64 t.next] 41) := ⟨_, rfl⟩
  have HW0 : Hid (Below w.heap.size w w0 ∧ w.heap.size < w0.heap.size ∧ w0.cell? ⟨w.heap.size, 0, none⟩ = some (.slice ao t.nodes.length cap)) := by
    subst hw0
    exact ⟨(Below.refl _ _).alloc (Nat.le_refl _) _, by simp, by simp⟩
  have HP : Hid (Calls Tryz.prog 35 _ _ _) := place_any _ t i w0 (HT.out.below HW0.out.1)
  clear h1 h2 h3 h4 h5 hT hk hs
  go_enter Tryz.func19, Tryz.ntmps19
  go_wp2_with fail
  go_at_call 35
  rw [← hw0]
  refine HP.out.mono ?_
  rintro e1 w1 ⟨rfl, hb1⟩
  have H1 : Hid (Below w.heap.size w w1 ∧ w.heap.size < w1.heap.size ∧ w1.cell? ⟨w.heap.size, 0, none⟩ = some (.slice ao t.nodes.length cap)) := ⟨bel2v HW0.out.1 hb1, Nat.lt_of_lt_of_le HW0.out.2.1 hb1.size, (hb1.cell (by exact HW0.out.2.1)).trans HW0.out.2.2⟩
  have HL : Hid (linksB t i = if (placeO t i).isNone then 0 else if i = 1 then 1 else (t.nodes.map fun n => countB n i).sum) := rfl
  clear HP HW0 hw0 hb1
  unfold placeB
  cases hpo : placeO t i with
  | none =>
    have HR : Hid (linksB t i = 0) := by show _ = _; rw [HL.out, hpo]; rfl
    clear HL hpo
    go_wp2
    go_ret
    exact ⟨by rw [HR.out]; rfl, H1.out.1⟩
  | some pk =>
    have hpk : ¬ (pk : Int) < 0 := by omega
    by_cases hi1 : i = 1
    · subst hi1
      have HR : Hid (linksB t 1 = 1) := by show _ = _; rw [HL.out, hpo]; rfl
      clear HL hpo
      go_wp2
      go_ret
      exact ⟨by rw [HR.out]; rfl, H1.out.1⟩
    · have hie : (i == 1) = false := beq_eq_false_iff_ne.2 hi1
      have HR : Hid (linksB t i = (t.nodes.map fun n => countB n i).sum) := by show _ = _; rw [HL.out, hpo, if_neg (by simp), if_neg hi1]
      have c0 := H1.out.2.2
      clear HL hpo hi1
      go_wp2
      go_loopw [5, 6, 7] (fun n a _ wr => ∃ k c : Nat, k ≤ t.nodes.length ∧ n = .int .i64 (c : Int) ∧ a = .int .i64 (k : Int) ∧ wr = w1 ∧ Hid (c = ((t.nodes.take k).map fun n => countB n i).sum)) (fun _ a _ _ => t.nodes.length - (intOf a).toNat)
      case atStart => exact ⟨0, 0, Nat.zero_le _, rfl, rfl, rfl, rfl⟩
      case round =>
        obtain ⟨k, c, hk, rfl, rfl, rfl, HS⟩ := hrel
        by_cases hlt : k < t.nodes.length
        · obtain ⟨b, off, hao, hb, hc⟩ := H5.out (by omega)
          subst hao
          have hfk : k < fs.length := by omega
          have a5 := At5.below (hc k hfk) hb H1.out.1
          have hn : nodeAt t k = fs[k].n := fs_at H3.out.1 hfk
          have hfis : fs[k].is wr := (H3.out.2 _ (List.getElem_mem hfk)).below H1.out.1
          obtain ⟨f, hf⟩ : ∃ f, fs[k] = f := ⟨_, rfl⟩
          rw [hf] at a5 hn hfis
          have hbound : c + countB f.n i ≤ 100000 := by
            have h6 := sum_take_next (fun n => countB n i) t.nodes k hlt
            have h7 := sum_take_le (fun n => countB n i) t.nodes (k + 1)
            rw [← nodeAt_eq t k hlt, hn] at h6
            have := HS.out
            have := HKB.out
            omega
          have HS2 : Hid (c + countB f.n i = ((t.nodes.take (k + 1)).map fun n => countB n i).sum) := by
            show _ = _
            rw [sum_take_next (fun n => countB n i) t.nodes k hlt, ← HS.out, ← nodeAt_eq t k hlt, hn]
          have HBD : Hid (c + countB f.n i ≤ 100000) := hbound
          obtain ⟨⟨ino, kind, data, names, inos⟩, d, m, iv⟩ := f
          obtain ⟨_, _, hi⟩ := hfis
          obtain ⟨_, a1, _, _, a4⟩ := a5
          simp only at hi a1 a4 HBD HS2
          obtain ⟨io, ic, rfl, q1, q2, q3, q4⟩ := hi
          rw [intsV_len] at q1 q4 a4
          have qm : (inos.length : Int) ≤ 9223372036854775807 := by unfold maxLen at q2; omega
          have Q4 : Hid (_ → _) := q4
          have j0 : (k : Int) < (t.nodes.length : Int) := by omega
          have j1 : (0 : Int) ≤ (k : Int) := by omega
          obtain ⟨w1, hw1⟩ : ∃ z, z = wr := ⟨_, rfl⟩
          subst hw1
          clear hc hb hn hf q1 q2 q3 q4 hbound HS
          go_wp2
          go_loopw [5, 7] (fun n a wr => ∃ g c2 : Nat, g ≤ inos.length ∧ (0 < g → kind = 2) ∧ n = .int .i64 (c2 : Int) ∧ a = .int .i64 (g : Int) ∧ wr = w1 ∧ Hid (c2 = c + (inos.take g).count i)) (fun _ a _ => inos.length - (intOf a).toNat)
          case atStart => exact ⟨0, c, Nat.zero_le _, fun h => by omega, rfl, rfl, rfl, (show _ = _ by simp)⟩
          case round =>
            obtain ⟨g, c2, hg, hgk, rfl, rfl, rfl, HC⟩ := hrel
            by_cases hgl : g < inos.length
            · have l0 : (g : Int) < (inos.length : Int) := by omega
              have l1 : (0 : Int) ≤ (g : Int) := by omega
              by_cases hkd : kind = 2
              · subst hkd
                obtain ⟨ib, jf, hio, hib, hicell⟩ := Q4.out (by omega)
                subst hio
                have ci := hicell g _ (intsV_at .i64 inos g hgl)
                obtain ⟨x, hx⟩ : ∃ x, inos.getD g 0 = x := ⟨_, rfl⟩
                rw [hx] at ci
                have hnext := count_take_next inos g hgl i
                rw [hx] at hnext
                have hle := count_take_le inos (g + 1) i
                have hcb : countB ⟨ino, 2, data, names, inos⟩ i = inos.count i := by unfold countB; rw [if_pos rfl]
                have hB := HBD.out
                rw [hcb] at hB
                have hC := HC.out
                clear hicell hib hx hcb
                by_cases hxi : x = i
                · subst hxi
                  rw [if_pos rfl] at hnext
                  have HC2 : Hid (c2 + 1 = c + (inos.take (g + 1)).count x) := by show _ = _; omega
                  have m0 : (c2 : Int) ≤ 100000 := by omega
                  clear hnext hle hB hC HC
                  go_wp2
                  go_roundw
                  case rel => exact ⟨g + 1, c2 + 1, by omega, fun _ => trivial, by simp, by simp, trivial, HC2⟩
                  case measure => simp [intOf]; omega
                · have hxe : (x == i) = false := beq_eq_false_iff_ne.2 hxi
                  rw [if_neg hxi] at hnext
                  have HC2 : Hid (c2 = c + (inos.take (g + 1)).count i) := by show _ = _; omega
                  clear hnext hle hB hC HC hxi
                  go_wp2
                  go_roundw
                  case rel => exact ⟨g + 1, c2, by omega, fun _ => trivial, rfl, by simp, trivial, HC2⟩
                  case measure => simp [intOf]; omega
              · have hke : (kind == 2) = false := beq_eq_false_iff_ne.2 hkd
                have hg0 : g = 0 := by
                  rcases Nat.eq_zero_or_pos g with h0 | h0
                  · exact h0
                  · exact absurd (hgk h0) hkd
                have HE : Hid (c2 = ((t.nodes.take (k + 1)).map fun n => countB n i).sum) := by
                  show _ = _
                  rw [← HS2.out, HC.out, hg0]
                  unfold countB
                  simp [hkd]
                clear HC hkd hgk
                go_wp2
                go_roundw
                case rel => exact ⟨k + 1, c2, by omega, rfl, by simp, trivial, HE⟩
                case measure => simp [intOf]; omega
            · obtain rfl : g = inos.length := by omega
              have HE : Hid (c2 = ((t.nodes.take (k + 1)).map fun n => countB n i).sum) := by
                show _ = _
                rw [← HS2.out, HC.out, List.take_length]
                unfold countB
                by_cases hkd : kind = 2
                · simp [hkd]
                · have : inos.length = 0 := by
                    rcases Nat.eq_zero_or_pos inos.length with h0 | h0
                    · exact h0
                    · exact absurd (hgk h0) hkd
                  have : inos = [] := List.eq_nil_of_length_eq_zero this
                  subst this
                  simp
              have l0 : ¬ (inos.length : Int) < (inos.length : Int) := by omega
              clear HC hgk hgl
              go_wp2
              go_roundw
              case rel => exact ⟨k + 1, c2, by omega, rfl, by simp, trivial, HE⟩
              case measure => simp [intOf]; omega
        · obtain rfl : k = t.nodes.length := by omega
          have HE : Hid (linksB t i = c) := by show _ = _; rw [HR.out, HS.out, List.take_length]
          clear HS HR
          go_wp2
          go_ret
          exact ⟨by rw [HE.out]; rfl, H1.out.1⟩
end Go.Proofs.YtchajlaflehodaaGreatDoor
