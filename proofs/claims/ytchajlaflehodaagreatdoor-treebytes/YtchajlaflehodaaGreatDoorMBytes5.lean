/- The mathematics of TreeBytes: what is written, read, cut off. -/
import Derived.Test.YtchajlaflehodaaGreatDoorG3
namespace Go.Proofs.YtchajlaflehodaaGreatDoor
open Go.RowKit Kit
set_option linter.unusedVariables false

def fS : ByteArray := ⟨#[102]⟩
def tF (d : List Int) : TreeB := ⟨[⟨1, 2, [], [fS], [2]⟩, ⟨2, 1, d, [], []⟩], 3⟩
theorem find_f (d : List Int) : findB (tF d) ⟨#[47, 102]⟩ = .ok 1 := by kernel_rfl
theorem b_create : doB newB ⟨1, ⟨#[47, 102]⟩, ⟨#[]⟩, 0, 0, [], 0⟩ = (tF [], { noReply with ino := 2 }, 0) := by kernel_rfl
def wantB (off : Int) (data : List Int) : List Int := if data = [] then [] else List.replicate off.toNat 0 ++ data
theorem data_f (d e : List Int) : dataB (tF d) 1 e = tF e := rfl
theorem node_f (d : List Int) : nodeAt (tF d) 1 = ⟨2, 1, d, [], []⟩ := rfl
theorem b_write (off : Int) (data : List Int) (h0 : 0 ≤ off) (h6 : off ≤ 600) (hl : data.length ≤ 600) : doB (tF []) ⟨8, ⟨#[47, 102]⟩, ⟨#[]⟩, off, 0, data, 0⟩ = (tF (wantB off data), { noReply with n := data.length }, 0) := by
  unfold doB
  simp only
  rw [if_neg (by decide), if_neg (by decide), if_neg (by decide), if_neg (by decide), if_pos (by decide)]
  unfold fileB
  simp only
  rw [find_f]
  simp only
  rw [node_f]
  simp only
  rw [if_neg (by decide), if_neg (by decide), if_pos trivial, if_neg (by omega)]
  by_cases hd : data = []
  · subst hd
    rfl
  · rw [if_neg (by simpa using hd), data_f]
    unfold wantB
    rw [if_neg hd]
    have e : laidB (bytesB [] (max ([] : List Int).length (off.toNat + data.length))) off.toNat data = List.replicate off.toNat 0 ++ data := by
      unfold laidB bytesB
      simp
    rw [e]
theorem b_read (d : List Int) (off n : Int) (h0 : 0 ≤ off) (h1 : 0 ≤ n) : doB (tF d) ⟨7, ⟨#[47, 102]⟩, ⟨#[]⟩, off, n, [], 0⟩ = (tF d, { noReply with data := (d.drop off.toNat).take n.toNat }, 0) := by
  unfold doB
  simp only
  rw [if_neg (by decide), if_neg (by decide), if_neg (by decide), if_neg (by decide), if_pos (by decide)]
  unfold fileB
  simp only
  rw [find_f]
  simp only
  rw [node_f]
  simp only
  rw [if_neg (by decide), if_pos trivial, if_neg (by omega)]
theorem b_cut (d : List Int) (n : Int) (h0 : 0 ≤ n) (h1 : n ≤ 2000) : doB (tF d) ⟨9, ⟨#[47, 102]⟩, ⟨#[]⟩, 0, n, [], 0⟩ = (tF (bytesB d n.toNat), noReply, 0) := by
  unfold doB
  simp only
  rw [if_neg (by decide), if_neg (by decide), if_neg (by decide), if_neg (by decide), if_pos (by decide)]
  unfold fileB
  simp only
  rw [find_f]
  simp only
  rw [node_f]
  simp only
  rw [if_neg (by decide), if_neg (by decide), if_neg (by decide), if_neg (by omega), data_f]
theorem want_len (off : Int) (data : List Int) : (wantB off data).length = if data = [] then 0 else off.toNat + data.length := by
  unfold wantB; split <;> simp
theorem want_short (off : Int) (data : List Int) (h6 : off ≤ 600) (hl : data.length ≤ 600) : (wantB off data).length ≤ 1200 := by
  rw [want_len]; split <;> omega
theorem want_in (off : Int) (data : List Int) (h : bytesIn data) : bytesIn (wantB off data) := by
  unfold wantB
  split
  · intro z hz; cases hz
  · refine bytesIn_append (fun z hz => ?_) h
    have := List.eq_of_mem_replicate hz
    omega
theorem read_all (d : List Int) (h : d.length ≤ 4000) : (d.drop (0 : Int).toNat).take (4000 : Int).toNat = d := by
  rw [show (0 : Int).toNat = 0 from rfl, List.drop_zero, show (4000 : Int).toNat = 4000 from rfl]
  exact List.take_of_length_le h
/-- What is read at last. -/
def lastB (d : List Int) (n from' : Nat) : List Int := ((bytesB d n).drop from').take 4000
theorem last_len (d : List Int) (n from' : Nat) (h : n ≤ 1500) : (lastB d n from').length = n - from' := by
  unfold lastB bytesB
  simp
  omega
theorem last_at (d : List Int) (n from' i : Nat) (h : n ≤ 1500) (hi : i < n - from') : (lastB d n from').getD i 0 = d.getD (from' + i) 0 := by
  have hi2 : i < (lastB d n from').length := by rw [last_len d n from' h]; exact hi
  unfold lastB bytesB at *
  rw [List.getD_eq_getElem?_getD, List.getD_eq_getElem?_getD, List.getElem?_take, if_pos (by omega), List.getElem?_drop, List.getElem?_append]
  split
  · rename_i h1
    rw [List.getElem?_take, if_pos (by omega)]
  · rename_i h1
    simp at h1
    rw [List.getElem?_replicate]
    have hd : d.length ≤ from' + i := by
      rcases Nat.lt_or_ge (from' + i) d.length with h2 | h2
      · have := h1; omega
      · exact h2
    rw [List.getElem?_eq_none hd]
    split <;> rfl
end Go.Proofs.YtchajlaflehodaaGreatDoor
