/- Slices that are read: what a slice value shows; a row of the call's own is such a one; bytes as a string. -/
import Derived.Test.YtgkfbnjccfoaiaaWords
import Derived.Test.YtgkfbnjccfoaiaaTurn
import Derived.Laws.IdiomStrings
import Derived.Laws.StructEq
namespace Go.Proofs.Ytgkfbnjccfoaiaa
open Go.ChangeShapes Go.WideShapes Go.ChangeAt Go.RowKit
set_option linter.unusedVariables false

theorem row_form {w : World} {base : Nat} {k : IntKind} {e : TypeId} {v : Value} {zs : List Int} (h : Row w base k e v zs) (hz : 0 < zs.length) :
    ∃ g cap, v = .slice (some ⟨g, 0, none⟩) zs.length cap ∧ base ≤ g ∧ g < w.heap.size ∧ zs.length ≤ cap ∧ cap ≤ maxLen ∧ ∀ i, i < zs.length → w.cell? ⟨g, i, none⟩ = some (.int k (zs.getD i 0)) := by
  have h0 := h
  unfold Row at h
  obtain ⟨h1, h2⟩ := h
  rcases h2 with ⟨_, h2⟩ | ⟨g, cap, cur, hv, hg, hh, hn, hm, _, _⟩
  · omega
  · refine ⟨g, cap, hv, hg, ?_, hn, hm, ?_⟩
    · exact (Array.getElem?_eq_some_iff.1 hh).1
    · intro i hi
      subst hv
      unfold Row at h0
      rw [h0.cellAt i (by omega)]
      simp [hi]

/-- What a slice value shows. -/
def Vw (B : Nat) (w : World) (k : IntKind) (v : Value) (zs : List Int) : Prop :=
  (zs = [] ∧ ∃ ao cap, v = .slice ao 0 cap ∧ (ao = none → cap = 0) ∧ cap ≤ maxLen) ∨
  (0 < zs.length ∧ ∃ b off cap, v = .slice (some ⟨b, off, none⟩) zs.length cap ∧ zs.length ≤ cap ∧ cap ≤ maxLen ∧ b < B ∧ ∀ i, i < zs.length → w.cell? ⟨b, off + i, none⟩ = some (.int k (zs.getD i 0)))

theorem row_view {w : World} {base : Nat} {k : IntKind} {e : TypeId} {v : Value} {zs : List Int} (h : Row w base k e v zs) : Vw w.heap.size w k v zs := by
  by_cases hz : 0 < zs.length
  · obtain ⟨g, cap, hv, _, h1, h2, h3, h4⟩ := row_form h hz
    exact .inr ⟨hz, g, 0, cap, hv, h2, h3, h1, by simpa using h4⟩
  · have e0 : zs = [] := List.eq_nil_of_length_eq_zero (by omega)
    subst e0
    refine .inl ⟨rfl, ?_⟩
    obtain ⟨h1, h2⟩ := h
    rcases h2 with ⟨h2, _⟩ | ⟨g, cap, cur, hv, hg, hh, hn, hm, _, _⟩
    · exact ⟨none, 0, h2, fun _ => rfl, by simp⟩
    · exact ⟨_, cap, hv, by simp, hm⟩

theorem Vw.below {B : Nat} {w w' : World} {k : IntKind} {v : Value} {zs : List Int} (h : Vw B w k v zs) (hb : Below B w w') : Vw B w' k v zs := by
  rcases h with h | ⟨hz, b, off, cap, hv, h1, h2, h3, h4⟩
  · exact .inl h
  · exact .inr ⟨hz, b, off, cap, hv, h1, h2, h3, fun i hi => (hb.cell (by exact h3)).trans (h4 i hi)⟩
theorem Vw.mono {B B' : Nat} {w : World} {k : IntKind} {v : Value} {zs : List Int} (h : Vw B w k v zs) (hB : B ≤ B') : Vw B' w k v zs := by
  rcases h with h | ⟨hz, b, off, cap, hv, h1, h2, h3, h4⟩
  · exact .inl h
  · exact .inr ⟨hz, b, off, cap, hv, h1, h2, by omega, h4⟩

/-- Bytes as a string. -/
def strOf (zs : List Int) : ByteArray := ⟨(zs.map fun n => UInt8.ofNat n.toNat).toArray⟩

theorem strOf_inj {xs ys : List Int} (hx : bytesIn xs) (hy : bytesIn ys) (h : strOf xs = strOf ys) : xs = ys := by
  have h1 : (xs.map fun n => UInt8.ofNat n.toNat) = ys.map fun n => UInt8.ofNat n.toNat := by
    have := congrArg (fun b : ByteArray => b.data.toList) h; simpa [strOf] using this
  have key : ∀ n : Int, 0 ≤ n → n < 256 → ((UInt8.ofNat n.toNat).toNat : Int) = n := fun n a b => by
    rw [UInt8.toNat_ofNat', Nat.mod_eq_of_lt (by omega)]; omega
  have h2 := congrArg (List.map fun u : UInt8 => (u.toNat : Int)) h1
  simp only [List.map_map] at h2
  have ex : ∀ zs : List Int, bytesIn zs → zs.map ((fun u : UInt8 => (u.toNat : Int)) ∘ fun n => UInt8.ofNat n.toNat) = zs := fun zs hz => by
    conv => rhs; rw [← List.map_id zs]
    exact List.map_congr_left fun z hz' => key z (hz z hz').1 (hz z hz').2
  rwa [ex xs hx, ex ys hy] at h2

theorem str_eq {xs ys : List Int} (hx : bytesIn xs) (hy : bytesIn ys) : ((strOf xs).toList == (strOf ys).toList) = decide (xs = ys) := by
  by_cases h : xs = ys
  · subst h; simp
  · have k : ¬ (strOf xs).toList = (strOf ys).toList := fun k => by
      rw [ByteArray.toList_eq, ByteArray.toList_eq] at k
      exact h (strOf_inj hx hy (WideShapes.bytes_inj k))
    rw [beq_eq_false_iff_ne.2 k]; simp [h]

theorem strOf_fold : ∀ (l : List Int) (r : ByteArray), l.foldl (fun r n => r.push (UInt8.ofNat n.toNat)) r = ⟨r.data ++ (l.map fun n => UInt8.ofNat n.toNat).toArray⟩
  | [], r => by simp
  | b :: l, r => by
    simp only [List.map_cons, List.foldl_cons]
    rw [strOf_fold l]
    simp [ByteArray.push]

/-- 'string(b)' of a slice of bytes. -/
theorem conv_view {B : Nat} {w : World} {v : Value} {zs : List Int} (h : Vw B w .u8 v zs) : (convert 22 9 v).run Try.prog w = .ok (.string (strOf zs)) w := by
  have fin : ∀ l : List Int, l.foldl (fun r n => r.push (UInt8.ofNat n.toNat)) ByteArray.empty = strOf l := fun l => by
    rw [strOf_fold]; unfold strOf; rw [show ByteArray.empty.data = #[] from rfl]; simp
  rcases h with ⟨rfl, ao, cap, rfl, hn, _⟩ | ⟨hz, b, off, cap, rfl, h1, h2, h3, h4⟩
  · rw [run_convert_bytes_string w 22 9 5 ao 0 cap Try.underlying22 Try.underlying5 Try.underlying9]
    cases ao with
    | none => rw [hn rfl]; rfl
    | some a =>
      have hl := run_loadCells_list (P := Try.prog) w a (([] : List Int).map (Value.int .u8)) (fun j v hj => by simp at hj)
      rw [run_bytesToString w a 0 cap [] hl, fin]
  · rw [run_convert_bytes_string w 22 9 5 _ _ cap Try.underlying22 Try.underlying5 Try.underlying9]
    have hl := run_loadCells_list (P := Try.prog) w ⟨b, off, none⟩ (zs.map (Value.int .u8)) (fun j v hj => by
      have hj' : j < zs.length := by have := (List.getElem?_eq_some_iff.1 hj).1; simpa using this
      rw [Addr.add_lit, h4 j hj']
      rw [← hj]; simp [hj'])
    rw [List.length_map] at hl
    rw [run_bytesToString w _ _ cap zs hl, fin]
end Go.Proofs.Ytgkfbnjccfoaiaa
