/- Arguments that are slices, as views; texts read again; a cut. -/
import Derived.Test.YtgkfbnjccfoaiaaText
import Derived.Test.YtgkfbnjccfoaiaaIs
import Derived.Test.YtgkfbnjccfoaiaaAwake
namespace Go.Proofs.Ytgkfbnjccfoaiaa
open Go.ChangeShapes Go.WideShapes Go.ChangeAt Go.RowKit
set_option linter.unusedVariables false

/-- WHAT THE WALK IS TOLD OF A SLICE OF INTEGERS THAT CAME IN. -/
def IsRow (k : IntKind) (w : World) (a : Option Addr) (len cap : Nat) (zs : List Int) : Prop :=
  (a = none ∧ len = 0 ∧ cap = 0 ∧ zs = []) ∨
  ∃ x, a = some x ∧ len ≤ cap ∧ cap ≤ maxLen ∧ zs.length = cap ∧ (∀ i, i < zs.length → w.cell? (x.add i) = some (.int k (zs.getD i 0))) ∧ ∀ n ∈ zs, (Lit.int k n).wf = true

theorem cell_lt {w : World} {a : Addr} {v : Value} (h : w.cell? a = some v) : a.block < w.heap.size := by
  by_cases hb : a.block < w.heap.size
  · exact hb
  · have : w.heap[a.block]? = none := Array.getElem?_eq_none (by omega)
    simp [World.cell?, this] at h

theorem isRow_len {k : IntKind} {w : World} {a : Option Addr} {len cap : Nat} {zs : List Int} (h : IsRow k w a len cap zs) : (zs.take len).length = len ∧ len ≤ cap ∧ cap ≤ maxLen := by
  rcases h with ⟨rfl, rfl, rfl, rfl⟩ | ⟨x, rfl, h1, h2, h3, h4, h5⟩
  · simp
  · rw [List.length_take]; omega

theorem isRow_view {k : IntKind} {w : World} {a : Option Addr} {len cap : Nat} {zs : List Int} (h : IsRow k w a len cap zs) : Vw w.heap.size w k (.slice a len cap) (zs.take len) := by
  have hl := isRow_len h
  rcases h with ⟨rfl, rfl, rfl, rfl⟩ | ⟨x, rfl, h1, h2, h3, h4, h5⟩
  · exact .inl ⟨rfl, none, 0, rfl, fun _ => rfl, by simp⟩
  · by_cases h0 : len = 0
    · subst h0; exact .inl ⟨by simp, _, cap, rfl, by simp, h2⟩
    · obtain ⟨b, off, spot⟩ := x
      have hc := h4 0 (by omega)
      have hspot : spot = none := by simpa [Addr.add] using World.cell?_spot hc
      subst hspot
      refine .inr ⟨by omega, b, off, cap, by rw [hl.1], by omega, h2, cell_lt (h4 0 (by omega)), ?_⟩
      intro i hi
      have := h4 i (by omega)
      rw [Addr.add_lit] at this
      rw [this]
      simp [List.getD, show i < len by omega]

theorem isRow_bytes {w : World} {a : Option Addr} {len cap : Nat} {zs : List Int} (h : IsRow .u8 w a len cap zs) : bytesIn (zs.take len) := by
  rcases h with ⟨rfl, rfl, rfl, rfl⟩ | ⟨x, rfl, h1, h2, h3, h4, h5⟩
  · intro z hz; simp at hz
  · intro z hz
    have := bounds_u8 (h5 z (List.mem_of_mem_take hz)); omega

theorem Vw.cut {B : Nat} {w : World} {k : IntKind} {b off n cap : Nat} {zs : List Int} (h : Vw B w k (.slice (some ⟨b, off, none⟩) n cap) zs) (j : Nat) (hj : j ≤ zs.length) : Vw B w k (.slice (some ⟨b, off, none⟩) j cap) (zs.take j) := by
  have hl : (zs.take j).length = j := by rw [List.length_take]; omega
  rcases h with ⟨rfl, ao, c, he, hn, hm⟩ | ⟨hz, b', off', c, he, h1, h2, h3, h4⟩
  · simp at hj
    subst hj
    simp only [Value.slice.injEq] at he
    exact .inl ⟨by simp, _, cap, rfl, by simp, by rw [he.2.2]; exact hm⟩
  · simp only [Value.slice.injEq, Option.some.injEq, Addr.mk.injEq, and_true] at he
    obtain ⟨⟨rfl, rfl⟩, rfl, rfl⟩ := he
    by_cases h0 : j = 0
    · subst h0; exact .inl ⟨by simp, _, cap, rfl, by simp, h2⟩
    · refine .inr ⟨by omega, b, off, cap, by rw [hl], by omega, h2, h3, ?_⟩
      intro i hi
      rw [h4 i (by omega)]
      simp [List.getD, show i < j by omega]

theorem textOf_len (s : ByteArray) : (textOf s).length = (vint (s.size : Int)).length + s.size := by unfold textOf; rw [List.length_append, bytesOf_len]
theorem textOf_in (s : ByteArray) : bytesIn (textOf s) := bytesIn_append (bytesIn_vint _ (by omega)) (bytesOf_in s)

/-- A text is read as it was laid, whatever stands behind. -/
theorem untext_text (B : Nat) (v : Value) (s : ByteArray) (ys : List Int) (w : World) (hv : Vw B w .u8 v (textOf s ++ ys)) (hy : bytesIn ys) (hs : (s.size : Int) ≤ 140737488351232) :
    Calls Try.prog 20 #[v] w fun e w' => e = .returned (.tuple #[.string s, .int .i64 ((textOf s).length : Int), .nilIface]) ∧ w' = w := by
  have e0 : textOf s ++ ys = vint (s.size : Int) ++ (bytesOf s ++ ys) := by unfold textOf; rw [List.append_assoc]
  have e1 : vlen (textOf s ++ ys) = (vint (s.size : Int)).length := by rw [e0]; exact vlen_vint _ (by omega) (by omega) _
  have e2 : vval (textOf s ++ ys) = s.size := by rw [e0]; exact vval_vint _ (by omega) (by omega) _
  have hp := vint_pos (s.size : Int)
  have h := untext_ok B v _ w hv (bytesIn_append (textOf_in s) hy) (by omega) s.size e2 (by rw [e1, List.length_append, textOf_len]; omega)
  rw [e1, e0, List.drop_left, show s.size = (bytesOf s).length from (bytesOf_len s).symm, List.take_left, strOf_bytesOf, bytesOf_len, ← textOf_len] at h
  exact h

/-- No beginning of a text is one. -/
theorem untext_cut (B : Nat) (v : Value) (s : ByteArray) (k : Nat) (w : World) (hk : k < (textOf s).length) (hv : Vw B w .u8 v ((textOf s).take k)) (hs : (s.size : Int) ≤ 140737488351232) :
    Calls Try.prog 20 #[v] w fun e w' => e = .returned (.tuple #[.string ⟨#[]⟩, .int .i64 0, .iface 52 (.int .i64 14)]) ∧ w' = w := by
  have hl := textOf_len s
  refine untext_bad B v _ w hv (bytesIn_take (textOf_in s) k) ?_
  by_cases h : k < (vint (s.size : Int)).length
  · left
    have : (textOf s).take k = (vint (s.size : Int)).take k := by unfold textOf; rw [List.take_append_of_le_length (by omega)]
    rw [this]; exact vlen_cut _ (by omega) k h
  · right
    have e0 : (textOf s).take k = vint (s.size : Int) ++ (bytesOf s).take (k - (vint (s.size : Int)).length) := by
      unfold textOf; rw [List.take_append, List.take_of_length_le (by omega)]
    have hlen : ((textOf s).take k).length = k := by rw [List.length_take]; omega
    rw [hlen, e0, vlen_vint _ (by omega) (by omega), vval_vint _ (by omega) (by omega)]
    omega

theorem code_bad (w : World) : Calls Try.prog 12 #[.iface 52 (.int .i64 14)] w fun e w' => e = .returned (.int .i64 14) ∧ w' = w := code_num 14 w (by omega) (by omega)
end Go.Proofs.Ytgkfbnjccfoaiaa
