/- names.Join, Parent, Under, Less: what one call answers. -/
import Derived.Test.YtlnhkdiecfccaaaDoorNSplit2
import Derived.Test.YtlnhkdiecfccaaaDoorRUnder
import Derived.Shelf.Strings.OnBuilder
namespace Go.Proofs.YtlnhkdiecfccaaaDoor
open Go.RowKit Kit
set_option linter.unusedVariables false

theorem builderX : Builder.Extra Tryd.prog Tryd.lays156_ren :=
  { sizeBuilder := by kernel_rfl, liesBuilder := by kernel_rfl, t5 := Tryd.underlying5, a5 := Tryd.isAgg5, z5 := Tryd.sizeOf5, v5 := Tryd.zeroValue5, infoByte := by kernel_rfl, cellsByte := by kernel_rfl, sizeByte := by kernel_rfl, neB5 := by decide }
theorem join_len (ss : List ByteArray) : (Lib.join (ss.map (·.data.toList)) [47]).length ≤ tot ss := by
  have h := congrArg ByteArray.size (join_slash ss)
  rw [ByteArray.size_append] at h
  have e1 : (⟨(Lib.join (ss.map (·.data.toList)) [47]).toArray⟩ : ByteArray).size = (Lib.join (ss.map (·.data.toList)) [47]).length := by simp [ByteArray.size]
  have e2 : (⟨#[47]⟩ : ByteArray).size = 1 := rfl
  have e3 : (joinB ss).size ≤ tot ss + 1 := by
    unfold joinB
    split
    · rw [e2]; omega
    · have := joinTo_size ss ss.length (Nat.le_refl _)
      rw [List.take_length] at this
      omega
  omega
theorem sjoin_any (x : Value) (ss : List ByteArray) (w : World) (hx : Sees w x (strs ss)) (hb : tot ss ≤ 1000000) :
    Calls Tryd.prog 36 #[x, .string ⟨#[47]⟩] w fun e w' => e = .returned (.string ⟨(Lib.join (ss.map (·.data.toList)) [47]).toArray⟩) ∧ Below w.heap.size w w' := by
  obtain ⟨ao, cap, rfl, h1, h2, h3, h4⟩ := hx
  rw [strs_len] at *
  cases ss with
  | nil =>
    refine (Any.strings_Join_none Tryd.lays156 builderX ao cap ⟨#[47]⟩ w).mono ?_
    rintro e w' ⟨rfl, rfl⟩
    exact ⟨by simp [Lib.join], Below.refl _ _⟩
  | cons a r =>
    obtain ⟨b, off, rfl, hbk, hc⟩ := h4 (by simp)
    have hl := join_len (a :: r)
    have hn : (a :: r).length ≤ tot (a :: r) := by
      unfold tot
      have : ∀ l : List ByteArray, l.length ≤ (l.map fun s => s.size + 1).sum := by
        intro l
        induction l with
        | nil => simp
        | cons q t ih => simp only [List.map_cons, List.sum_cons, List.length_cons]; omega
      exact this _
    refine (Any.strings_Join Tryd.lays156 builderX b off cap (a :: r) ⟨#[47]⟩ w ?_ hbk (by omega) h1 (by show (Lib.join ((a :: r).map (·.data.toList)) [47]).length ≤ _; omega)).mono ?_
    · intro j y hy
      refine hc j _ ?_
      unfold strs
      rw [List.getElem?_map, hy]; rfl
    · rintro e w' ⟨rfl, hb⟩
      exact ⟨rfl, hb⟩
set_option maxHeartbeats 1000000 in
theorem njoin_any (x : Value) (ss : List ByteArray) (w : World) (hx : Sees w x (strs ss)) (hb : tot ss ≤ 1000000) :
    Calls Tryd.prog 24 #[x] w fun e w' => e = .returned (.string (joinB ss)) ∧ Below w.heap.size w w' := by
  have HX : Hid (Calls Tryd.prog 36 _ _ _) := sjoin_any x ss w hx hb
  have HJ : Hid (joinB ss = _) := join_slash ss
  have hl := join_len ss
  obtain ⟨j, hj⟩ : ∃ j : ByteArray, (⟨(Lib.join (ss.map (·.data.toList)) [47]).toArray⟩ : ByteArray) = j := ⟨_, rfl⟩
  have hz : j.size ≤ 1000000 := by rw [← hj]; simp [ByteArray.size]; omega
  rw [hj] at HX HJ
  have i1 : (j.size : Int) ≤ 1000000 := by omega
  clear hx hb hl hj
  go_enter Tryd.func24, Tryd.ntmps24
  go_wp2_with fail
  go_at_call 36
  refine HX.out.mono ?_
  rintro e1 w1 ⟨rfl, hb1⟩
  have H1 : Hid (Below w.heap.size w w1) := hb1
  clear HX hb1
  go_wp2
  go_ret
  exact ⟨by rw [HJ.out]; rfl, H1.out⟩
theorem nless_any (a b : ByteArray) (w : World) :
    Calls Tryd.prog 18 #[.string a, .string b] w fun e w' => e = .returned (.bool (Op.bytesLess a.toList b.toList)) ∧ Below w.heap.size w w' := by
  go_enter Tryd.func18, Tryd.ntmps18
  go_wp2
  go_ret
  exact ⟨rfl, Below.refl _ _⟩
end Go.Proofs.YtlnhkdiecfccaaaDoor
