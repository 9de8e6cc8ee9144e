/- The document's table: one contract a function, over a run's mathematics. -/
import Derived.Test.YthjcmagionaepaaGreatRAll
import Derived.Test.YthjcmagionaepaaGreatMTb
namespace Go.Proofs.YthjcmagionaepaaGreat
open Go.RowKit Kit
set_option linter.unusedVariables false

theorem radd_uni (q B : Nat) (sv : Value) (t : Tb) (name : ByteArray) (ino ep : Int) (w : World) (h : RTab w q B sv t.last t.rs) (hl : t.rs.length ≤ 900) :
    Calls Tryz.prog 27 #[.pointer (some ⟨q, 0, none⟩), .string name, .int .i64 ino, .int .i64 ep] w fun x w' => x = .returned (.int .i64 (addC t name ino ep)) ∧ ∃ sv', RTab w' q B sv' (addT t name ino ep).last (addT t name ino ep).rs ∧ TurnF (tfoot q sv) (tfoot q sv') w w' := by
  rcases add_cases t name ino ep with ⟨h1, h2, h3⟩ | ⟨h1, h2, h3, h4, h5⟩ | ⟨h1, h2, h3, h4, h5⟩
  · rw [h1, h2]
    exact (radd_arg q B sv t.last t.rs name ino ep w h h3).mono fun x w' ⟨a, b⟩ => ⟨a, sv, by rw [b]; exact h, by rw [b]; exact turnF_below (Below.refl _ _)⟩
  · rw [h1, h2]
    exact (radd_there q B sv t.last t.rs name ino ep w h hl h3 h4 h5).mono fun x w' ⟨a, b⟩ => ⟨a, sv, by rw [b]; exact h, by rw [b]; exact turnF_below (Below.refl _ _)⟩
  · rw [h1, h2]
    exact radd_good q B sv t.last t.rs name ino ep w h hl h3 h4 h5
theorem rremove_uni (q B : Nat) (sv : Value) (t : Tb) (name : ByteArray) (ep : Int) (w : World) (h : RTab w q B sv t.last t.rs) (hl : t.rs.length ≤ 900) :
    Calls Tryz.prog 28 #[.pointer (some ⟨q, 0, none⟩), .string name, .int .i64 ep] w fun x w' => x = .returned (.int .i64 (remC t name ep)) ∧ ∃ sv', RTab w' q B sv' (remT t name ep).last (remT t name ep).rs ∧ TurnF (tfoot q sv) (tfoot q sv') w w' := by
  rcases rem_cases t name ep with ⟨h1, h2, h3⟩ | ⟨h1, h2, h3, h4⟩ | ⟨h1, h2, h3, h4⟩
  · rw [h1, h2]
    exact (rremove_arg q B sv t.last t.rs name ep w h h3).mono fun x w' ⟨a, b⟩ => ⟨a, sv, by rw [b]; exact h, by rw [b]; exact turnF_below (Below.refl _ _)⟩
  · rw [h1, h2]
    exact (rremove_none q B sv t.last t.rs name ep w h hl h3 h4).mono fun x w' ⟨a, b⟩ => ⟨a, sv, by rw [b]; exact h, by rw [b]; exact turnF_below (Below.refl _ _)⟩
  · rw [h1, h2]
    exact (rremove_good q B sv t.last t.rs name ep w h hl h3 h4).mono fun x w' ⟨a, b⟩ => ⟨a, sv, b⟩
theorem rclean_uni (q B : Nat) (sv v : Value) (t : Tb) (es : List Int) (w : World) (h : RTab w q B sv t.last t.rs) (hl : t.rs.length ≤ 900) (hv : Sees w v (iV es)) :
    Calls Tryz.prog 29 #[.pointer (some ⟨q, 0, none⟩), v] w fun x w' => x = .returned (.int .i64 (cleanN t es)) ∧ ∃ sv', RTab w' q B sv' (cleanT t es).last (cleanT t es).rs ∧ TurnF (tfoot q sv) (tfoot q sv') w w' :=
  rclean_any q B sv v t.last t.rs es w h hl hv
end Go.Proofs.YthjcmagionaepaaGreat
