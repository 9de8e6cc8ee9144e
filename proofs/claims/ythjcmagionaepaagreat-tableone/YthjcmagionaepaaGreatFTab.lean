/- The program's table is held to the contracts. -/
import Derived.Test.YthjcmagionaepaaGreatFCleanT
import Derived.Test.YthjcmagionaepaaGreatFRemT
import Derived.Test.YthjcmagionaepaaGreatL11Nothing
namespace Go.Proofs.YthjcmagionaepaaGreat
open Go.RowKit Kit
set_option linter.unusedVariables false

theorem tall_nilR (w : World) : Calls Tryz.prog 18 #[.pointer none] w fun x w' => ∃ r, x = .returned r ∧ RowE rwE w' w.heap.size 49 r [] ∧ Below w.heap.size w w' := by
  have hM : MapR w 0 none (fun _ => none) (fun _ => []) := ⟨Nat.zero_le _, .inl ⟨rfl, fun _ => rfl⟩, (fun s v e => by cases e), fun _ _ => rfl, (fun s s' v v' k e => by cases e)⟩
  refine (tall_core _ hM (fun X hX => tkept_nil X) [] (fun s hs => by cases hs) (by simp) (fun ks k1 k2 => by rw [List.flatMap_eq_nil_iff.2 (fun _ _ => rfl)]; simp)).mono ?_
  rintro e w' ⟨r, ks, rfl, k1, k2, k3, k4⟩
  rw [List.flatMap_eq_nil_iff.2 (fun _ _ => rfl)] at k1
  exact ⟨r, rfl, k1, k4⟩
theorem tclean_nil (w : World) : Calls Tryz.prog 21 #[.pointer none, .slice none 0 0] w fun x w' => x = .returned (.int .i64 0) ∧ Below w.heap.size w w' := by
  have HALL : Hid (Calls Tryz.prog 18 #[.pointer none] w fun x w' => ∃ r, x = .returned r ∧ RowE rwE w' w.heap.size 49 r [] ∧ Below w.heap.size w w') := tall_nilR w
  go_enter Tryz.func21, Tryz.ntmps21
  go_wp2_with fail
  go_at_call 18
  refine HALL.out.mono ?_
  rintro e w1 ⟨r, rfl, h1, b1⟩
  obtain ⟨ao, cap, hr⟩ := h1.sees.form
  subst hr
  have HB1 : Hid (Below w.heap.size w w1) := b1
  have HBK : Hid (Calls Tryz.prog 38 #[.slice ao 0 cap] w1 fun x w' => ∃ q, x = .returned (.pointer (some ⟨q, 0, none⟩)) ∧ Hid (∃ vv, BookAt w' q w1.heap.size vv (thsO []) ∧ Below w1.heap.size w1 w')) := by
    refine (tbook_any (.slice ao 0 cap) [] w1 h1.sees (by simp) (fun r hr => by cases hr)).mono ?_
    rintro x w' ⟨q, vv, h1, h2⟩
    exact ⟨q, h1, vv, h2⟩
  clear h1 b1 HALL
  go_wp2_with fail
  go_at_call 38
  refine HBK.out.mono ?_
  rintro e w2 ⟨q, rfl, H2⟩
  clear HBK
  have HND : Hid (Calls Tryz.prog 39 #[.pointer (some ⟨q, 0, none⟩), .slice none 0 0] w2 fun x w' => ∃ no nc, x = .returned (.slice no 0 nc) ∧ Hid (Below w.heap.size w w')) := by
    obtain ⟨vv, k1, k2⟩ := H2.out
    refine (fneeded_any _ (.slice none 0 0) (thsO []) [] w2 k1.sees (by simp [thsO]) ⟨none, 0, rfl, Nat.le_refl _, Nat.zero_le _, fun _ => rfl, fun h => absurd h (by simp [iV])⟩ (by simp)).mono ?_
    rintro x w' ⟨r, rfl, h2, h3⟩
    obtain ⟨no, nc, hnv, _⟩ := h2.sees
    have e : (iV (idsT (fun t => needB t.born t.died []) (thsO []))).length = 0 := rfl
    rw [e] at hnv
    exact ⟨no, nc, by rw [hnv], bel_tr (bel_tr HB1.out k2) h3⟩
  clear H2
  go_wp2_with fail
  go_at_call 39
  refine HND.out.mono ?_
  rintro e w3 ⟨no, nc, rfl, H3⟩
  go_wp2_with fail
  go_ret
  exact ⟨rfl, H3.out⟩
theorem nilk : NilK where
  find := fun w name ep hn => (tfind_nil w name ep hn).mono fun x w' ⟨a, b⟩ => ⟨0, a, b⟩
  add := tadd_nil
  all := tall_nil
  last := tlast_nil
  clean := tclean_nil
theorem tabk : TabK TAt where
  below := TAt.below
  lo := TAt.lo
  mono := TAt.mono
  kind := TAt.kind
  stay := fun h k hF => TAt.stay h k hF
  new := tnew_any
  add := fun name ino ep h hi hl hn => tadd_any name ino ep h hi hl hn
  rem := fun name ep h hi hl hn => trem_any name ep h hi hl hn
  clean := fun v es h hi hl hv hes => tclean_any v es h hi hl hv hes
  find := fun name ep h hi hl hn => tfind_any name ep h hi hl hn
  names := fun ep h hi hl => tnames_any ep h hi hl
  all := fun h hi hl => (tall_any h hi hl).mono fun x w' ⟨r, a, b, c⟩ => ⟨r, a, b.sees, c⟩
  last := fun {w p B F t} h => by
    obtain ⟨mo, g, h1, _⟩ := h
    exact tlast_any h1.cell
end Go.Proofs.YthjcmagionaepaaGreat
