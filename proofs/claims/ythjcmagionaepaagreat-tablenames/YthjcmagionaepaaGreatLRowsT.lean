/- dolmenlaw11.rows: entries beside rows. -/
import Derived.Test.YthjcmagionaepaaGreatRTabN
namespace Go.Proofs.YthjcmagionaepaaGreat
open Go.RowKit Kit
set_option linter.unusedVariables false

set_option maxRecDepth 4000 in
set_option maxHeartbeats 4000000 in
/-- Both show the same: it says true. -/
theorem rows_any (x y : Value) (l : List Rw) (w : World) (hx : SeesE rwE w x l) (hy : SeesE rwE w y l) : Calls Tryz.prog 17 #[x, y] w fun e w' => e = .returned (.bool true) ∧ Below w.heap.size w w' := by
  obtain ⟨xo, xc, rfl⟩ := hx.form
  obtain ⟨yo, yc, rfl⟩ := hy.form
  obtain ⟨n, hn⟩ : ∃ n, n = l.length := ⟨_, rfl⟩
  rw [← hn] at hx hy ⊢
  have hnm : (n : Int) ≤ 9223372036854775807 := by
    obtain ⟨_, _, _, h1, h2, _⟩ := hx
    have : maxLen = 9223372036854775807 := rfl
    omega
  have HS : Hid (SeesE rwE w (.slice xo n xc) l ∧ SeesE rwE w (.slice yo n yc) l ∧ n = l.length) := ⟨hx, hy, hn⟩
  clear hx hy hn
  go_enter Tryz.func17, Tryz.ntmps17
  go_wp2_with fail
  go_loopw [5] (fun s wr => ∃ i : Nat, i ≤ n ∧ s = .int .i64 (i : Int) ∧ Hid (Below w.heap.size w wr)) (fun s _ => n - (intOf s).toNat)
  case atStart => exact ⟨0, Nat.zero_le _, rfl, Below.refl _ _⟩
  case round =>
    obtain ⟨i, hi, rfl, HB⟩ := hrel
    by_cases hlt : i < n
    · have hil : (i : Int) < (n : Int) := by omega
      have hi0 : (0 : Int) ≤ (i : Int) := by omega
      have hill : i < l.length := by have := HS.out.2.2; omega
      obtain ⟨b, o, e1, _, hb, hc⟩ := rw_cells (HS.out.1.below HB.out) (by omega)
      obtain ⟨d, p, e2, _, hd, he⟩ := rw_cells (HS.out.2.1.below HB.out) (by omega)
      subst e1 e2
      obtain ⟨c0, c1, c2, c3⟩ := hc i hill
      obtain ⟨d0, d1, d2, d3⟩ := he i hill
      obtain ⟨t, ht⟩ : ∃ t, t = l[i] := ⟨_, rfl⟩
      rw [← ht] at c0 c1 c2 c3 d0 d1 d2 d3
      clear hc he ht
      go_wp2
      go_quiet (fail)
      go_wp2
      go_roundw
      case rel => exact ⟨i + 1, by omega, by go_num, by first | exact HB.out | exact drewNB HB.out _⟩
      case measure => simp [intOf]; omega
    · have hil : ¬ (i : Int) < (n : Int) := by omega
      go_wp2
      go_ret
      exact ⟨rfl, HB.out⟩
end Go.Proofs.YthjcmagionaepaaGreat
