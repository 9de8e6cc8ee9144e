/- dolmenref1.Text, dolmenref1.Untext: what one call answers. -/
import Derived.Test.YtgkfbnjccfoaiaaRefV
namespace Go.Proofs.Ytgkfbnjccfoaiaa
open Go.ChangeShapes Go.WideShapes Go.ChangeAt Go.RowKit
set_option linter.unusedVariables false

theorem rtext_any (s : ByteArray) (w : World) (hs : (s.size : Int) ≤ 140737488351232) :
    Calls Try.prog 25 #[.string s] w fun e w' => ∃ v, e = .returned v ∧ Row w' w.heap.size .u8 5 v (textOf s) ∧ Below w.heap.size w w' := by
  have ht := vint_ten (v := (s.size : Int)) (by omega)
  go_enter Try.func25, Try.ntmps25
  go_wp2_with (first
    | (go_at_call 23; refine (rvarint_any _ _ (by omega) (by omega)).mono ?_; rintro e w1 ⟨v1, rfl, hr1, hb1⟩; have hs1 := hb1.size)
    | (at_builtin; refine wpList_appStr rfl (.tmp 6) (.tmp 7) rfl w.heap.size _ (vint (s.size : Int)) rfl hr1 s rfl (by omega) hs1 ?_; intro v2 w2 hr2 hb2))
  go_ret
  exact ⟨_, rfl, hr2, hb1.trans hb2⟩

theorem runtext_bad (B : Nat) (v : Value) (zs : List Int) (w : World) (hv : Vw B w .u8 v zs) (hb : bytesIn zs) (h : vlen zs = 0 ∨ (zs.length : Int) - vlen zs < vval zs) :
    Calls Try.prog 21 #[v] w fun e w' => e = .returned (.tuple #[.string ⟨#[]⟩, .int .i64 0, .int .i64 14]) ∧ w' = w := by
  have hvb := vval_bd zs hb
  obtain ⟨v0, v1⟩ := hvb
  have hl := vlen_le zs
  obtain ⟨l0, l1⟩ := hl
  have HV : Hid (Vw B w .u8 v zs) := hv
  have hm : zs.length ≤ maxLen ∧ ∃ ao cap, v = .slice ao zs.length cap := by
    rcases hv with ⟨rfl, ao, cap, rfl, hn, hcm⟩ | ⟨hz, b, off, cap, rfl, h1, h2, h3, h4⟩
    · exact ⟨by simp, ao, cap, rfl⟩
    · exact ⟨by omega, _, cap, rfl⟩
  obtain ⟨hm, ao, cap, rfl⟩ := hm
  unfold maxLen at hm
  have hm' : (zs.length : Int) ≤ 9223372036854775807 := by omega
  clear hm hv
  by_cases hz : vlen zs = 0
  · go_enter Try.func21, Try.ntmps21
    go_wp2_with (first | (go_at_call 19; refine (runv_view B _ zs _ HV.out hb).mono ?_; rintro e w' ⟨rfl, rfl⟩))
    go_ret3
    exact ⟨rfl, rfl⟩
  · have hz' : ((vlen zs : Int) == 0) = false := beq_eq_false_iff_ne.2 (by omega)
    have h' : (zs.length : Int) - vlen zs < vval zs := by omega
    clear h
    go_enter Try.func21, Try.ntmps21
    go_wp2_with (first | (go_at_call 19; refine (runv_view B _ zs _ HV.out hb).mono ?_; rintro e w' ⟨rfl, rfl⟩))
    go_ret3
    exact ⟨rfl, rfl⟩

set_option maxHeartbeats 1000000 in
theorem runtext_ok (B : Nat) (v : Value) (zs : List Int) (w : World) (hv : Vw B w .u8 v zs) (hb : bytesIn zs) (hz : 0 < vlen zs) (m : Nat) (hvm : vval zs = m) (h : m + vlen zs ≤ zs.length) :
    Calls Try.prog 21 #[v] w fun e w' => e = .returned (.tuple #[.string (strOf ((zs.drop (vlen zs)).take m)), .int .i64 ((vlen zs + m : Nat) : Int), .int .i64 0]) ∧ w' = w := by
  have HV : Hid (Vw B w .u8 v zs) := hv
  have hl := vlen_le zs
  obtain ⟨l0, l1⟩ := hl
  rcases hv with ⟨rfl, ao, cap, rfl, hn, hcm⟩ | ⟨hp, b, off, cap, rfl, h1, h2, h3, h4⟩
  · simp at l0; omega
  · unfold maxLen at h2
    have hcap : (cap : Int) ≤ 9223372036854775807 := by omega
    have hz' : ((vlen zs : Int) == 0) = false := beq_eq_false_iff_ne.2 (by omega)
    have hce := conv_empty
    have hcv := fun w hc => conv_part b off cap (cap - vlen zs) (vlen zs) m zs w (by omega) hc (by omega) (by omega)
    have hcv1 : (convert 22 9 (.slice (some ⟨b, off + vlen zs, none⟩) m (cap - vlen zs))).run Try.prog w = .ok (.string (strOf ((zs.drop (vlen zs)).take m))) w := hcv w h4
    clear hcv h2 h4
    by_cases hcz : cap = vlen zs
    · have hm0 : m = 0 := by omega
      subst hm0
      clear hcv1
      subst hcz
      have hvm0 : vval zs = 0 := hvm
      clear hvm
      go_enter Try.func21, Try.ntmps21
      go_wp2_with (first | (go_at_call 19; refine (runv_view B _ zs _ HV.out hb).mono ?_; rw [hvm0]; rintro e w' ⟨rfl, rfl⟩))
      go_ret3
      exact ⟨rfl, rfl⟩
    · clear hce
      go_enter Try.func21, Try.ntmps21
      go_wp2_with (first | (go_at_call 19; refine (runv_view B _ zs _ HV.out hb).mono ?_; rw [hvm]; rintro e w' ⟨rfl, rfl⟩))
      go_ret3
      exact ⟨rfl, rfl⟩
end Go.Proofs.Ytgkfbnjccfoaiaa
