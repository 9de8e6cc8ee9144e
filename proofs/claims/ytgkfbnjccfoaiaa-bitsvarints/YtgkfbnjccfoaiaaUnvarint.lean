/- bits.Unvarint: what one call answers. -/
import Derived.Test.YtgkfbnjccfoaiaaJoin
namespace Go.Proofs.Ytgkfbnjccfoaiaa
open Go.ChangeShapes Go.WideShapes Go.ChangeAt Go.RowKit
set_option linter.unusedVariables false

theorem vlen_ten_last {zs : List Int} (h : vlen zs = 10) : zs.getD 9 0 < 2 := by
  have hl := lead_le zs
  unfold vlen at h
  split at h
  · omega
  · split at h
    · omega
    · split at h
      · omega
      · rename_i h1 h2 h3
        have e : lead zs = 9 := by omega
        rw [e] at h3; omega

theorem joined_take (b off cap n : Nat) (zs : List Int) (w : World) (hn : n = vlen zs) (hc : ∀ i, i < zs.length → w.cell? ⟨b, off + i, none⟩ = some (.int .u8 (zs.getD i 0))) (hb : bytesIn zs) :
    Calls Try.prog 31 #[.slice (some ⟨b, off, none⟩) n cap] w fun e w' => e = .returned (.int .u64 (vval zs)) ∧ w' = w := by
  have hl := vlen_le zs
  have e : (zs.take n).length = n := by rw [List.length_take]; omega
  have := joined_any b off cap (zs.take n) w (by omega) (fun i hi => by
    rw [hc i (by omega)]
    simp [List.getD, show i < n by omega]) (bytesIn_take hb n) (fun h => by
    have := vlen_ten_last (zs := zs) (by omega)
    have e9 : (zs.take n).getD 9 0 = zs.getD 9 0 := by simp [List.getD, show 9 < n by omega]
    rw [e9]; exact this)
  rw [e] at this
  unfold vval
  rw [← hn]
  exact this

theorem unv_view (B : Nat) (v : Value) (zs : List Int) (w : World) (hv : Vw B w .u8 v zs) (hb : bytesIn zs) :
    Calls Try.prog 18 #[v] w fun e w' => e = .returned (.tuple #[.int .u64 (vval zs), .int .i64 (vlen zs : Int)]) ∧ w' = w := by
  rcases hv with ⟨rfl, ao, cap, rfl, hn, hcm⟩ | ⟨hz, b, off, cap, rfl, h1, h2, h3, h4⟩
  · go_enter Try.func18, Try.ntmps18
    go_wp2_with (first | (go_at_call 30; refine (vlen_none _ _ _).mono ?_; rintro e w' ⟨rfl, rfl⟩) | (go_at_call 31; refine (joined0 _ _ _).mono ?_; rintro e w' ⟨rfl, rfl⟩))
    go_ret2
    exact ⟨rfl, rfl⟩
  · have HC : Hid (∀ i, i < zs.length → w.cell? ⟨b, off + i, none⟩ = some (.int .u8 (zs.getD i 0))) := h4
    clear h4
    unfold maxLen at h2
    have hl := vlen_le zs
    obtain ⟨hl1, hl2⟩ := hl
    have hcap : (cap : Int) ≤ 9223372036854775807 := by omega
    clear h2
    go_enter Try.func18, Try.ntmps18
    go_wp2_with (first | (go_at_call 30; refine (vlen_some b off cap zs _ hz h1 hcap HC.out hb).mono ?_; rintro e w' ⟨rfl, rfl⟩) | (go_at_call 31; refine (joined_take b off _ _ zs _ (by omega) HC.out hb).mono ?_; rintro e w'' ⟨rfl, rfl⟩))
    go_ret2
    exact ⟨rfl, rfl⟩
end Go.Proofs.Ytgkfbnjccfoaiaa
