/- bits.varintLen, bits.joined, bits.Unvarint: what one call answers. -/
import Derived.Test.YtgkfbnjccfoaiaaViews
import Derived.Test.YtgkfbnjccfoaiaaMathU
namespace Go.Proofs.Ytgkfbnjccfoaiaa
open Go.ChangeShapes Go.WideShapes Go.ChangeAt Go.RowKit
set_option linter.unusedVariables false

theorem vlen_none (ao : Option Addr) (cap : Nat) (w : World) :
    Calls Try.prog 30 #[.slice ao 0 cap] w fun e w' => e = .returned (.int .i64 0) ∧ w' = w := by
  go_enter Try.func30, Try.ntmps30
  go_wp2
  refine wp_loop_rounds 1 ?_
  rw [rounds_succ]
  go_wp2
  go_ret
  exact ⟨rfl, rfl⟩

set_option maxHeartbeats 2000000 in
theorem vlen_some (b off cap : Nat) (zs : List Int) (w : World) (hz : 0 < zs.length) (hlc : zs.length ≤ cap) (hcap : (cap : Int) ≤ 9223372036854775807)
    (hc : ∀ i, i < zs.length → w.cell? ⟨b, off + i, none⟩ = some (.int .u8 (zs.getD i 0))) (hb : bytesIn zs) :
    Calls Try.prog 30 #[.slice (some ⟨b, off, none⟩) zs.length cap] w fun e w' => e = .returned (.int .i64 (vlen zs : Int)) ∧ w' = w := by
  have HC : Hid (∀ i, i < zs.length → w.cell? ⟨b, off + i, none⟩ = some (.int .u8 (zs.getD i 0))) := hc
  clear hc
  go_enter Try.func30, Try.ntmps30
  go_wp2
  go_loop [3] (fun i => ∃ k : Nat, k ≤ zs.length ∧ k ≤ 10 ∧ Hid (k ≤ lead zs) ∧ i = .int .i64 k) (fun i => zs.length - (intOf i).toNat)
  case atStart => exact ⟨0, by omega, by omega, Nat.zero_le _, rfl⟩
  case round =>
    obtain ⟨k, hk, h10, hl, rfl⟩ := hrel
    by_cases he : k = zs.length
    · have HV : Hid (vlen zs = 0) := vlen_end (by have := hl.out; omega)
      subst he
      go_wp2
      go_ret
      exact ⟨by rw [HV.out]; rfl, rfl⟩
    · have hlt : k < zs.length := by omega
      by_cases h9 : k = 10
      · have HV : Hid (vlen zs = 0) := vlen_ten (by have := hl.out; omega)
        subst h9
        go_wp2
        go_ret
        exact ⟨by rw [HV.out]; rfl, rfl⟩
      · have hcell := HC.out k hlt
        have hbd := bytesIn_get hb hlt
        have HST : Hid (128 ≤ zs.getD k 0 ↔ k + 1 ≤ lead zs) := lead_step zs k hl.out hlt
        have HIS : Hid (zs.getD k 0 < 128 → lead zs = k) := fun h => lead_is hl.out hlt h
        generalize hcz : zs.getD k 0 = c at *
        have HCZ : Hid (zs.getD k 0 = c) := hcz
        clear hcz
        obtain ⟨hb0, hb1⟩ := hbd
        by_cases hg : 128 ≤ c
        · go_wp2
          go_round
          case rel => exact ⟨k + 1, by omega, by omega, HST.out.1 hg, by go_num⟩
          case measure => simp [intOf]; omega
        · have HL : Hid (lead zs = k) := HIS.out (by omega)
          clear HST HIS hl
          by_cases h0 : 0 < k
          · by_cases hc0 : c = 0
            · have HV : Hid (vlen zs = 0) := vlen_nought HL.out h0 (by rw [HCZ.out]; exact hc0)
              go_wp2
              go_ret
              exact ⟨by rw [HV.out]; rfl, rfl⟩
            · have hcp : 0 < c := by omega
              by_cases hk9 : k = 9
              · subst hk9
                by_cases hc1 : 1 < c
                · have HV : Hid (vlen zs = 0) := vlen_great HL.out rfl (by rw [HCZ.out]; exact hc1)
                  go_wp2
                  go_ret
                  exact ⟨by rw [HV.out]; rfl, rfl⟩
                · have HV : Hid (vlen zs = 9 + 1) := vlen_is HL.out hlt (by omega) (by rw [HCZ.out]; omega) (by rw [HCZ.out]; omega)
                  clear hc0
                  go_wp2
                  go_ret
                  exact ⟨by rw [HV.out]; go_num, rfl⟩
              · have HV : Hid (vlen zs = k + 1) := vlen_is HL.out hlt (by omega) (by rw [HCZ.out]; omega) (by omega)
                clear hc0
                go_wp2
                go_ret
                exact ⟨by rw [HV.out]; go_num, rfl⟩
          · have HV : Hid (vlen zs = k + 1) := vlen_is HL.out hlt (by omega) (by omega) (by omega)
            go_wp2
            go_ret
            exact ⟨by rw [HV.out]; go_num, rfl⟩
end Go.Proofs.Ytgkfbnjccfoaiaa
