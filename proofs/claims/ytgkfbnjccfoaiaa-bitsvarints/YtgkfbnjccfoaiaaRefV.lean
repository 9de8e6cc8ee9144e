/- dolmenref1.Varint, dolmenref1.Unvarint: what one call answers. -/
import Derived.Test.YtgkfbnjccfoaiaaArgs
import Derived.Test.YtgkfbnjccfoaiaaMathR
namespace Go.Proofs.Ytgkfbnjccfoaiaa
open Go.ChangeShapes Go.WideShapes Go.ChangeAt Go.RowKit
set_option linter.unusedVariables false

set_option maxHeartbeats 1000000 in
theorem rvarint_any (x : Int) (w : World) (h0 : 0 ≤ x) (h1 : x < 18446744073709551616) :
    Calls Try.prog 23 #[.int .u64 x] w fun e w' => ∃ v, e = .returned v ∧ Row w' w.heap.size .u8 5 v (vint x) ∧ Below w.heap.size w w' := by
  have HT : Hid ((vint x).length ≤ 10) := vint_ten (by omega)
  go_enter Try.func23, Try.ntmps23
  go_wp2
  go_loopw [0, 3] (fun a v wr => ∃ (y : Int) (done : List Int), 0 ≤ y ∧ y < 18446744073709551616 ∧ Hid (done ++ vint y = vint x) ∧ a = .int .u64 y ∧ Row wr w.heap.size .u8 5 v done ∧ Below w.heap.size w wr) (fun a _ _ => (intOf a).toNat)
  case atStart => exact ⟨x, [], h0, h1, rfl, rfl, World.ownsRow_nil _ _ _ _, Below.refl _ _⟩
  case round =>
    obtain ⟨y, done, y0, y1, HD, rfl, hrow, hbel⟩ := hrel
    have hs := hbel.size
    have hdl : done.length + 1 ≤ 10 := by have := HT.out; rw [← HD.out, List.length_append] at this; have := vint_pos y; omega
    by_cases hge : 128 ≤ y
    · go_wp2_with (first
        | (at_builtin; refine wpList_app rfl (.tmp 6) (.tmp 11) rfl w.heap.size _ done rfl (hrow.alloc _) _ _ [_] rfl (view_one _ _ wr.heap.size rfl) (by simp; omega) (by simp; omega) ?_; intro v2 w2 hr2 hb2))
      have hb3 : Below w.heap.size w w2 := (hbel.alloc hs _).trans hb2
      rw [group_of y y0 y1] at hr2
      go_roundw
      case rel =>
        have e := vint_more hge
        have h := HD.out
        rw [e] at h
        exact ⟨y / 128, done ++ [y % 128 + 128], by omega, by omega, by rw [List.append_assoc]; exact h, rfl, hr2, hb3⟩
      case measure => simp [intOf]; omega
    · have hy : y % 256 = y := by omega
      go_wp2_with (first
        | (at_builtin; refine wpList_app rfl (.tmp 15) (.tmp 18) rfl w.heap.size _ done rfl (hrow.alloc _) _ _ [_] rfl (view_one _ _ wr.heap.size rfl) (by simp; omega) (by simp; omega) ?_; intro v2 w2 hr2 hb2))
      go_ret
      have e := vint_one (v := y) (by omega)
      have h := HD.out
      rw [e] at h
      rw [h] at hr2
      exact ⟨_, rfl, hr2, (hbel.alloc hs _).trans hb2⟩

set_option maxHeartbeats 4000000 in
theorem runv_some (b off cap : Nat) (zs : List Int) (w : World) (hz : 0 < zs.length) (hlc : zs.length ≤ cap) (hcap : (cap : Int) ≤ 9223372036854775807)
    (hc : ∀ i, i < zs.length → w.cell? ⟨b, off + i, none⟩ = some (.int .u8 (zs.getD i 0))) (hb : bytesIn zs) :
    Calls Try.prog 19 #[.slice (some ⟨b, off, none⟩) zs.length cap] w fun e w' => e = .returned (.tuple #[.int .u64 (vval zs), .int .i64 (vlen zs : Int)]) ∧ w' = w := by
  have HC : Hid (∀ i, i < zs.length → w.cell? ⟨b, off + i, none⟩ = some (.int .u8 (zs.getD i 0))) := hc
  clear hc
  go_enter Try.func19, Try.ntmps19
  go_wp2
  go_loop [4, 5] (fun v i => ∃ k : Nat, k ≤ zs.length ∧ k ≤ 10 ∧ Hid (k ≤ lead zs) ∧ v = .int .u64 (jn (zs.take k)) ∧ i = .int .i64 k) (fun _ i => zs.length - (intOf i).toNat)
  case atStart => exact ⟨0, by omega, by omega, Nat.zero_le _, rfl, rfl⟩
  case round =>
    obtain ⟨k, hk, h10, hl, rfl, rfl⟩ := hrel
    by_cases he : k = zs.length
    · have HV : Hid (vlen zs = 0) := vlen_end (by have := hl.out; omega)
      subst he
      go_wp2
      go_ret2
      exact ⟨by unfold vval; rw [HV.out]; rfl, rfl⟩
    · have hlt : k < zs.length := by omega
      by_cases h9 : k = 10
      · have HV : Hid (vlen zs = 0) := vlen_ten (by have := hl.out; omega)
        subst h9
        go_wp2
        go_ret2
        exact ⟨by unfold vval; rw [HV.out]; rfl, rfl⟩
      · have hcell := HC.out k hlt
        have hbd := bytesIn_get hb hlt
        have HST : Hid (128 ≤ zs.getD k 0 ↔ k + 1 ≤ lead zs) := lead_step zs k hl.out hlt
        have HIS : Hid (zs.getD k 0 < 128 → lead zs = k) := fun h => lead_is hl.out hlt h
        generalize hcz : zs.getD k 0 = c at *
        have HCZ : Hid (zs.getD k 0 = c) := hcz
        clear hcz
        obtain ⟨hb0, hb1⟩ := hbd
        have hk10 : k < 10 := by omega
        by_cases hg9 : k = 9 ∧ 1 < c
        · obtain ⟨hk9, hc1⟩ := hg9
          have HV : Hid (vlen zs = 0) := by
            by_cases h128 : 128 ≤ c
            · exact vlen_ten (by have := HST.out.1 h128; omega)
            · exact vlen_great (HIS.out (by omega)) hk9 (by rw [HCZ.out]; exact hc1)
          subst hk9
          go_wp2
          go_ret2
          exact ⟨by unfold vval; rw [HV.out]; rfl, rfl⟩
        · have hok : k < 9 ∨ (k = 9 ∧ c ≤ 1) := by omega
          have HJ : Hid (bits .or .u64 (jn (zs.take k)) (IntKind.u64.wrap (IntKind.u64.wrap (bits .and .u8 c 127) * 2 ^ (7 * k))) = jn (zs.take (k + 1))) := jn_round zs k c hlt HCZ.out hb0 hb1 hok
          by_cases hg : 128 ≤ c
          · have hk9 : k < 9 := by omega
            clear hok hg9
            go_wp2
            go_round
            case rel => exact ⟨k + 1, by omega, by omega, HST.out.1 hg, congrArg (Value.int IntKind.u64) HJ.out, by go_num⟩
            case measure => simp [intOf]; omega
          · have HL : Hid (lead zs = k) := HIS.out (by omega)
            have hnot : ¬ (k = 9 ∧ 1 < zs.getD k 0) := by rw [HCZ.out]; exact hg9
            by_cases hc0 : c = 0 ∧ 0 < k
            · obtain ⟨hc0, hk0⟩ := hc0
              have HV : Hid (vlen zs = 0) := vlen_nought HL.out hk0 (by rw [HCZ.out]; exact hc0)
              subst hc0
              clear hnot hg9 hok HJ
              by_cases hk9 : k = 9
              · subst hk9
                go_wp2
                go_ret2
                exact ⟨by unfold vval; rw [HV.out]; rfl, rfl⟩
              · go_wp2
                go_ret2
                exact ⟨by unfold vval; rw [HV.out]; rfl, rfl⟩
            · have HV : Hid (vlen zs = k + 1) := vlen_is HL.out hlt hk10 (by rw [HCZ.out]; omega) hnot
              have HW : Hid (jn (zs.take (k + 1)) = vval zs) := by unfold vval; rw [HV.out]; rfl
              clear hnot
              by_cases hk9 : k = 9
              · subst hk9
                have hc1 : c = 1 := by omega
                subst hc1
                clear hc0 hg9 hok
                go_wp2
                go_ret2
                exact ⟨by rw [← HW.out, ← HJ.out, HV.out]; rfl, rfl⟩
              · by_cases hc00 : c = 0
                · have hk0 : k = 0 := by omega
                  subst hk0
                  subst hc00
                  clear hc0 hg9 hok
                  simp only [Nat.add_zero] at hcell
                  go_wp2
                  go_ret2
                  exact ⟨by rw [← HW.out, ← HJ.out, HV.out]; rfl, rfl⟩
                · have hcp : 0 < c := by omega
                  clear hc0 hg9 hok hc00
                  go_wp2
                  go_ret2
                  exact ⟨by rw [← HW.out, ← HJ.out, HV.out]; rfl, rfl⟩

theorem runv_none (ao : Option Addr) (cap : Nat) (w : World) :
    Calls Try.prog 19 #[.slice ao 0 cap] w fun e w' => e = .returned (.tuple #[.int .u64 0, .int .i64 0]) ∧ w' = w := by
  go_enter Try.func19, Try.ntmps19
  go_wp2
  refine wp_loop_rounds 1 ?_
  rw [rounds_succ]
  go_wp2
  go_ret2
  exact ⟨rfl, rfl⟩

theorem runv_view (B : Nat) (v : Value) (zs : List Int) (w : World) (hv : Vw B w .u8 v zs) (hb : bytesIn zs) :
    Calls Try.prog 19 #[v] w fun e w' => e = .returned (.tuple #[.int .u64 (vval zs), .int .i64 (vlen zs : Int)]) ∧ w' = w := by
  rcases hv with ⟨rfl, ao, cap, rfl, hn, hcm⟩ | ⟨hz, b, off, cap, rfl, h1, h2, h3, h4⟩
  · exact runv_none ao cap w
  · exact runv_some b off cap zs w hz h1 (by unfold maxLen at h2; omega) h4 hb
end Go.Proofs.Ytgkfbnjccfoaiaa
