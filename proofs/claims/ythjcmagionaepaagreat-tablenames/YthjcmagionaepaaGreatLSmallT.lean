/- dolmenlaw11.small. -/
import Derived.Test.YthjcmagionaepaaGreatLStepsT
import Derived.Deep.RegionWith
import Derived.Deep.CutRange
namespace Go.Proofs.YthjcmagionaepaaGreat
open Go.RowKit Kit
set_option linter.unusedVariables false

theorem sum_threeT (W : World) (B n x y z : Nat) (h : W.heap[B]? = some (.cells #[.int .i64 x, .int .i64 y, .int .i64 z] 3)) (hn : n ≤ 1099511627776) (hx : x ≤ maxLen) (hy : y ≤ maxLen) (hz : z ≤ maxLen) :
    Calls Tryz.prog 25 #[.int .i64 n, .slice (some ⟨B, 0, none⟩) 3 3] W fun e w' => ∃ m : Nat, m ≤ 1099511627776 ∧ (m ≤ 2000 → x ≤ 2000 ∧ y ≤ 2000) ∧ e = .returned (.int .i64 (m : Int)) ∧ w' = W := by
  have hm : maxLen = 9223372036854775807 := rfl
  refine (sum_list [x, y, z] n B 3 W hn (fun i hi => ?_) (by simp) (fun i hi => ?_)).mono ?_
  · match i, hi with
    | 0, _ => simp; omega
    | 1, _ => simp; omega
    | 2, _ => simp; omega
  · match i, hi with
    | 0, _ => simp [World.cell?, h]
    | 1, _ => simp [World.cell?, h]
    | 2, _ => simp [World.cell?, h]
  · rintro e w' ⟨rfl, rfl⟩
    refine ⟨_, satSum_le _ _ hn, fun h => ?_, rfl, rfl⟩
    have h2 := satSum_small [x, y, z] n (by omega)
    rw [h2] at h
    simp at h
    omega
set_option maxRecDepth 4000 in
set_option maxHeartbeats 4000000 in
theorem small_any (v : Value) (ss : List Ts) (w : World) (h : StepsAt w v ss) : Calls Tryz.prog 8 #[v] w fun e w' => ∃ z : Bool, e = .returned (.bool z) ∧ (z = true → ss.length ≤ 80 ∧ ∀ s ∈ ss, s.name.size ≤ 2000 ∧ s.es.length ≤ 2000) ∧ Below w.heap.size w w' := by
  obtain ⟨ao, cap, rfl, h2, h3⟩ := h
  obtain ⟨n, hn⟩ : ∃ n, n = ss.length := ⟨_, rfl⟩
  rw [← hn] at h2 ⊢
  have HN : Hid (n = ss.length) := hn
  have H3 : Hid (0 < ss.length → _) := h3
  have hnm : (n : Int) ≤ 9223372036854775807 := by have : maxLen = 9223372036854775807 := rfl; omega
  clear h2 h3 hn
  go_enter Tryz.func8, Tryz.ntmps8
  go_wp2_with fail
  go_loopw [3, 4] (fun s5 s6 wr => ∃ m i : Nat, m ≤ 1099511627776 ∧ i ≤ n ∧ s5 = .int .i64 (m : Int) ∧ s6 = .int .i64 (i : Int) ∧ Hid (Below w.heap.size w wr) ∧ Hid (∀ s ∈ ss.take i, s.name.size ≤ 2000 ∧ s.es.length ≤ 2000)) (fun _ s6 _ => n - (intOf s6).toNat)
  case atStart => exact ⟨0, 0, by omega, Nat.zero_le _, rfl, rfl, Below.refl _ _, fun s h => by simp at h⟩
  case round =>
    obtain ⟨m, i, hm, hi, rfl, rfl, HB, HSO⟩ := hrel
    by_cases hlt : i < n
    · have hil : (i : Int) < (n : Int) := by omega
      have hi0 : (0 : Int) ≤ (i : Int) := by omega
      obtain ⟨b, off, hao, hb, hc⟩ := H3.out (by have := HN.out; omega)
      subst hao
      obtain ⟨ea, ec, ha, hf⟩ := hc i (by have := HN.out; omega)
      obtain ⟨c0, c1, c2, c3, c4⟩ := ha.below hb HB.out
      have HF : Hid (ss[i].name.size ≤ maxLen ∧ ss[i].es.length ≤ maxLen) := hf.2
      have HNX : Hid (ss[i].name.size ≤ 2000 ∧ ss[i].es.length ≤ 2000 → ∀ s ∈ ss.take (i + 1), s.name.size ≤ 2000 ∧ s.es.length ≤ 2000) := fun h s hs => by
        rw [List.take_add_one, List.getElem?_eq_getElem (by have := HN.out; omega)] at hs
        simp only [Option.toList_some, List.mem_append, List.mem_singleton] at hs
        rcases hs with hs | hs
        · exact HSO.out s hs
        · rw [hs]; exact h
      obtain ⟨s, hs⟩ : ∃ s, s = ss[i] := ⟨_, rfl⟩
      rw [← hs] at c0 c1 c2 c3 c4 HF HNX
      clear hc ha hf hs
      have HX : Hid (∀ W B, W.heap[B]? = some (.cells #[.int .i64 s.name.size, .int .i64 s.es.length, .int .i64 1] 3) → Calls Tryz.prog 25 #[.int .i64 m, .slice (some ⟨B, 0, none⟩) 3 3] W fun e w' => ∃ m : Nat, m ≤ 1099511627776 ∧ Hid (m ≤ 2000 → s.name.size ≤ 2000 ∧ s.es.length ≤ 2000) ∧ e = .returned (.int .i64 (m : Int)) ∧ w' = W) := fun W B hW => sum_threeT W B m _ _ 1 hW hm HF.out.1 HF.out.2 (by have : maxLen = 9223372036854775807 := rfl; omega)
      have HZ : Hid ((wr.alloc (.cells #[.int .i64 s.name.size, .int .i64 s.es.length, .int .i64 1] 3)).heap[wr.heap.size]? = some (.cells #[.int .i64 s.name.size, .int .i64 s.es.length, .int .i64 1] 3)) := (MapKept.heap_alloc wr _).1
      go_upto_region 5 with fail
      go_cut [3] from 5 to 27 (fun s3 wx => ∃ m3 : Nat, m3 ≤ 1099511627776 ∧ s3 = .int .i64 (m3 : Int) ∧ Hid (m3 ≤ 2000 → s.name.size ≤ 2000 ∧ s.es.length ≤ 2000) ∧ Hid (Below w.heap.size w wx))
      case first =>
        go_region_with (go_at_call 25; refine (HX.out _ _ (by exact HZ.out)).mono ?_; rintro e w3 ⟨m3, hm3, HM3, rfl, rfl⟩)
        all_goals (
          go_wp2_with fail
          go_meet
          case rel => exact ⟨m3, hm3, rfl, HM3, by first | exact bel_tr HB.out (bel_newG _ _) | exact bel_tr HB.out (bel_newG _ _).drew | exact bel_tr HB.out (drewNB (bel_newG _ _) _)⟩)
      case rest =>
      obtain ⟨m3, hm3, rfl, HM3, HB3⟩ := hcut
      clear HX HZ c0 c1 c2 c3 c4 HB
      by_cases h80 : (2000 : Int) < (m3 : Int)
      · go_wp2
        go_ret
        exact ⟨false, rfl, (fun h => by cases h), HB3.out⟩
      · go_wp2
        go_roundw
        case rel => exact ⟨m3, i + 1, hm3, by omega, rfl, by go_num, HB3.out, HNX.out (HM3.out (by omega))⟩
        case measure => simp [intOf]; omega
    · have hil : ¬ (i : Int) < (n : Int) := by omega
      by_cases h8 : (n : Int) ≤ 80
      · go_wp2
        go_ret
        have hlast : ∀ s ∈ ss, s.name.size ≤ 2000 ∧ s.es.length ≤ 2000 := by
          have := HSO.out
          rwa [List.take_of_length_le (by have := HN.out; omega)] at this
        first | exact ⟨true, rfl, fun _ => ⟨by omega, hlast⟩, HB.out⟩ | exact .inr ⟨rfl, ⟨by omega, hlast⟩, HB.out⟩
      · go_wp2
        go_ret
        first | exact ⟨false, rfl, (fun h => by cases h), HB.out⟩ | exact .inl ⟨rfl, HB.out⟩
end Go.Proofs.YthjcmagionaepaaGreat
