/- dolmenref9.Epoch, Holds, holdsAny. -/
import Derived.Test.YthjcmagionaepaaGreatProg
import Derived.Test.YthjcmagionaepaaGreatMHold
import Derived.Test.YthjcmagionaepaaGreatGKit
import Derived.Deep.RegionHeld3
import Derived.Deep.RegionWith
import Derived.Deep.DeepCutAuto
import Derived.BigQuiet
namespace Go.Proofs.YthjcmagionaepaaGreat
open Go.RowKit Kit
set_option linter.unusedVariables false

theorem repoch_any (e : Int) (w : World) : Calls Tryz.prog 61 #[.int .i64 e] w fun r w' => r = .returned (.bool (epochB e)) ∧ w' = w := by
  by_cases h1 : 1 ≤ e
  · by_cases h2 : e ≤ 1099511627776
    · have HV : Hid (epochB e = true) := decide_eq_true ⟨h1, h2⟩
      go_enter Tryz.func61, Tryz.ntmps61
      go_wp2
      go_ret
      exact ⟨by rw [HV.out]; rfl, rfl⟩
    · have HV : Hid (epochB e = false) := decide_eq_false (fun h => h2 h.2)
      go_enter Tryz.func61, Tryz.ntmps61
      go_wp2
      go_ret
      exact ⟨by rw [HV.out]; rfl, rfl⟩
  · have HV : Hid (epochB e = false) := decide_eq_false (fun h => h1 h.1)
    go_enter Tryz.func61, Tryz.ntmps61
    go_wp2
    go_ret
    exact ⟨by rw [HV.out]; rfl, rfl⟩
theorem rholds_any (b d e : Int) (w : World) : Calls Tryz.prog 34 #[.agg #[.int .i64 b, .int .i64 d], .int .i64 e] w fun r w' => r = .returned (.bool (holdsB b d e)) ∧ Below w.heap.size w w' := by
  by_cases h1 : b ≤ e
  · by_cases h2 : d = 0
    · subst h2
      have HV : Hid (holdsB b 0 e = true) := by show _ = _; unfold holdsB; simp [h1]
      go_enter Tryz.func34, Tryz.ntmps34
      go_wp2
      go_ret
      exact ⟨by rw [HV.out]; rfl, bel_newG _ _⟩
    · have h4 : (d == 0) = false := by simpa using h2
      by_cases h3 : e < d
      · have HV : Hid (holdsB b d e = true) := by show _ = _; unfold holdsB; simp [h1, h3]
        go_enter Tryz.func34, Tryz.ntmps34
        go_wp2
        go_ret
        exact ⟨by rw [HV.out]; rfl, bel_newG _ _⟩
      · have HV : Hid (holdsB b d e = false) := by show _ = _; unfold holdsB; simp [h1, h2, h3]
        go_enter Tryz.func34, Tryz.ntmps34
        go_wp2
        go_ret
        exact ⟨by rw [HV.out]; rfl, bel_newG _ _⟩
  · have HV : Hid (holdsB b d e = false) := by show _ = _; unfold holdsB; simp [h1]
    go_enter Tryz.func34, Tryz.ntmps34
    go_wp2
    go_ret
    exact ⟨by rw [HV.out]; rfl, bel_newG _ _⟩
theorem any_snoc (p : Int → Bool) (l : List Int) (i : Nat) (h : i < l.length) : (l.take (i + 1)).any p = ((l.take i).any p || p (l.getD i 0)) := by
  rw [List.take_succ_eq_append_getElem h, List.any_append]
  simp [List.getD, h]
set_option maxRecDepth 4000 in
set_option maxHeartbeats 4000000 in
theorem rany_any (b d : Int) (v : Value) (es : List Int) (w : World) (hv : Sees w v (iV es)) :
    Calls Tryz.prog 46 #[.agg #[.int .i64 b, .int .i64 d], v] w fun e w' => e = .returned (.bool (needB b d es)) ∧ Below w.heap.size w w' := by
  obtain ⟨ao, cap, rfl, h1, h2, h3, h4⟩ := hv
  rw [iV_len] at h1 h4 ⊢
  obtain ⟨n, hn⟩ : ∃ n, n = es.length := ⟨_, rfl⟩
  rw [← hn] at h1 h4 ⊢
  have hm : (n : Int) ≤ 9223372036854775807 := by unfold maxLen at h2; omega
  have H4 : Hid (0 < n → ∃ b off, ao = some ⟨b, off, none⟩ ∧ b < w.heap.size ∧ ∀ (i : Nat) (x : Value), (iV es)[i]? = some x → w.cell? ⟨b, off + i, none⟩ = some x) := h4
  have HN : Hid (n = es.length) := hn
  have HH : Hid (∀ e w, Calls Tryz.prog 34 #[.agg #[.int .i64 b, .int .i64 d], .int .i64 e] w fun r w' => r = .returned (.bool (holdsB b d e)) ∧ Below w.heap.size w w') := rholds_any b d
  clear h1 h2 h3 h4 hn
  go_enter Tryz.func46, Tryz.ntmps46
  have hbx : (w.alloc (.cells #[.int .i64 b, .int .i64 d] 70)).heap[w.heap.size]? = some (.cells #[.int .i64 b, .int .i64 d] 70) := (MapKept.heap_alloc w _).1
  have HBX : Hid (Below w.heap.size w (w.alloc (.cells #[.int .i64 b, .int .i64 d] 70)) ∧ (w.alloc (.cells #[.int .i64 b, .int .i64 d] 70)).heap[w.heap.size]? = some (.cells #[.int .i64 b, .int .i64 d] 70)) := ⟨bel_newG _ _, hbx⟩
  clear hbx
  go_wp2_with fail
  go_loopw [5] (fun s5 wr => ∃ i : Nat, i ≤ n ∧ s5 = .int .i64 (i : Int) ∧ Hid ((es.take i).any (fun e => holdsB b d e) = false ∧ Below w.heap.size w wr ∧ wr.heap[w.heap.size]? = some (.cells #[.int .i64 b, .int .i64 d] 70))) (fun s5 _ => n - (intOf s5).toNat)
  case atStart => exact ⟨0, Nat.zero_le _, rfl, by simp, HBX.out⟩
  case round =>
    obtain ⟨wa, hwa⟩ : ∃ z, z = wr := ⟨_, rfl⟩
    subst hwa
    obtain ⟨i, hi, rfl, HI⟩ := hrel
    have c0 : wa.cell? ⟨w.heap.size, 0, none⟩ = some (.int .i64 b) := blk_cell HI.out.2.2 rfl
    have c1 : wa.cell? ⟨w.heap.size, 1, none⟩ = some (.int .i64 d) := blk_cell HI.out.2.2 rfl
    by_cases hlt : i < n
    · have hii : (i : Int) < (n : Int) := by omega
      have hi0 : (0 : Int) ≤ (i : Int) := by omega
      obtain ⟨bb, off, e, hbl, hc⟩ := H4.out (by omega)
      subst e
      have c2 := (HI.out.2.1.cell (by exact hbl)).trans (hc i _ (iV_at es i (by have := HN.out; omega)))
      obtain ⟨x, hx⟩ : ∃ x, x = es.getD i 0 := ⟨_, rfl⟩
      rw [← hx] at c2
      have HSN : Hid ((es.take (i + 1)).any (fun e => holdsB b d e) = ((es.take i).any (fun e => holdsB b d e) || holdsB b d x)) := by rw [hx]; exact any_snoc _ es i (by have := HN.out; omega)
      have HIN : Hid (x ∈ es) := by
        have h1 : i < es.length := by have := HN.out; omega
        show _ ∈ _
        rw [hx]
        simp [List.getD, h1]
      have hbl2 : bb < wa.heap.size := cell_lt9 c2
      have hwl : w.heap.size < wa.heap.size := cell_lt9 c0
      have hne := ownW_nonempty wa
      have t0 : ∀ n : OwnW wa, n.1.cell? ⟨w.heap.size, 0, none⟩ = some (.int .i64 b) := fun n => (n.2.cell (by exact hwl)).trans c0
      have t1 : ∀ n : OwnW wa, n.1.cell? ⟨w.heap.size, 1, none⟩ = some (.int .i64 d) := fun n => (n.2.cell (by exact hwl)).trans c1
      have t2 : ∀ n : OwnW wa, n.1.cell? ⟨bb, off + i, none⟩ = some (.int .i64 x) := fun n => (n.2.cell (by exact hbl2)).trans c2
      have HE : Hid (∀ n : OwnW wa, Calls Tryz.prog 34 #[.agg #[.int .i64 b, .int .i64 d], .int .i64 x] n.1 fun e w'' => e = .returned (.bool (holdsB b d x)) ∧ ∃ m : OwnW wa, w'' = m.1) := fun n => Calls.own_of (rholds_any b d x n.1)
      clear hc hx hbl c0 c1 c2
      go_upto_region 4 with fail
      refine wp_region_own (by kernel_rfl) (by kernel_rfl) ?_
      repeat (go_big_quiet_step (exact HE.out _))
      refine wpQuiet_nil ?_
      rintro _ ⟨m, rfl⟩
      have HM : Hid (Below wa.heap.size wa m.1) := m.2
      cases hh : holdsB b d x with
      | true =>
        have HE2 : Hid (needB b d es = true) := by
          show _ = _
          unfold needB
          rw [Bool.or_eq_true, List.any_eq_true]
          exact .inr ⟨x, HIN.out, hh⟩
        clear HSN HE t0 t1 t2
        go_wp2
        go_ret
        exact ⟨by rw [HE2.out]; simp, bel_tr HI.out.2.1 HM.out⟩
      | false =>
        have HS2 : Hid ((es.take (i + 1)).any (fun e => holdsB b d e) = false) := by
          show _ = _
          rw [HSN.out, HI.out.1, hh]; rfl
        clear HSN HE t0 t1 t2
        go_wp2
        go_roundw
        case rel => exact ⟨i + 1, by omega, by go_num, HS2.out, bel_tr HI.out.2.1 HM.out, blk_below HM.out HI.out.2.2⟩
        case measure => simp [intOf]; omega
    · have hin : ¬ (i : Int) < (n : Int) := by omega
      have HE2 : Hid (needB b d es = decide (d = 0)) := by
        have h1 := HI.out.1
        rw [List.take_of_length_le (by have := HN.out; omega)] at h1
        show _ = _
        unfold needB
        rw [h1, Bool.or_false]
      by_cases hd : d = 0
      · subst hd
        have HE3 : Hid (needB b 0 es = true) := by show _ = _; rw [HE2.out]; exact decide_eq_true rfl
        clear HE2
        go_wp2
        go_ret
        exact ⟨by rw [HE3.out]; simp, HI.out.2.1⟩
      · have HE3 : Hid (needB b d es = false) := by show _ = _; rw [HE2.out]; exact decide_eq_false hd
        have hdb : (d == 0) = false := by simpa using hd
        clear HE2
        go_wp2
        go_ret
        exact ⟨by rw [HE3.out]; simp, HI.out.2.1⟩
end Go.Proofs.YthjcmagionaepaaGreat
