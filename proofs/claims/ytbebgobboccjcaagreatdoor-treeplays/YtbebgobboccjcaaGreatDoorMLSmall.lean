/- dolmenalike.Op, Ops; dolmenlaw5.small. -/
import Derived.Test.YtbebgobboccjcaaGreatDoorMLOps
import Derived.Test.YtbebgobboccjcaaGreatDoorG1
namespace Go.Proofs.YtbebgobboccjcaaGreatDoor
open Go.RowKit Kit
set_option linter.unusedVariables false

theorem bel_newS (w : World) (o : Obj) : Below w.heap.size w (w.alloc o) := (Below.refl _ _).alloc (Nat.le_refl _) _
theorem bel2s {w w1 w2 : World} (h : Below w.heap.size w w1) (k : Below w1.heap.size w1 w2) : Below w.heap.size w w2 := h.trans (k.mono h.size)
theorem sum_three (W : World) (B x y z : Nat) (h : W.heap[B]? = some (.cells #[.int .i64 x, .int .i64 y, .int .i64 z] 3)) (hx : x ≤ maxLen) (hy : y ≤ maxLen) (hz : z ≤ maxLen) :
    Calls Tryz.prog 42 #[.int .i64 1, .slice (some ⟨B, 0, none⟩) 3 3] W fun e w' => ∃ m : Nat, m ≤ 1099511627776 ∧ e = .returned (.int .i64 (m : Int)) ∧ w' = W := by
  have hm : maxLen = 9223372036854775807 := rfl
  refine (sum_list [x, y, z] 1 B 3 W (by show _ ≤ _; omega) (fun i hi => ?_) (by simp) (fun i hi => ?_)).mono ?_
  · match i, hi with
    | 0, _ => simp; omega
    | 1, _ => simp; omega
    | 2, _ => simp; omega
  · match i, hi with
    | 0, _ => simp [World.cell?, h]
    | 1, _ => simp [World.cell?, h]
    | 2, _ => simp [World.cell?, h]
  · rintro e w' ⟨rfl, rfl⟩
    exact ⟨_, satSum_le _ _ (by omega), rfl, rfl⟩
theorem sum_one (W : World) (B n x : Nat) (h : W.heap[B]? = some (.cells #[.int .i64 x] 3)) (hn : n ≤ 1099511627776) (hx : x ≤ 1099511627776) :
    Calls Tryz.prog 42 #[.int .i64 n, .slice (some ⟨B, 0, none⟩) 1 1] W fun e w' => ∃ m : Nat, m ≤ 1099511627776 ∧ e = .returned (.int .i64 (m : Int)) ∧ w' = W := by
  refine (sum_list [x] n B 1 W hn (fun i hi => ?_) (by simp) (fun i hi => ?_)).mono ?_
  · match i, hi with
    | 0, _ => simp; omega
  · match i, hi with
    | 0, _ => simp [World.cell?, h]
  · rintro e w' ⟨rfl, rfl⟩
    exact ⟨_, satSum_le _ _ hn, rfl, rfl⟩
theorem sees_len {w : World} {a : Option Addr} {n c : Nat} {xs : List Value} (h : Sees w (.slice a n c) xs) : n ≤ maxLen := by
  obtain ⟨ao, cap, h1, h2, h3, _⟩ := h
  injection h1 with e1 e2 e3
  omega
theorem box_two (w : World) (o o2 : Obj) : ((w.alloc o).alloc o2).heap[w.heap.size + 1]? = some o2 := by
  have h1 := (MapKept.heap_alloc (w.alloc o) o2).1
  have h2 : (w.alloc o).heap.size = w.heap.size + 1 := by simp
  rw [h2] at h1
  exact h1
set_option maxRecDepth 4000 in
set_option maxHeartbeats 2000000 in
theorem aop_any (o : OpB) (da : Option Addr) (dc : Nat) (w : World) (h : OpFit w o da dc) : Calls Tryz.prog 18 #[.agg #[.int .i64 o.kind, .string o.path, .string o.to, .int .i64 o.off, .int .i64 o.n, .slice da o.data.length dc, .int .i64 o.snap]] w fun e w' => ∃ m : Nat, m ≤ 1099511627776 ∧ e = .returned (.int .i64 (m : Int)) ∧ Below w.heap.size w w' := by
  have HL : Hid (o.data.length ≤ maxLen) := sees_len h.1
  have HX : Hid (∀ o1, Calls Tryz.prog 42 #[.int .i64 1, .slice (some ⟨w.heap.size + 1, 0, none⟩) 3 3] ((w.alloc o1).alloc (.cells #[.int .i64 o.path.size, .int .i64 o.to.size, .int .i64 o.data.length] 3)) fun e w' => ∃ m : Nat, m ≤ 1099511627776 ∧ e = .returned (.int .i64 (m : Int)) ∧ w' = ((w.alloc o1).alloc (.cells #[.int .i64 o.path.size, .int .i64 o.to.size, .int .i64 o.data.length] 3))) := fun o1 => sum_three _ _ _ _ _ (box_two _ _ _) h.2.2.1 h.2.2.2 HL.out
  clear h HL
  go_enter Tryz.func18, Tryz.ntmps18
  go_wp2_with fail
  go_at_call 42
  refine (HX.out _).mono ?_
  rintro e w' ⟨m, hm, rfl, rfl⟩
  go_wp2
  go_ret
  exact ⟨m, hm, rfl, ((Below.refl _ _).alloc (Nat.le_refl _) _).alloc (by simp) _⟩
set_option maxRecDepth 4000 in
set_option maxHeartbeats 4000000 in
theorem aops_any (v : Value) (os : List OpB) (w : World) (h : OpsAt w v os) (hl : os.length ≤ 80) : Calls Tryz.prog 28 #[v, .int .i64 8000] w fun e w' => ∃ m : Nat, m ≤ 1099511627776 ∧ e = .returned (.int .i64 (m : Int)) ∧ Below w.heap.size w w' := by
  have HO : Hid (OpsAt w v os) := h
  obtain ⟨ao, cap, rfl, h2, h3⟩ := h
  have H3 : Hid (0 < os.length → _) := h3
  have hl8 : (os.length : Int) ≤ 80 := by omega
  clear h2 h3
  go_enter Tryz.func28, Tryz.ntmps28
  go_wp2_with fail
  go_loopw [5, 6] (fun s5 s6 wr => ∃ m i : Nat, m ≤ 1099511627776 ∧ i ≤ os.length ∧ s5 = .int .i64 (m : Int) ∧ s6 = .int .i64 (i : Int) ∧ Hid (Below w.heap.size w wr)) (fun _ s6 _ => os.length - (intOf s6).toNat)
  case atStart => exact ⟨0, 0, by omega, Nat.zero_le _, rfl, rfl, Below.refl _ _⟩
  case round =>
    obtain ⟨m, i, hm, hi, rfl, rfl, HB⟩ := hrel
    by_cases hlt : i < os.length
    · have hil : (i : Int) < (os.length : Int) := by omega
      by_cases h80 : (m : Int) ≤ 8000
      · obtain ⟨b, off, hao, hb, hc⟩ := H3.out (by omega)
        subst hao
        obtain ⟨da, dc, ha, hf⟩ := hc i hlt
        obtain ⟨c0, c1, c2, c3, c4, c5, c6⟩ := ha.below hb HB.out
        have HF : Hid (OpFit wr os[i] da dc) := hf.below HB.out
        have HX : Hid (Calls Tryz.prog 18 _ wr _) := aop_any os[i] da dc wr HF.out
        obtain ⟨q, hq⟩ : ∃ q, q = os[i] := ⟨_, rfl⟩
        rw [← hq] at c0 c1 c2 c3 c4 c5 c6 HX HF
        clear hc ha hf hq HF
        go_wp2_with fail
        go_at_call 18
        refine HX.out.mono ?_
        rintro e w2 ⟨m2, hm2, rfl, hb2⟩
        have HB2 : Hid (Below w.heap.size w w2) := bel2s HB.out hb2
        have HS : Hid (Calls Tryz.prog 42 #[.int .i64 m, .slice (some ⟨w2.heap.size, 0, none⟩) 1 1] (w2.alloc (.cells #[.int .i64 m2] 3)) _) := sum_one _ w2.heap.size m m2 (MapKept.heap_alloc w2 _).1 hm hm2
        clear hb2 HB HX
        go_wp2_with fail
        go_at_call 42
        refine HS.out.mono ?_
        rintro e w3 ⟨m3, hm3, rfl, rfl⟩
        go_wp2
        go_round
        case rel => exact ⟨m3, i + 1, hm3, by omega, rfl, by go_num, bel2s HB2.out (bel_newS _ _)⟩
        case measure => simp [intOf]; omega
      · go_wp2
        go_ret
        exact ⟨m, hm, rfl, HB.out⟩
    · have hil : ¬ (i : Int) < (os.length : Int) := by omega
      go_wp2
      go_ret
      exact ⟨m, hm, rfl, HB.out⟩
set_option maxRecDepth 4000 in
set_option maxHeartbeats 4000000 in
/-- dolmenlaw5.small: yes or no; yes only of no more than 80. -/
theorem small_any (v : Value) (os : List OpB) (w : World) (h : OpsAt w v os) : Calls Tryz.prog 7 #[v] w fun e w' => ∃ q : Bool, e = .returned (.bool q) ∧ (q = true → os.length ≤ 80) ∧ Below w.heap.size w w' := by
  have HO : Hid (OpsAt w v os) := h
  obtain ⟨ao, cap, rfl, h2, h3⟩ := h
  clear h2 h3
  by_cases hl : os.length ≤ 80
  · have hl8 : (os.length : Int) ≤ 80 := by omega
    have HX : Hid (Calls Tryz.prog 28 _ w _) := aops_any _ os w HO.out hl
    clear HO
    go_enter Tryz.func7, Tryz.ntmps7
    go_wp2_with fail
    go_at_call 28
    refine HX.out.mono ?_
    rintro e w2 ⟨m, hm, rfl, hb2⟩
    have HB2 : Hid (Below w.heap.size w w2) := hb2
    clear hb2 HX
    go_wp2
    go_ret
    exact ⟨decide ((m : Int) ≤ 8000), by first | rfl | simp, fun _ => hl, HB2.out⟩
  · have hl8 : ¬ (os.length : Int) ≤ 80 := by omega
    clear HO
    go_enter Tryz.func7, Tryz.ntmps7
    go_wp2
    go_ret
    exact ⟨rfl, Below.refl _ _⟩
end Go.Proofs.YtbebgobboccjcaaGreatDoor
