/- dolmenlaw5.TreeBytes. -/
import Derived.Test.YtchajlaflehodaaGreatDoorG7
import Derived.Test.YtchajlaflehodaaGreatDoorG3
import Derived.Test.YtchajlaflehodaaGreatDoorMBytes5
import Derived.Test.YtchajlaflehodaaGreatDoorG4
namespace Go.Proofs.YtchajlaflehodaaGreatDoor
open Go.RowKit Kit
set_option linter.unusedVariables false

theorem sees_vw {w : World} {v : Value} {k : IntKind} {zs : List Int} (h : Sees w v (intsV k zs)) : Vw w.heap.size w k v zs := by
  obtain ⟨ao, cap, h1, h2, h3, h4, h5⟩ := h
  rw [intsV_len] at h1 h2 h5
  rcases Nat.eq_zero_or_pos zs.length with h0 | h0
  · have : zs = [] := List.length_eq_zero_iff.1 h0
    subst this
    exact .inl ⟨rfl, ao, cap, h1, h4, h3⟩
  · obtain ⟨b, off, e, hb, hh⟩ := h5 h0
    subst e
    refine .inr ⟨h0, b, off, cap, h1, h2, h3, hb, fun i hi => hh i _ ?_⟩
    unfold intsV
    rw [List.getElem?_map, List.getElem?_eq_getElem hi, List.getD_eq_getElem?_getD, List.getElem?_eq_getElem hi]
    rfl
theorem vw_sees {w : World} {v : Value} {k : IntKind} {zs : List Int} (h : Vw w.heap.size w k v zs) : Sees w v (intsV k zs) := by
  rcases h with ⟨rfl, ao, cap, rfl, h1, h2⟩ | ⟨h0, b, off, cap, rfl, h1, h2, h3, h4⟩
  · exact ⟨ao, cap, rfl, by simp [intsV], h2, h1, fun h => by simp [intsV] at h⟩
  · refine ⟨some ⟨b, off, none⟩, cap, by rw [intsV_len], by rw [intsV_len]; exact h1, h2, by simp, fun _ => ⟨b, off, rfl, h3, fun i x hx => ?_⟩⟩
    have hi : i < zs.length := by have := (List.getElem?_eq_some_iff.1 hx).1; rw [intsV_len] at this; exact this
    rw [intsV_at k zs i hi] at hx
    rw [h4 i hi]
    exact hx
theorem cell_turn {w w' : World} {p b g j : Nat} {v : Value} (ht : Turn p b w w') (h : w.cell? ⟨g, j, none⟩ = some v) (hp : g ≠ p) (hb : g ≠ b) : w'.cell? ⟨g, j, none⟩ = some v := by
  rw [← h]
  simp only [World.cell?, ht.block g (cell_lt h) hp hb]
theorem Own.sees {w0 w w' : World} {p b : Nat} {t : TreeB} {v : Value} {l : List Int} (h : Own w0 w p b t) (hs : Sees w v (intsV .u8 l)) (ht : Turn p b w w') : Sees w' v (intsV .u8 l) := by
  obtain ⟨ds, hd, _⟩ := h.tree
  exact sees_turn hs hd ht
theorem sees_cellsB {w : World} {a : Option Addr} {n cap : Nat} {zs : List Int} (h : Sees w (.slice a n cap) (intsV .u8 zs)) (h0 : 0 < zs.length) : ∃ b off, a = some ⟨b, off, none⟩ ∧ ∀ i, i < zs.length → w.cell? ⟨b, off + i, none⟩ = some (.int .u8 (zs.getD i 0)) := by
  rcases sees_vw h with ⟨rfl, _⟩ | ⟨_, b, off, cap', e, h1, h2, h3, h4⟩
  · cases h0
  · cases e
    exact ⟨b, off, rfl, h4⟩
theorem want_app (off : Nat) (data : List Int) (h : data ≠ []) : List.replicate off (Value.int .u8 0) ++ intsV .u8 data = intsV .u8 (wantB off data) := by
  unfold wantB intsV
  rw [if_neg h]
  simp
theorem pF_small : (⟨#[47, 102]⟩ : ByteArray).size ≤ maxLen := by decide
theorem pE_small : (⟨#[]⟩ : ByteArray).size ≤ maxLen := by decide
theorem made_row (off : Nat) (W : World) (H : Nat) (hH : W.heap.size = H) (ho : off ≤ 600) : RowV (W.alloc (.cells (madeCells #[.int .u8 0] off) 5)) H 5 (.slice (some ⟨H, 0, none⟩) off off) (List.replicate off (.int .u8 0)) := by
  subst hH
  rw [made_arr]
  have := rowV_lit W W.heap.size 5 (List.replicate off (.int .u8 0)) (Nat.le_refl _) (by rw [List.length_replicate]; unfold maxLen; omega)
  rw [List.length_replicate] at this
  exact this
theorem oneC (l : List Int) : ∀ u ∈ intsV .u8 l, u.oneCell' = true := fun v hv => ints_one .u8 l v hv
set_option maxRecDepth 4000 in
set_option maxHeartbeats 8000000 in
theorem bytes_in (off n from' : Nat) (a : Option Addr) (cap : Nat) (data : List Int) (w : World) (hg : Tied w) (hs : Sees w (.slice a data.length cap) (intsV .u8 data)) (hb : bytesIn data) (h1 : off ≤ 600) (h2 : data.length ≤ 600) (h3 : n ≤ 1500) (h4 : from' ≤ 2000) :
    Calls Tryz.prog 5 #[.int .i64 off, .slice a data.length cap, .int .i64 n, .int .i64 from'] w fun e w' => e = .returned (.bool true) ∧ Below w.heap.size w w' := by
  have HG : Hid (Tied w) := hg
  have HN : Hid (Calls Tryz.prog 12 _ _ _) := lnew w
  have HAW : Hid (∀ w1, Tied w1 → Calls Tryz.prog 11 #[] w1 fun e w' => e = .returned (.bool true) ∧ Below w1.heap.size w1 w') := fun w1 h => awake5_any w1 h
  obtain ⟨d, hd⟩ : ∃ d, d = wantB off data := ⟨_, rfl⟩
  have HDL : Hid (d.length ≤ 1200 ∧ d = wantB off data) := ⟨by rw [hd]; exact want_short off data (by omega) h2, hd⟩
  have HD1 : Hid (∀ w1 p b, Own w w1 p b newB → Calls Tryz.prog 13 #[.pointer (some ⟨p, 0, none⟩), .agg #[.int .i64 1, .string ⟨#[47, 102]⟩, .string ⟨#[]⟩, .int .i64 0, .int .i64 0, .slice none 0 0, .int .i64 0]] w1 fun e w' => Took w w1 p b (tF []) { noReply with ino := 2 } e w') := fun w1 p b h => ldo_ok ⟨1, ⟨#[47, 102]⟩, ⟨#[]⟩, 0, 0, [], 0⟩ none 0 w w1 p b newB _ _ h pF_small pE_small bytesIn_nil (sees_noData _) b_create
  have HD2 : Hid (∀ w1 p b, Own w w1 p b (tF []) → Sees w1 (.slice a data.length cap) (intsV .u8 data) → Calls Tryz.prog 13 #[.pointer (some ⟨p, 0, none⟩), .agg #[.int .i64 8, .string ⟨#[47, 102]⟩, .string ⟨#[]⟩, .int .i64 off, .int .i64 0, .slice a data.length cap, .int .i64 0]] w1 fun e w' => Took w w1 p b (tF d) { noReply with n := data.length } e w') := fun w1 p b h hv => by
    subst hd
    exact ldo_ok ⟨8, ⟨#[47, 102]⟩, ⟨#[]⟩, off, 0, data, 0⟩ a cap w w1 p b (tF []) _ _ h pF_small pE_small hb hv (b_write off data (by omega) (by omega) h2)
  have HD3 : Hid (∀ w1 p b, Own w w1 p b (tF d) → Calls Tryz.prog 13 #[.pointer (some ⟨p, 0, none⟩), .agg #[.int .i64 7, .string ⟨#[47, 102]⟩, .string ⟨#[]⟩, .int .i64 0, .int .i64 4000, .slice none 0 0, .int .i64 0]] w1 fun e w' => Took w w1 p b (tF d) { noReply with data := d } e w') := fun w1 p b h => by
    have hx := b_read d 0 4000 (by omega) (by omega)
    rw [read_all d (by have := HDL.out.1; omega)] at hx
    exact ldo_ok ⟨7, ⟨#[47, 102]⟩, ⟨#[]⟩, 0, 4000, [], 0⟩ none 0 w w1 p b (tF d) _ _ h pF_small pE_small bytesIn_nil (sees_noData _) hx
  have HD4 : Hid (∀ w1 p b, Own w w1 p b (tF d) → Calls Tryz.prog 13 #[.pointer (some ⟨p, 0, none⟩), .agg #[.int .i64 9, .string ⟨#[47, 102]⟩, .string ⟨#[]⟩, .int .i64 0, .int .i64 n, .slice none 0 0, .int .i64 0]] w1 fun e w' => Took w w1 p b (tF (bytesB d n)) noReply e w') := fun w1 p b h =>
    ldo_ok ⟨9, ⟨#[47, 102]⟩, ⟨#[]⟩, 0, n, [], 0⟩ none 0 w w1 p b (tF d) _ _ h pF_small pE_small bytesIn_nil (sees_noData _) (b_cut d n (by omega) (by omega))
  obtain ⟨L, hL⟩ : ∃ L, L = lastB d n from' := ⟨_, rfl⟩
  have HD5 : Hid (∀ w1 p b, Own w w1 p b (tF (bytesB d n)) → Calls Tryz.prog 13 #[.pointer (some ⟨p, 0, none⟩), .agg #[.int .i64 7, .string ⟨#[47, 102]⟩, .string ⟨#[]⟩, .int .i64 from', .int .i64 4000, .slice none 0 0, .int .i64 0]] w1 fun e w' => Took w w1 p b (tF (bytesB d n)) { noReply with data := L } e w') := fun w1 p b h => by
    subst hL
    exact ldo_ok ⟨7, ⟨#[47, 102]⟩, ⟨#[]⟩, from', 4000, [], 0⟩ none 0 w w1 p b (tF (bytesB d n)) _ _ h pF_small pE_small bytesIn_nil (sees_noData _) (b_read _ from' 4000 (by omega) (by omega))
  have HLL : Hid (L.length = n - from' ∧ ∀ i, i < n - from' → L.getD i 0 = d.getD (from' + i) 0) := by
    subst hL
    exact ⟨last_len d n from' h3, fun i hi => last_at d n from' i h3 hi⟩
  have hlm : ((L.length : Nat) : Int) = max ((n : Int) - (from' : Int)) 0 := by rw [HLL.out.1]; omega
  have hmk := fun W => run_make_row' (P := Tryz.prog) 23 5 (.int .u8 0) 1 Tryz.underlying23 infoU8 rfl .i64 .i64 off (by omega) (by omega) W
  have hcv := @conv_view Tryz.prog 23 9 5 Tryz.underlying23 Tryz.underlying5 Tryz.underlying9
  have HS : Hid (Sees w (.slice a data.length cap) (intsV .u8 data)) := hs
  have i1 : ¬ (600 : Int) < (off : Int) := by omega
  have i2 : ¬ (600 : Int) < (data.length : Int) := by omega
  have i3 : ¬ (1500 : Int) < (n : Int) := by omega
  have i4 : ¬ (2000 : Int) < (from' : Int) := by omega
  have HLE : Hid ((List.replicate off (Value.int .u8 0)).length + (intsV .u8 data).length ≤ 1200) := by show _ ≤ _; rw [List.length_replicate, intsV_len]; omega
  clear hg hs hb h1 h2 h3 h4 hd hL
  go_enter Tryz.func5, Tryz.ntmps5
  go_wp2_with fail
  go_at_call 12
  refine HN.out.mono ?_
  rintro e w1 ⟨p, b, rfl, HO⟩
  clear HN
  go_wp2_with fail
  go_at_call 13
  refine (HD1.out _ _ _ HO.out).mono ?_
  rintro e w2 ⟨ra, rc, na, nc, sa, sc, rfl, HT⟩
  have HO2 : Hid (Own w w2 p b (tF [])) := HT.out.2.2.1
  clear HO HT HD1
  go_wp2_with fail
  go_at_call 13
  refine (HD2.out _ _ _ HO2.out (HS.out.below HO2.out.bel)).mono ?_
  rintro e w3 ⟨ra3, rc3, na3, nc3, sa3, sc3, rfl, HT⟩
  have HO3 : Hid (Own w w3 p b (tF d)) := HT.out.2.2.1
  clear HO2 HT HD2
  have HP10 : Hid (w3.heap.size ≠ p ∧ w3.heap.size ≠ b) := by have := HO3.out.lt; exact ⟨by omega, by omega⟩
  by_cases hd0 : data = []
  · have hz : ¬ (0 : Int) < (data.length : Int) := by rw [hd0]; decide
    have HE : Hid (d = []) := by show d = []; rw [HDL.out.2, hd0]; rfl
    clear hd0
    go_wp2_with fail
    obtain ⟨w4, hw4⟩ : ∃ z, z = w3.alloc (.cells #[.int .i64 noReply.ino, .int .i64 noReply.kind, .int .i64 noReply.size, .int .i64 noReply.links, .int .i64 data.length, .slice ra3 noReply.data.length rc3, .slice na3 noReply.names.length nc3, .slice sa3 noReply.snaps.length sc3] 34) := ⟨_, rfl⟩
    rw [← hw4]
    have c10 : w4.cell? ⟨w3.heap.size, 4, none⟩ = some (.int .i64 data.length) := by rw [hw4]; simp
    have HO4 : Hid (Own w w4 p b (tF d)) := by rw [hw4]; exact HO3.out.below (bel_new _ _)
    obtain ⟨a12, ha12⟩ : ∃ a : Option Addr, a = none := ⟨_, rfl⟩
    obtain ⟨c12, hc12⟩ : ∃ c : Nat, c = 0 := ⟨_, rfl⟩
    have HV4 : Hid (Sees w4 (.slice a12 d.length c12) (intsV .u8 d)) := by rw [ha12, hc12, HE.out]; exact sees_noData _
    have e0 : Value.slice none 0 0 = Value.slice a12 d.length c12 := by rw [ha12, hc12, HE.out]; rfl
    rw [e0] at HD3 ⊢
    clear hw4 HO3 e0 ha12 hc12 HE
    go_at_call 13
    refine (HD3.out _ _ _ HO4.out).mono ?_
    rintro e w5 ⟨ra5, rc5, na5, nc5, sa5, sc5, rfl, HT⟩
    have c10' : w5.cell? ⟨w3.heap.size, 4, none⟩ = some (.int .i64 data.length) := cell_turn HT.out.2.2.2 c10 HP10.out.1 HP10.out.2
    have HV5 : Hid (Sees w5 (.slice a12 d.length c12) (intsV .u8 d) ∧ Sees w5 (.slice ra5 d.length rc5) (intsV .u8 d)) := ⟨HO4.out.sees HV4.out HT.out.2.2.2, HT.out.1⟩
    have HO5 : Hid (Own w w5 p b (tF d)) := HT.out.2.2.1
    have HP5 : Hid (w5.heap.size ≠ p ∧ w5.heap.size ≠ b) := by have := HO5.out.lt; exact ⟨by omega, by omega⟩
    clear HT c10 HV4 HO4 HD3
    go_wp2_with fail
    go_at_call 13
    refine (HD4.out _ _ _ (HO5.out.below (bel_new _ _))).mono ?_
    rintro e w6 ⟨ra6, rc6, na6, nc6, sa6, sc6, rfl, HT⟩
    have c10 : w6.cell? ⟨w3.heap.size, 4, none⟩ = some (.int .i64 data.length) := cell_turn HT.out.2.2.2 (cell_old (bel_new _ _) c10') HP10.out.1 HP10.out.2
    have c13 : w6.cell? ⟨w5.heap.size, 5, none⟩ = some (.slice ra5 d.length rc5) := cell_of (box_turn HO5.out.lt.1 HO5.out.lt.2 HT.out.2.2.2) rfl
    have HV6 : Hid (Sees w6 (.slice a12 d.length c12) (intsV .u8 d) ∧ Sees w6 (.slice ra5 d.length rc5) (intsV .u8 d)) := ⟨(HO5.out.below (bel_new _ _)).sees (HV5.out.1.below (bel_new _ _)) HT.out.2.2.2, (HO5.out.below (bel_new _ _)).sees (HV5.out.2.below (bel_new _ _)) HT.out.2.2.2⟩
    have HO6 : Hid (Own w w6 p b (tF (bytesB d n))) := HT.out.2.2.1
    clear HT c10' HV5 HO5 HD4
    go_wp2_with fail
    go_at_call 13
    refine (HD5.out _ _ _ (HO6.out.below (bel_new _ _))).mono ?_
    rintro e w7 ⟨ra7, rc7, na7, nc7, sa7, sc7, rfl, HT⟩
    have c10' : w7.cell? ⟨w3.heap.size, 4, none⟩ = some (.int .i64 data.length) := cell_turn HT.out.2.2.2 (cell_old (bel_new _ _) c10) HP10.out.1 HP10.out.2
    have c13' : w7.cell? ⟨w5.heap.size, 5, none⟩ = some (.slice ra5 d.length rc5) := cell_turn HT.out.2.2.2 (cell_old (bel_new _ _) c13) HP5.out.1 HP5.out.2
    have HV7 : Hid (Sees w7 (.slice a12 d.length c12) (intsV .u8 d) ∧ Sees w7 (.slice ra5 d.length rc5) (intsV .u8 d) ∧ Sees w7 (.slice ra7 L.length rc7) (intsV .u8 L)) := ⟨(HO6.out.below (bel_new _ _)).sees (HV6.out.1.below (bel_new _ _)) HT.out.2.2.2, (HO6.out.below (bel_new _ _)).sees (HV6.out.2.below (bel_new _ _)) HT.out.2.2.2, HT.out.1⟩
    have HO7 : Hid (Own w w7 p b (tF (bytesB d n))) := HT.out.2.2.1
    have l10 : w3.heap.size < w7.heap.size := cell_lt c10'
    have l13 : w5.heap.size < w7.heap.size := cell_lt c13'
    clear HT c10 c13 HV6 HO6 HD5 HP5 HP10 hmk
    have hc1 : ∀ o : Obj, (convert 23 9 (.slice a12 d.length c12)).run Tryz.prog (w7.alloc o) = .ok (.string (strOf d)) (w7.alloc o) := fun o => hcv (sees_vw (HV7.out.1.below (bel_new _ o)))
    have hc2 : ∀ o : Obj, (convert 23 9 (.slice ra5 d.length rc5)).run Tryz.prog (w7.alloc o) = .ok (.string (strOf d)) (w7.alloc o) := fun o => hcv (sees_vw (HV7.out.2.1.below (bel_new _ o)))
    have hself : ((strOf d).toList == (strOf d).toList) = true := beq_self_eq_true _
    clear hcv
    go_wp2_with fail
    go_loopw [19] (fun s19 wr => ∃ j : Nat, j ≤ L.length ∧ s19 = .int .i64 (j : Int) ∧ Hid (Below w7.heap.size w7 wr) ∧ wr.cell? ⟨w7.heap.size, 5, none⟩ = some (.slice ra7 L.length rc7)) (fun s19 _ => L.length - (intOf s19).toNat)
    case atStart =>
      refine ⟨0, Nat.zero_le _, rfl, ?_, ?_⟩
      · exact bel_new _ _
      · simp
    case round =>
      obtain ⟨j, hj, rfl, HB, c17⟩ := hrel
      by_cases hjl : j < L.length
      · have hji : (j : Int) < (L.length : Int) := by omega
        obtain ⟨g7, o7, e7, hc7⟩ := sees_cellsB (HV7.out.2.2.below HB.out) (by omega)
        subst e7
        have cL := hc7 j hjl
        have hgl := HLL.out.2 j (by have := HLL.out.1; omega)
        rw [hgl] at cL
        clear hc7 hgl
        by_cases hf : from' + j < d.length
        · have hfi : (from' : Int) + (j : Int) < (d.length : Int) := by omega
          obtain ⟨g2, o2, e2, hc2'⟩ := sees_cellsB (HV7.out.1.below HB.out) (by omega)
          subst e2
          have cD := hc2' (from' + j) hf
          clear hc2'
          have hidx : ((from' + j : Nat) : Int) = (from' : Int) + (j : Int) := by omega
          go_wp2
          go_round
          case rel => exact ⟨j + 1, by omega, by go_num, HB, c17⟩
          case measure => simp [intOf]; omega
        · have hfi : ¬ (from' : Int) + (j : Int) < (d.length : Int) := by omega
          have hz0 : d.getD (from' + j) 0 = 0 := by rw [List.getD_eq_getElem?_getD, List.getElem?_eq_none (by omega)]; rfl
          rw [hz0] at cL
          clear hz0
          go_wp2
          go_round
          case rel => exact ⟨j + 1, by omega, by go_num, HB, c17⟩
          case measure => simp [intOf]; omega
      · have hji : ¬ (j : Int) < (L.length : Int) := by omega
        go_wp2_with fail
        go_at_call 11
        refine (HAW.out _ (tied_below HG.out (bel2e HO7.out.bel HB.out))).mono ?_
        rintro e w9 ⟨rfl, hb9⟩
        have HB9 : Hid (Below w.heap.size w w9) := bel2e (bel2e HO7.out.bel HB.out) hb9
        clear hb9 HB
        go_wp2
        go_ret
        exact ⟨rfl, HB9.out⟩
  · have hz : (0 : Int) < (data.length : Int) := by have : data.length ≠ 0 := by simpa using hd0
                                                    omega
    have HW : Hid (List.replicate off (Value.int .u8 0) ++ intsV .u8 data = intsV .u8 d) := by show _ = _; rw [want_app off data hd0, HDL.out.2]
    clear hd0
    go_wp2_with (at_builtin; refine wpList_appV Tryz.underlying23 infoU8 rfl (by omega) rfl (.tmp 67) (.tmp 68) rfl (w3.heap.size + 1) _ (List.replicate off (Value.int .u8 0)) rfl (made_row off _ _ (by simp) (by omega)) _ (intsV .u8 data) rfl (HS.out.below (bel2e (HO3.out.below (bel_new _ _)).bel (bel_new _ _))) (oneC data) (by have := HLE.out; omega) (by simp) ?_; intro v12 w4 k1 k2; have HK : Hid (_ ∧ _) := And.intro k1 k2; clear k1 k2)
    have HK1 : Hid (RowV w4 (w3.heap.size + 1) 5 v12 (intsV .u8 d) ∧ Below w3.heap.size w3 w4 ∧ w4.cell? ⟨w3.heap.size, 4, none⟩ = some (.int .i64 data.length)) := by
      have k1 := HK.out.1
      rw [HW.out] at k1
      have hbb := HK.out.2
      refine ⟨k1, ((bel_new w3 _).trans ((bel_new _ _).mono (by simp))).trans (hbb.mono (Nat.le_succ _)), ?_⟩
      exact cell_of ((hbb.block _ (Nat.lt_succ_self _)).trans (below_block (bel_new _ _) (MapKept.heap_alloc w3 _).1)) rfl
    clear HK HW
    obtain ⟨a12, c12, rfl⟩ : ∃ a c, v12 = .slice a d.length c := by
      obtain ⟨a, c, h, _⟩ := HK1.out.1.sees
      rw [intsV_len] at h
      exact ⟨a, c, h⟩
    have c10 : w4.cell? ⟨w3.heap.size, 4, none⟩ = some (.int .i64 data.length) := HK1.out.2.2
    have HO4 : Hid (Own w w4 p b (tF d)) := HO3.out.below HK1.out.2.1
    have HV4 : Hid (Sees w4 (.slice a12 d.length c12) (intsV .u8 d)) := HK1.out.1.sees
    clear HK1 HO3
    go_wp2_with fail
    go_at_call 13
    refine (HD3.out _ _ _ HO4.out).mono ?_
    rintro e w5 ⟨ra5, rc5, na5, nc5, sa5, sc5, rfl, HT⟩
    have c10' : w5.cell? ⟨w3.heap.size, 4, none⟩ = some (.int .i64 data.length) := cell_turn HT.out.2.2.2 c10 HP10.out.1 HP10.out.2
    have HV5 : Hid (Sees w5 (.slice a12 d.length c12) (intsV .u8 d) ∧ Sees w5 (.slice ra5 d.length rc5) (intsV .u8 d)) := ⟨HO4.out.sees HV4.out HT.out.2.2.2, HT.out.1⟩
    have HO5 : Hid (Own w w5 p b (tF d)) := HT.out.2.2.1
    have HP5 : Hid (w5.heap.size ≠ p ∧ w5.heap.size ≠ b) := by have := HO5.out.lt; exact ⟨by omega, by omega⟩
    clear HT c10 HV4 HO4 HD3
    go_wp2_with fail
    go_at_call 13
    refine (HD4.out _ _ _ (HO5.out.below (bel_new _ _))).mono ?_
    rintro e w6 ⟨ra6, rc6, na6, nc6, sa6, sc6, rfl, HT⟩
    have c10 : w6.cell? ⟨w3.heap.size, 4, none⟩ = some (.int .i64 data.length) := cell_turn HT.out.2.2.2 (cell_old (bel_new _ _) c10') HP10.out.1 HP10.out.2
    have c13 : w6.cell? ⟨w5.heap.size, 5, none⟩ = some (.slice ra5 d.length rc5) := cell_of (box_turn HO5.out.lt.1 HO5.out.lt.2 HT.out.2.2.2) rfl
    have HV6 : Hid (Sees w6 (.slice a12 d.length c12) (intsV .u8 d) ∧ Sees w6 (.slice ra5 d.length rc5) (intsV .u8 d)) := ⟨(HO5.out.below (bel_new _ _)).sees (HV5.out.1.below (bel_new _ _)) HT.out.2.2.2, (HO5.out.below (bel_new _ _)).sees (HV5.out.2.below (bel_new _ _)) HT.out.2.2.2⟩
    have HO6 : Hid (Own w w6 p b (tF (bytesB d n))) := HT.out.2.2.1
    clear HT c10' HV5 HO5 HD4
    go_wp2_with fail
    go_at_call 13
    refine (HD5.out _ _ _ (HO6.out.below (bel_new _ _))).mono ?_
    rintro e w7 ⟨ra7, rc7, na7, nc7, sa7, sc7, rfl, HT⟩
    have c10' : w7.cell? ⟨w3.heap.size, 4, none⟩ = some (.int .i64 data.length) := cell_turn HT.out.2.2.2 (cell_old (bel_new _ _) c10) HP10.out.1 HP10.out.2
    have c13' : w7.cell? ⟨w5.heap.size, 5, none⟩ = some (.slice ra5 d.length rc5) := cell_turn HT.out.2.2.2 (cell_old (bel_new _ _) c13) HP5.out.1 HP5.out.2
    have HV7 : Hid (Sees w7 (.slice a12 d.length c12) (intsV .u8 d) ∧ Sees w7 (.slice ra5 d.length rc5) (intsV .u8 d) ∧ Sees w7 (.slice ra7 L.length rc7) (intsV .u8 L)) := ⟨(HO6.out.below (bel_new _ _)).sees (HV6.out.1.below (bel_new _ _)) HT.out.2.2.2, (HO6.out.below (bel_new _ _)).sees (HV6.out.2.below (bel_new _ _)) HT.out.2.2.2, HT.out.1⟩
    have HO7 : Hid (Own w w7 p b (tF (bytesB d n))) := HT.out.2.2.1
    have l10 : w3.heap.size < w7.heap.size := cell_lt c10'
    have l13 : w5.heap.size < w7.heap.size := cell_lt c13'
    clear HT c10 c13 HV6 HO6 HD5 HP5 HP10 hmk
    have hc1 : ∀ o : Obj, (convert 23 9 (.slice a12 d.length c12)).run Tryz.prog (w7.alloc o) = .ok (.string (strOf d)) (w7.alloc o) := fun o => hcv (sees_vw (HV7.out.1.below (bel_new _ o)))
    have hc2 : ∀ o : Obj, (convert 23 9 (.slice ra5 d.length rc5)).run Tryz.prog (w7.alloc o) = .ok (.string (strOf d)) (w7.alloc o) := fun o => hcv (sees_vw (HV7.out.2.1.below (bel_new _ o)))
    have hself : ((strOf d).toList == (strOf d).toList) = true := beq_self_eq_true _
    clear hcv
    go_wp2_with fail
    go_loopw [19] (fun s19 wr => ∃ j : Nat, j ≤ L.length ∧ s19 = .int .i64 (j : Int) ∧ Hid (Below w7.heap.size w7 wr) ∧ wr.cell? ⟨w7.heap.size, 5, none⟩ = some (.slice ra7 L.length rc7)) (fun s19 _ => L.length - (intOf s19).toNat)
    case atStart =>
      refine ⟨0, Nat.zero_le _, rfl, ?_, ?_⟩
      · exact bel_new _ _
      · simp
    case round =>
      obtain ⟨j, hj, rfl, HB, c17⟩ := hrel
      by_cases hjl : j < L.length
      · have hji : (j : Int) < (L.length : Int) := by omega
        obtain ⟨g7, o7, e7, hc7⟩ := sees_cellsB (HV7.out.2.2.below HB.out) (by omega)
        subst e7
        have cL := hc7 j hjl
        have hgl := HLL.out.2 j (by have := HLL.out.1; omega)
        rw [hgl] at cL
        clear hc7 hgl
        by_cases hf : from' + j < d.length
        · have hfi : (from' : Int) + (j : Int) < (d.length : Int) := by omega
          obtain ⟨g2, o2, e2, hc2'⟩ := sees_cellsB (HV7.out.1.below HB.out) (by omega)
          subst e2
          have cD := hc2' (from' + j) hf
          clear hc2'
          have hidx : ((from' + j : Nat) : Int) = (from' : Int) + (j : Int) := by omega
          go_wp2
          go_round
          case rel => exact ⟨j + 1, by omega, by go_num, HB, c17⟩
          case measure => simp [intOf]; omega
        · have hfi : ¬ (from' : Int) + (j : Int) < (d.length : Int) := by omega
          have hz0 : d.getD (from' + j) 0 = 0 := by rw [List.getD_eq_getElem?_getD, List.getElem?_eq_none (by omega)]; rfl
          rw [hz0] at cL
          clear hz0
          go_wp2
          go_round
          case rel => exact ⟨j + 1, by omega, by go_num, HB, c17⟩
          case measure => simp [intOf]; omega
      · have hji : ¬ (j : Int) < (L.length : Int) := by omega
        go_wp2_with fail
        go_at_call 11
        refine (HAW.out _ (tied_below HG.out (bel2e HO7.out.bel HB.out))).mono ?_
        rintro e w9 ⟨rfl, hb9⟩
        have HB9 : Hid (Below w.heap.size w w9) := bel2e (bel2e HO7.out.bel HB.out) hb9
        clear hb9 HB
        go_wp2
        go_ret
        exact ⟨rfl, HB9.out⟩
theorem bytes_any (off n from' : Int) (a : Option Addr) (cap : Nat) (data : List Int) (w : World) (hs : Sees w (.slice a data.length cap) (intsV .u8 data)) (hb : bytesIn data) (hg : Tied w) :
    Calls Tryz.prog 5 #[.int .i64 off, .slice a data.length cap, .int .i64 n, .int .i64 from'] w fun e w' => e = .returned (.bool true) ∧ Below w.heap.size w w' := by
  have HG : Hid (Tied w) := hg
  have HAW : Hid (∀ w1, Tied w1 → Calls Tryz.prog 11 #[] w1 fun e w' => e = .returned (.bool true) ∧ Below w1.heap.size w1 w') := fun w1 h => awake5_any w1 h
  by_cases h : (0 ≤ off ∧ off ≤ 600) ∧ (data.length : Int) ≤ 600 ∧ (0 ≤ n ∧ n ≤ 1500) ∧ (0 ≤ from' ∧ from' ≤ 2000)
  · obtain ⟨⟨a1, a2⟩, a3, ⟨a4, a5⟩, a6, a7⟩ := h
    obtain ⟨o', rfl⟩ : ∃ m : Nat, off = m := ⟨off.toNat, by omega⟩
    obtain ⟨n', rfl⟩ : ∃ m : Nat, n = m := ⟨n.toNat, by omega⟩
    obtain ⟨f', rfl⟩ : ∃ m : Nat, from' = m := ⟨from'.toNat, by omega⟩
    exact bytes_in o' n' f' a cap data w hg hs hb (by omega) (by omega) (by omega) (by omega)
  · clear hs hb hg
    by_cases c1 : off < 0
    · clear h
      go_enter Tryz.func5, Tryz.ntmps5
      go_wp2_with fail
      go_at_call 11
      refine (HAW.out _ HG.out).mono ?_
      rintro e w2 ⟨rfl, hb2⟩
      go_wp2
      go_ret
      exact ⟨rfl, hb2⟩
    by_cases c2 : 600 < off
    · clear h
      go_enter Tryz.func5, Tryz.ntmps5
      go_wp2_with fail
      go_at_call 11
      refine (HAW.out _ HG.out).mono ?_
      rintro e w2 ⟨rfl, hb2⟩
      go_wp2
      go_ret
      exact ⟨rfl, hb2⟩
    by_cases c3 : (600 : Int) < (data.length : Int)
    · clear h
      go_enter Tryz.func5, Tryz.ntmps5
      go_wp2_with fail
      go_at_call 11
      refine (HAW.out _ HG.out).mono ?_
      rintro e w2 ⟨rfl, hb2⟩
      go_wp2
      go_ret
      exact ⟨rfl, hb2⟩
    by_cases c4 : n < 0
    · clear h
      go_enter Tryz.func5, Tryz.ntmps5
      go_wp2_with fail
      go_at_call 11
      refine (HAW.out _ HG.out).mono ?_
      rintro e w2 ⟨rfl, hb2⟩
      go_wp2
      go_ret
      exact ⟨rfl, hb2⟩
    by_cases c5 : 1500 < n
    · clear h
      go_enter Tryz.func5, Tryz.ntmps5
      go_wp2_with fail
      go_at_call 11
      refine (HAW.out _ HG.out).mono ?_
      rintro e w2 ⟨rfl, hb2⟩
      go_wp2
      go_ret
      exact ⟨rfl, hb2⟩
    by_cases c6 : from' < 0
    · clear h
      go_enter Tryz.func5, Tryz.ntmps5
      go_wp2_with fail
      go_at_call 11
      refine (HAW.out _ HG.out).mono ?_
      rintro e w2 ⟨rfl, hb2⟩
      go_wp2
      go_ret
      exact ⟨rfl, hb2⟩
    have c7 : 2000 < from' := by omega
    · clear h
      go_enter Tryz.func5, Tryz.ntmps5
      go_wp2_with fail
      go_at_call 11
      refine (HAW.out _ HG.out).mono ?_
      rintro e w2 ⟨rfl, hb2⟩
      go_wp2
      go_ret
      exact ⟨rfl, hb2⟩
end Go.Proofs.YtchajlaflehodaaGreatDoor
