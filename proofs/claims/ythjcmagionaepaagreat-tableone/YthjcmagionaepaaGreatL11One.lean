/- dolmenlaw11.TableOne, over any table that is held to the contracts. -/
import Derived.Test.YthjcmagionaepaaGreatLOnlyT
import Derived.Deep.RegionHeld3
import Derived.BigQuiet
namespace Go.Proofs.YthjcmagionaepaaGreat
open Go.RowKit Kit
set_option linter.unusedVariables false
variable {T : World → Nat → Nat → (Nat → Prop) → Tb → Prop}

set_option maxRecDepth 4000 in
set_option maxHeartbeats 16000000 in
theorem lone_any (K : TabK T) (v : Value) (ss : List Ts) (w : World) (hs : StepsAt w v ss) :
    Calls Tryz.prog 4 #[v] w fun e w' => e = .returned (.bool true) ∧ Below w.heap.size w w' := by
  have HSM : Hid (Calls Tryz.prog 8 #[v] w fun e w' => ∃ z : Bool, e = .returned (.bool z) ∧ (z = true → ss.length ≤ 80 ∧ ∀ s ∈ ss, s.name.size ≤ 2000 ∧ s.es.length ≤ 2000) ∧ Below w.heap.size w w') := small_any v ss w hs
  have HAW : Hid (∀ X, Calls Tryz.prog 9 #[] X fun e w' => e = .returned (.bool true) ∧ Below X.heap.size X w') := fun X => awake_any K X
  obtain ⟨ao, cap, rfl, h2, h3⟩ := hs
  obtain ⟨n, hn⟩ : ∃ n, n = ss.length := ⟨_, rfl⟩
  rw [← hn] at HSM ⊢
  have HN : Hid (n = ss.length) := hn
  have H3 : Hid (0 < ss.length → _) := h3
  have HSZ : Hid (∀ s ∈ ss, s.name.size ≤ maxLen) := fun s hs => by
    obtain ⟨i, hi, rfl⟩ := List.mem_iff_getElem.1 hs
    obtain ⟨_, _, _, _, hc⟩ := h3 (by omega)
    obtain ⟨_, _, _, hf⟩ := hc i hi
    exact hf.2.1
  clear h2 h3 hn
  go_enter Tryz.func4, Tryz.ntmps4
  go_wp2_with fail
  go_at_call 8
  refine HSM.out.mono ?_
  rintro e w1 ⟨z, rfl, hz, hb1⟩
  have HB1 : Hid (Below w.heap.size w w1) := hb1
  have HZ : Hid (z = true → n ≤ 80 ∧ ∀ s ∈ ss, s.name.size ≤ 2000 ∧ s.es.length ≤ 2000) := hz
  clear hz hb1 HSM
  cases z with
  | false =>
    go_wp2_with (go_at_call 9; refine (HAW.out _).mono ?_; rintro e w2 ⟨rfl, hb2⟩)
    go_ret
    exact ⟨rfl, bel_tr HB1.out hb2⟩
  | true =>
    have hn80 : n ≤ 80 := (HZ.out rfl).1
    have HS2 : Hid (∀ s ∈ ss, s.name.size ≤ 2000 ∧ s.es.length ≤ 2000) := (HZ.out rfl).2
    have hnm : (n : Int) ≤ 80 := by omega
    have HNN : Hid (n ≤ 80) := hn80
    have HNEW : Hid (∀ X, Calls Tryz.prog 10 #[] X fun x w' => ∃ p F, x = .returned (.pointer (some ⟨p, 0, none⟩)) ∧ Hid (T w' p X.heap.size F tb0 ∧ Below X.heap.size X w')) := fun X => K.new X
    clear hn80 HZ
    go_upto_region 6 with (go_at_call 10; refine (HNEW.out _).mono ?_; rintro e w2 ⟨p, F0, rfl, HT0⟩)
    have HT1 : Hid (OneT T w w2 p F0 (playT (ss.take 0)) ∧ True) := ⟨⟨K.mono HT0.out.1 HB1.out.size, bel_tr HB1.out HT0.out.2⟩, trivial⟩
    clear HT0 HNEW
    go_wp2_with fail
    go_loopw [4] (fun s wr => ∃ (i : Nat) (F : Nat → Prop), i ≤ n ∧ s = .int .i64 (i : Int) ∧ Hid (OneT T w wr p F (playT (ss.take i)) ∧ True)) (fun s _ => n - (intOf s).toNat)
    case atStart => exact ⟨0, _, Nat.zero_le _, rfl, HT1.out⟩
    case round =>
      obtain ⟨wa, hwa⟩ : ∃ z, z = wr := ⟨_, rfl⟩
      subst hwa
      obtain ⟨i, F, hi, rfl, HI⟩ := hrel
      clear HT1
      by_cases hlt : i < n
      · skip
        have hii : (i : Int) < (n : Int) := by omega
        have hi0 : (0 : Int) ≤ (i : Int) := by omega
        have hil : i < ss.length := by have := HN.out; omega
        obtain ⟨b, off, e, hb, hc⟩ := H3.out (by omega)
        subst e
        obtain ⟨ea, ec, ha, hf⟩ := hc i hil
        obtain ⟨c0, c1, c2, c3, c4⟩ := ha.below hb HI.out.1.be
        have hbl : b < wa.heap.size := Nat.lt_of_lt_of_le hb HI.out.1.be.size
        have hl9 : (playT (ss.take i)).rs.length ≤ 900 := by
          have h1 := play_len (ss.take i)
          have h2 := HNN.out
          rw [List.length_take] at h1
          omega
        have HD : Hid (Calls Tryz.prog 11 #[.pointer (some ⟨p, 0, none⟩), .pointer (some ⟨wa.heap.size, 0, none⟩), .agg #[.int .i64 ss[i].kind, .string ss[i].name, .int .i64 ss[i].ino, .int .i64 ss[i].ep, .slice ea ss[i].es.length ec]] (wa.alloc (.cells #[.slice none 0 0, .int .i64 0] 30)) fun e w' => ∃ b, e = .returned (.bool b) ∧ ∃ F', Hid (OneT T w w' p F' (playT (ss.take (i + 1))) ∧ TurnF F F' wa w')) := by
          rw [play_next ss i hil]
          exact K.step1 HI.out.1 (play_inv _) hl9 ss[i] ea ec hf (HS2.out _ (List.getElem_mem _))
        obtain ⟨s, hs⟩ : ∃ s, s = ss[i] := ⟨_, rfl⟩
        rw [← hs] at c0 c1 c2 c3 c4 HD
        clear hs hc ha hf hl9
        go_wp2_with (go_at_call 11; refine HD.out.mono ?_; rintro e w3 ⟨bb, rfl, F3, HI3⟩)
        go_roundw
        case rel => exact ⟨i + 1, _, by omega, by go_num, HI3.out.1, trivial⟩
        case measure => simp [intOf]; omega
      · have hin : ¬ (i : Int) < (n : Int) := by omega
        obtain ⟨t, ht⟩ : ∃ z, z = playT (ss.take i) := ⟨_, rfl⟩
        have HG : Hid (Inv t ∧ t.rs.length ≤ 900) := by
          have h1 := play_len (ss.take i)
          have h2 := HNN.out
          rw [List.length_take] at h1
          rw [ht]
          exact ⟨play_inv _, by omega⟩
        have HNS : Hid (∀ r ∈ t.rs, r.name.size ≤ maxLen) := fun r hr => by
          rw [ht] at hr
          obtain ⟨s, hs, e⟩ := List.mem_map.1 (play_names (ss.take i) r.name (List.mem_map.2 ⟨r, hr, rfl⟩))
          rw [← e]
          exact HSZ.out s (List.mem_of_mem_take hs)
        rw [← ht] at HI
        clear ht H3
        have HAL : Hid (∀ X, OneT T w X p F t → Calls Tryz.prog 18 #[.pointer (some ⟨p, 0, none⟩)] X fun x w' => ∃ r, x = .returned r ∧ Hid (SeesE rwE w' r (allW t.rs) ∧ OneT T w w' p F t)) := fun X hX => (K.all hX.tp HG.out.1 HG.out.2).mono fun x w' ⟨r, a, b, c⟩ => ⟨r, a, b, hX.below K c⟩
        go_upto_region 11 with (go_at_call 18; refine (HAL.out _ HI.out.1).mono ?_; rintro e w4 ⟨r4, rfl, H4⟩)
        obtain ⟨xo, xc, hx4⟩ := H4.out.1.form
        subst hx4
        obtain ⟨m, hm⟩ : ∃ m, m = (allW t.rs).length := ⟨_, rfl⟩
        rw [← hm] at H4 ⊢
        have HM : Hid (m = (allW t.rs).length ∧ m ≤ 900) := ⟨hm, by rw [hm, allW_len]; exact HG.out.2⟩
        have hmm : (m : Int) ≤ 900 := by have := HM.out.2; omega
        clear hm HAL HI
        go_wp2_with fail
        go_loopw [6] (fun s wx => ∃ (j : Nat), j ≤ m + 1 ∧ s = .int .i64 (j : Int) ∧ 1 ≤ j ∧ Hid (Below w4.heap.size w4 wx)) (fun s _ => m + 1 - (intOf s).toNat)
        case atStart => exact ⟨1, by omega, rfl, by omega, Below.refl _ _⟩
        case round =>
          obtain ⟨wb, hwb⟩ : ∃ z, z = wr := ⟨_, rfl⟩
          subst hwb
          obtain ⟨j, hj, rfl, hj1, HJ⟩ := hrel
          by_cases hlt2 : j < m
          · obtain ⟨k, rfl⟩ : ∃ k, j = k + 1 := ⟨j - 1, by omega⟩
            have ec : ((k + 1 : Nat) : Int) = (k : Int) + 1 := by omega
            rw [ec]
            have q1 : (k : Int) + 1 < (m : Int) := by omega
            have q2 : (0 : Int) ≤ (k : Int) := by omega
            have q3 : (k : Int) < (m : Int) := by omega
            have q4 : (k : Int) + 1 - 1 = (k : Int) := by omega
            have hk1 : k + 1 < (allW t.rs).length := by have := HM.out.1; omega
            obtain ⟨b, o, e1, hnn9, hb, hc⟩ := rw_cells (H4.out.1.below HJ.out) (by omega)
            subst e1
            obtain ⟨x0, x1, x2, x3⟩ := hc (k + 1) hk1
            obtain ⟨y0, y1, y2, y3⟩ := hc k (by omega)
            have hp := all_pair HG.out.1 k hk1
            obtain ⟨x, hx⟩ : ∃ x, x = (allW t.rs)[k + 1] := ⟨_, rfl⟩
            obtain ⟨y, hy⟩ : ∃ y, y = (allW t.rs)[k]'(by omega) := ⟨_, rfl⟩
            rw [← hx] at x0 x1 x2 x3 hp
            rw [← hy] at y0 y1 y2 y3 hp
            have hA : Op.bytesLess x.name.toList y.name.toList = false := less_not hp.1
            have HP2 := hp.2
            clear hc hx hy hp hk1 ec hnn9
            by_cases hnn : x.name = y.name
            · have hE : (x.name.toList == y.name.toList) = true := by rw [hnn]; simp
              obtain ⟨e1, e2⟩ := HP2 hnn
              have hd0 : (y.died == 0) = false := by rw [beq_eq_false_iff_ne]; exact e1
              have hd1 : decide (x.born < y.died) = false := decide_eq_false (by omega)
              clear HP2 hnn e1 e2
              go_wp2
              go_quiet (fail)
              go_wp2
              go_roundw
              case rel => exact ⟨k + 1 + 1, by omega, by go_num, by omega, by first | exact HJ.out | exact drewNB HJ.out _⟩
              case measure => simp [intOf]; omega
            · have hE : (x.name.toList == y.name.toList) = false := by rw [bytes_eq]; exact decide_eq_false hnn
              clear HP2
              go_wp2
              go_quiet (fail)
              go_wp2
              go_roundw
              case rel => exact ⟨k + 1 + 1, by omega, by go_num, by omega, by first | exact HJ.out | exact drewNB HJ.out _⟩
              case measure => simp [intOf]; omega
          · have hjm : ¬ (j : Int) < (m : Int) := by omega
            go_wp2_with fail
            go_loopw [7] (fun s wx => ∃ (i : Nat), i ≤ m ∧ s = .int .i64 (i : Int) ∧ Hid (Below w4.heap.size w4 wx)) (fun s _ => m - (intOf s).toNat)
            case atStart => exact ⟨0, Nat.zero_le _, rfl, HJ.out⟩
            case round =>
              obtain ⟨wc, hwc⟩ : ∃ z, z = wr := ⟨_, rfl⟩
              subst hwc
              obtain ⟨k, hk, rfl, HK⟩ := hrel
              by_cases hlt3 : k < m
              · have q1 : (k : Int) < (m : Int) := by omega
                have q2 : (0 : Int) ≤ (k : Int) := by omega
                have hk1 : k < (allW t.rs).length := by have := HM.out.1; omega
                obtain ⟨b, o, e1, hnn9, hb, hc⟩ := rw_cells (H4.out.1.below HK.out) (by omega)
                subst e1
                obtain ⟨x0, x1, x2, x3⟩ := hc k hk1
                have HXF : Hid ((allW t.rs)[k].died ≠ (allW t.rs)[k].born → foundI t.rs (allW t.rs)[k].name (allW t.rs)[k].born = (allW t.rs)[k].ino ∧ foundB t.rs (allW t.rs)[k].name (allW t.rs)[k].born = true) := all_found HG.out.1 (List.getElem_mem hk1)
                have hsz := HNS.out _ ((allW_mem t.rs _).1 (List.getElem_mem hk1))
                obtain ⟨x, hx⟩ : ∃ x, x = (allW t.rs)[k] := ⟨_, rfl⟩
                rw [← hx] at x0 x1 x2 x3 HXF hsz
                clear hc hx hk1 hnn9
                obtain ⟨nx, ix, bx, dx⟩ := x
                simp only at x0 x1 x2 x3 HXF
                obtain ⟨fi, hfi⟩ : ∃ z, z = foundI t.rs nx bx := ⟨_, rfl⟩
                obtain ⟨fb, hfb⟩ : ∃ z, z = foundB t.rs nx bx := ⟨_, rfl⟩
                rw [← hfi, ← hfb] at HXF
                have HFI : Hid (∀ X, Below wc.heap.size wc X → Calls Tryz.prog 12 #[.pointer (some ⟨p, 0, none⟩), .string nx, .int .i64 bx] X fun x w' => x = .returned (.tuple #[.int .i64 fi, .bool fb]) ∧ Below X.heap.size X w') := fun X hX => by
                  rw [hfi, hfb]
                  exact K.find nx bx ((H4.out.2.below K HK.out).below K hX).tp HG.out.1 HG.out.2 hsz
                have HKB : Hid (∀ X, Below wc.heap.size wc X → X.cell? ⟨b, o + k * 4, none⟩ = some (.string nx) ∧ X.cell? ⟨b, o + k * 4 + 1, none⟩ = some (.int .i64 ix) ∧ X.cell? ⟨b, o + k * 4 + 2, none⟩ = some (.int .i64 bx) ∧ X.cell? ⟨b, o + k * 4 + 3, none⟩ = some (.int .i64 dx) ∧ b < X.heap.size) := fun X hX => ⟨(hX.cell (by exact hb)).trans x0, (hX.cell (by exact hb)).trans x1, (hX.cell (by exact hb)).trans x2, (hX.cell (by exact hb)).trans x3, Nat.lt_of_lt_of_le hb hX.size⟩
                clear x0 x1 x2 x3 hb hfi hfb hsz
                go_upto_region 19 with fail
                obtain ⟨v0, v1, v2, v3, vl⟩ := HKB.out _ (bel_drewL wc)
                go_region_held3 (fun X => X.cell? ⟨b, o + k * 4, none⟩ = some (.string nx) ∧ X.cell? ⟨b, o + k * 4 + 2, none⟩ = some (.int .i64 bx)) (first | exact ⟨v0, v2⟩ | exact ⟨z0, z2⟩ | fail) (first
                  | (go_at_call 12; refine (HFI.out _ (bel_drewL wc)).mono ?_; rintro e y1 ⟨rfl, b1⟩; have k1 : Below wc.heap.size wc y1 := bel_tr (bel_drewL wc) b1; obtain ⟨z0, z1, z2, z3, zl⟩ := HKB.out _ k1)
                  | fail)
                clear v0 v1 v2 v3 vl HFI b1
                have HK1 : Hid (Below w4.heap.size w4 y1) := bel_tr HK.out k1
                clear k1
                by_cases hdb : dx = bx
                · have hd : (dx == bx) = true := by rw [hdb]; exact beq_self_eq_true _
                  clear HXF
                  go_wp2
                  go_quiet (fail)
                  go_wp2
                  go_roundw
                  case rel => exact ⟨k + 1, by omega, by go_num, by first | exact HK1.out | exact drewNB HK1.out _⟩
                  case measure => simp [intOf]; omega
                · have hd : (dx == bx) = false := by rw [beq_eq_false_iff_ne]; exact hdb
                  obtain ⟨rfl, rfl⟩ := HXF.out hdb
                  clear HXF
                  go_wp2
                  go_quiet (fail)
                  go_wp2
                  go_roundw
                  case rel => exact ⟨k + 1, by omega, by go_num, by first | exact HK1.out | exact drewNB HK1.out _⟩
                  case measure => simp [intOf]; omega
              · have hkm : ¬ (k : Int) < (m : Int) := by omega
                have HEND : Hid (Below w.heap.size w wc) := bel_tr H4.out.2.be HK.out
                go_wp2_with (go_at_call 9; refine (HAW.out _).mono ?_; rintro e w9 ⟨rfl, hb9⟩)
                go_ret
                exact ⟨rfl, bel_tr HEND.out hb9⟩
end Go.Proofs.YthjcmagionaepaaGreat
