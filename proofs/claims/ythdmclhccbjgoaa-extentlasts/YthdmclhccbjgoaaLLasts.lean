/- dolmenlaw9.ExtentLasts. -/
import Derived.Deep.RegionHeld3
import Derived.Test.YthdmclhccbjgoaaEPut
import Derived.Test.YthdmclhccbjgoaaECut
import Derived.Test.YthdmclhccbjgoaaEFindT
import Derived.Test.YthdmclhccbjgoaaEReads
import Derived.Test.YthdmclhccbjgoaaLAwake9
import Derived.Test.YthdmclhccbjgoaaLSteps
import Derived.Test.YthdmclhccbjgoaaLRound
import Derived.Test.YthdmclhccbjgoaaLArr
import Derived.BigRegion
import Derived.BigQuiet
import Derived.Deep.QuietTactic
namespace Go.Proofs.Ythdmclhccbjgoaa
open Go.RowKit Kit
set_option linter.unusedVariables false

theorem st_cells {w : World} {ao : Option Addr} {n cap : Nat} {ss : List St9} (h : SeesE stE w (.slice ao n cap) ss) (h0 : 0 < ss.length) : ∃ b off, ao = some ⟨b, off, none⟩ ∧ n = ss.length ∧ b < w.heap.size ∧ ∀ (i : Nat) (hi : i < ss.length),
    w.cell? ⟨b, off + i * 7, none⟩ = some (.int .i64 ss[i].kind) ∧ w.cell? ⟨b, off + i * 7 + 1, none⟩ = some (.int .i64 ss[i].pc.off) ∧ w.cell? ⟨b, off + i * 7 + 2, none⟩ = some (.int .i64 ss[i].pc.len) ∧ w.cell? ⟨b, off + i * 7 + 3, none⟩ = some (.int .i64 ss[i].pc.page) ∧ w.cell? ⟨b, off + i * 7 + 4, none⟩ = some (.int .i64 ss[i].pc.pos) ∧ w.cell? ⟨b, off + i * 7 + 5, none⟩ = some (.int .i64 ss[i].a) ∧ w.cell? ⟨b, off + i * 7 + 6, none⟩ = some (.int .i64 ss[i].b) := by
  obtain ⟨b, off, e, e2, hl, hh⟩ := h.cells h0
  exact ⟨b, off, e, e2, hl, fun i hi => ⟨hh i hi 0 _ rfl, hh i hi 1 _ rfl, hh i hi 2 _ rfl, hh i hi 3 _ rfl, hh i hi 4 _ rfl, hh i hi 5 _ rfl, hh i hi 6 _ rfl⟩⟩
set_option maxRecDepth 4000 in
set_option maxHeartbeats 16000000 in
theorem lasts_any (v0 : Value) (ss : List St9) (w : World) (hs : SeesE stE w v0 ss) :
    Calls Try.prog 4 #[v0] w fun e w' => e = .returned (.bool true) ∧ Below w.heap.size w w' := by
  obtain ⟨ao, cap, rfl⟩ := hs.form
  obtain ⟨n, hn⟩ : ∃ n, n = ss.length := ⟨_, rfl⟩
  rw [← hn] at hs ⊢
  have HS : Hid (SeesE stE w (.slice ao n cap) ss) := hs
  have HN : Hid (n = ss.length) := hn
  clear hs hn
  by_cases hbig : 40 < n
  · have hbi : (40 : Int) < (n : Int) := by omega
    go_enter Try.func4, Try.ntmps4
    go_wp2_with (go_at_call 8; refine (awake9_any _).mono ?_; rintro e w1 ⟨rfl, hb1⟩)
    go_ret
    exact ⟨rfl, hb1⟩
  have hnN : (n : Int) ≤ 40 := by omega
  go_enter Try.func4, Try.ntmps4
  go_wp2_with (go_at_call 9; refine (enew_any _).mono ?_; rintro e w1 ⟨rfl, rfl⟩)
  go_loopw [6] (fun s wr => ∃ (i : Nat) (v : Value) (ps : List Pc) (f g : Int → Int), i ≤ n ∧ s = .int .i64 (i : Int) ∧ Hid (ps.length ≤ 2 * i) ∧ Hid (Mid w wr v ps f g ∧ Tab ps f g)) (fun s _ => n - (intOf s).toNat)
  case atStart => exact ⟨0, _, _, _, _, Nat.zero_le _, rfl, Nat.le_refl _, mid_new w, tab_new⟩
  case round =>
    obtain ⟨i, v, ps, f, g, hi, rfl, HL, HI⟩ := hrel
    by_cases hlt : i < n
    · have hii : (i : Int) < (n : Int) := by omega
      have hi0 : (0 : Int) ≤ (i : Int) := by omega
      have hil : i < ss.length := by have := HN.out; omega
      obtain ⟨b, off, e, hnn, hb, hc⟩ := st_cells (HS.out.below HI.out.1.bel) (by omega)
      subst e
      obtain ⟨c0, c1, c2, c3, c4, c5, c6⟩ := hc i hil
      obtain ⟨s, hs⟩ : ∃ s, s = ss[i] := ⟨_, rfl⟩
      rw [← hs] at c0 c1 c2 c3 c4 c5 c6
      clear hs hc hnn
      obtain ⟨sk, ⟨po, pl, pg, pp⟩, sa, sb⟩ := s
      simp only at c0 c1 c2 c3 c4 c5 c6
      go_upto_region 11 with (go_at_call 23; refine (round_any _ 64 _ (by omega) (by omega)).mono ?_; rintro e w2 ⟨⟨r1, rfl, hr1⟩, hw2⟩; subst w2)
      go_upto_region 12 with (go_at_call 23; refine (round_any _ _ _ (by omega) (by omega)).mono ?_; rintro e w2 ⟨⟨r2, rfl, hr2⟩, hw2⟩; subst w2)
      go_upto_region 13 with (go_at_call 23; refine (round_any _ 5 _ (by omega) (by omega)).mono ?_; rintro e w2 ⟨⟨r3, rfl, hr3⟩, hw2⟩; subst w2)
      have hlen : ps.length ≤ 900 := by have := HL.out; omega
      by_cases hkd : sk.tmod 2 = 0
      · have hke : (sk.tmod 2 == 0) = true := by rw [hkd]; rfl
        have h20 : (2 : Int) ≠ 0 := by decide
        have h21 : (2 : Int) ≠ -1 := by decide
        go_upto_region 14 with fail
        clear hke hkd
        go_wp2_with (go_at_call 24; refine (ecut_good (w.heap.size + 1 + 1) (w.heap.size + 1 + 1 + 1) _ _ v ps _ HI.out.1.em HI.out.1.good hlen (by omega) (by omega) (by omega)).mono ?_; rintro e w2 ⟨rfl, v2, hm2, ht2⟩; have HM2 : Hid (Mid w w2 v2 (cutB ps (r1 : Int) ((r1 : Int) + (1 + (r2 : Int)))) f g) := HI.out.1.turn hm2 (good9_cut HI.out.1.good) ht2; have HT2 : Hid (Tab (cutB ps (r1 : Int) ((r1 : Int) + (1 + (r2 : Int)))) (overT f (r1 : Int) ((r1 : Int) + (1 + (r2 : Int))) (fun _ => 0)) (overT g (r1 : Int) ((r1 : Int) + (1 + (r2 : Int))) (fun j => 100 * (i : Int) + j - (r1 : Int)))) := tab_cut HI.out.2 HI.out.1.good.can _ _ _; have HL2 : Hid ((cutB ps (r1 : Int) ((r1 : Int) + (1 + (r2 : Int)))).length ≤ 2 * (i + 1)) := (by have := cut_len (a := (r1 : Int)) (b := (r1 : Int) + (1 + (r2 : Int))) HI.out.1.good.can.1; have h3 := HL.out; show _ ≤ _; omega); clear hm2 ht2 HI HL hlen)
        clear HS c0 c1 c2 c3 c4 c5 c6
        go_wp2_with fail
        go_loopw [10] (fun s10 wk => ∃ k : Nat, r1 ≤ k ∧ (k : Int) ≤ (r1 : Int) + (1 + (r2 : Int)) ∧ s10 = .int .i64 (k : Int) ∧ Hid (Mid w wk v2 (cutB ps (r1 : Int) ((r1 : Int) + (1 + (r2 : Int)))) (overT f (r1 : Int) (k : Int) (fun _ => 0)) (overT g (r1 : Int) (k : Int) (fun j => 100 * (i : Int) + j - (r1 : Int))))) (fun s10 _ => 64 - (intOf s10).toNat)
        case atStart => exact ⟨r1, Nat.le_refl _, by omega, rfl, by rw [overT_nil, overT_nil]; exact HM2.out⟩
        case round =>
          obtain ⟨k, hk1, hk2, rfl, HK⟩ := hrel
          by_cases hkl : (k : Int) < (r1 : Int) + (1 + (r2 : Int))
          · have hk64 : (k : Int) < 64 := by omega
            have hk0 : (0 : Int) ≤ (k : Int) := by omega
            have x0 := arr_cell HK.out.af k (by omega)
            have x1 := arr_frozen HK.out.af k
            go_upto_region 23 with fail
            obtain ⟨W1, hW1⟩ : ∃ z, z = wr.setCell ⟨w.heap.size, k, none⟩ (.int .i64 (0)) := ⟨_, rfl⟩
            have HM3 : Hid (Mid w W1 v2 (cutB ps (r1 : Int) ((r1 : Int) + (1 + (r2 : Int)))) (overT f (r1 : Int) ((k : Int) + 1) (fun _ => 0)) (overT g (r1 : Int) (k : Int) (fun j => 100 * (i : Int) + j - (r1 : Int)))) := by
              have := HK.out.setf k (by omega) (0)
              rw [overT_step _ _ _ _ _ (by omega) rfl] at this
              rw [hW1]
              exact this
            rw [← hW1]
            clear hW1 x0 x1
            have x0 := arr_cell HM3.out.ag k (by omega)
            have x1 := arr_frozen HM3.out.ag k
            go_wp2_with fail
            obtain ⟨W2, hW2⟩ : ∃ z, z = W1.setCell ⟨w.heap.size + 1, k, none⟩ (.int .i64 (100 * (i : Int) + (k : Int) - (r1 : Int))) := ⟨_, rfl⟩
            have HM4 : Hid (Mid w W2 v2 (cutB ps (r1 : Int) ((r1 : Int) + (1 + (r2 : Int)))) (overT f (r1 : Int) ((k : Int) + 1) (fun _ => 0)) (overT g (r1 : Int) ((k : Int) + 1) (fun j => 100 * (i : Int) + j - (r1 : Int)))) := by
              have := HM3.out.setg k (by omega) (100 * (i : Int) + (k : Int) - (r1 : Int))
              rw [overT_step _ _ _ _ _ (by omega) rfl] at this
              rw [hW2]
              exact this
            rw [← hW2]
            clear hW2 x0 x1
            go_roundw
            case rel => exact ⟨k + 1, by omega, by omega, by go_num, HM4.out⟩
            case measure => simp [intOf]; omega
          · have hke : (k : Int) = (r1 : Int) + (1 + (r2 : Int)) := by omega
            have HN2 : Hid (Mid w wr v2 (cutB ps (r1 : Int) ((r1 : Int) + (1 + (r2 : Int)))) (overT f (r1 : Int) ((r1 : Int) + (1 + (r2 : Int))) (fun _ => 0)) (overT g (r1 : Int) ((r1 : Int) + (1 + (r2 : Int))) (fun j => 100 * (i : Int) + j - (r1 : Int))) ∧ Tab (cutB ps (r1 : Int) ((r1 : Int) + (1 + (r2 : Int)))) (overT f (r1 : Int) ((r1 : Int) + (1 + (r2 : Int))) (fun _ => 0)) (overT g (r1 : Int) ((r1 : Int) + (1 + (r2 : Int))) (fun j => 100 * (i : Int) + j - (r1 : Int)))) := by
              have h1 := HK.out
              rw [hke] at h1
              exact ⟨h1, HT2.out⟩
            clear HK
            go_wp2_with fail
            go_roundw
            case rel => exact ⟨i + 1, v2, _, _, _, by omega, by go_num, HL2.out, HN2.out⟩
            case measure => simp [intOf]; omega
      · have hke : (sk.tmod 2 == 0) = false := beq_eq_false_iff_ne.2 hkd
        have h20 : (2 : Int) ≠ 0 := by decide
        have h21 : (2 : Int) ≠ -1 := by decide
        have HPX : Hid (Put9 (⟨(r1 : Int), 1 + (r2 : Int), 1 + (r3 : Int), 100 * (i : Int)⟩ : Pc)) := by show _ ∧ _; simp only; omega
        go_upto_region 17 with fail
        clear hke hkd
        go_wp2_with (go_at_call 25; refine (eput_good (w.heap.size + 1 + 1) (w.heap.size + 1 + 1 + 1) _ _ _ _ v ps _ HI.out.1.em HI.out.1.good hlen HPX.out).mono ?_; rintro e w2 ⟨rfl, v2, hm2, ht2⟩; have HM2 : Hid (Mid w w2 v2 (putB ps (⟨(r1 : Int), 1 + (r2 : Int), 1 + (r3 : Int), 100 * (i : Int)⟩ : Pc)) f g) := HI.out.1.turn hm2 (good9_put HI.out.1.good (put9_fit HPX.out)) ht2; have HT2 : Hid (Tab (putB ps (⟨(r1 : Int), 1 + (r2 : Int), 1 + (r3 : Int), 100 * (i : Int)⟩ : Pc)) (overT f (r1 : Int) ((r1 : Int) + (1 + (r2 : Int))) (fun _ => 1 + (r3 : Int))) (overT g (r1 : Int) ((r1 : Int) + (1 + (r2 : Int))) (fun j => 100 * (i : Int) + j - (r1 : Int)))) := tab_put HI.out.2 HI.out.1.good.can.1 _ _ _ _ (by omega) (by omega) (by omega) (by omega); have HL2 : Hid ((putB ps (⟨(r1 : Int), 1 + (r2 : Int), 1 + (r3 : Int), 100 * (i : Int)⟩ : Pc)).length ≤ 2 * (i + 1)) := (by have := put_len (p := (⟨(r1 : Int), 1 + (r2 : Int), 1 + (r3 : Int), 100 * (i : Int)⟩ : Pc)) HI.out.1.good.can.1 (by show (1 : Int) ≤ 1 + (r2 : Int); omega); have h3 := HL.out; show _ ≤ _; omega); clear hm2 ht2 HI HL hlen HPX)
        clear HS c0 c1 c2 c3 c4 c5 c6
        go_wp2_with fail
        go_loopw [10] (fun s10 wk => ∃ k : Nat, r1 ≤ k ∧ (k : Int) ≤ (r1 : Int) + (1 + (r2 : Int)) ∧ s10 = .int .i64 (k : Int) ∧ Hid (Mid w wk v2 (putB ps (⟨(r1 : Int), 1 + (r2 : Int), 1 + (r3 : Int), 100 * (i : Int)⟩ : Pc)) (overT f (r1 : Int) (k : Int) (fun _ => 1 + (r3 : Int))) (overT g (r1 : Int) (k : Int) (fun j => 100 * (i : Int) + j - (r1 : Int))))) (fun s10 _ => 64 - (intOf s10).toNat)
        case atStart => exact ⟨r1, Nat.le_refl _, by omega, rfl, by rw [overT_nil, overT_nil]; exact HM2.out⟩
        case round =>
          obtain ⟨k, hk1, hk2, rfl, HK⟩ := hrel
          by_cases hkl : (k : Int) < (r1 : Int) + (1 + (r2 : Int))
          · have hk64 : (k : Int) < 64 := by omega
            have hk0 : (0 : Int) ≤ (k : Int) := by omega
            have x0 := arr_cell HK.out.af k (by omega)
            have x1 := arr_frozen HK.out.af k
            go_upto_region 23 with fail
            obtain ⟨W1, hW1⟩ : ∃ z, z = wr.setCell ⟨w.heap.size, k, none⟩ (.int .i64 (1 + (r3 : Int))) := ⟨_, rfl⟩
            have HM3 : Hid (Mid w W1 v2 (putB ps (⟨(r1 : Int), 1 + (r2 : Int), 1 + (r3 : Int), 100 * (i : Int)⟩ : Pc)) (overT f (r1 : Int) ((k : Int) + 1) (fun _ => 1 + (r3 : Int))) (overT g (r1 : Int) (k : Int) (fun j => 100 * (i : Int) + j - (r1 : Int)))) := by
              have := HK.out.setf k (by omega) (1 + (r3 : Int))
              rw [overT_step _ _ _ _ _ (by omega) rfl] at this
              rw [hW1]
              exact this
            rw [← hW1]
            clear hW1 x0 x1
            have x0 := arr_cell HM3.out.ag k (by omega)
            have x1 := arr_frozen HM3.out.ag k
            go_wp2_with fail
            obtain ⟨W2, hW2⟩ : ∃ z, z = W1.setCell ⟨w.heap.size + 1, k, none⟩ (.int .i64 (100 * (i : Int) + (k : Int) - (r1 : Int))) := ⟨_, rfl⟩
            have HM4 : Hid (Mid w W2 v2 (putB ps (⟨(r1 : Int), 1 + (r2 : Int), 1 + (r3 : Int), 100 * (i : Int)⟩ : Pc)) (overT f (r1 : Int) ((k : Int) + 1) (fun _ => 1 + (r3 : Int))) (overT g (r1 : Int) ((k : Int) + 1) (fun j => 100 * (i : Int) + j - (r1 : Int)))) := by
              have := HM3.out.setg k (by omega) (100 * (i : Int) + (k : Int) - (r1 : Int))
              rw [overT_step _ _ _ _ _ (by omega) rfl] at this
              rw [hW2]
              exact this
            rw [← hW2]
            clear hW2 x0 x1
            go_roundw
            case rel => exact ⟨k + 1, by omega, by omega, by go_num, HM4.out⟩
            case measure => simp [intOf]; omega
          · have hke : (k : Int) = (r1 : Int) + (1 + (r2 : Int)) := by omega
            have HN2 : Hid (Mid w wr v2 (putB ps (⟨(r1 : Int), 1 + (r2 : Int), 1 + (r3 : Int), 100 * (i : Int)⟩ : Pc)) (overT f (r1 : Int) ((r1 : Int) + (1 + (r2 : Int))) (fun _ => 1 + (r3 : Int))) (overT g (r1 : Int) ((r1 : Int) + (1 + (r2 : Int))) (fun j => 100 * (i : Int) + j - (r1 : Int))) ∧ Tab (putB ps (⟨(r1 : Int), 1 + (r2 : Int), 1 + (r3 : Int), 100 * (i : Int)⟩ : Pc)) (overT f (r1 : Int) ((r1 : Int) + (1 + (r2 : Int))) (fun _ => 1 + (r3 : Int))) (overT g (r1 : Int) ((r1 : Int) + (1 + (r2 : Int))) (fun j => 100 * (i : Int) + j - (r1 : Int)))) := by
              have h1 := HK.out
              rw [hke] at h1
              exact ⟨h1, HT2.out⟩
            clear HK
            go_wp2_with fail
            go_roundw
            case rel => exact ⟨i + 1, v2, _, _, _, by omega, by go_num, HL2.out, HN2.out⟩
            case measure => simp [intOf]; omega
    · have hin : ¬ (i : Int) < (n : Int) := by omega
      have HG : Hid (ps.length ≤ 900) := by have := HL.out; show _ ≤ _; omega
      clear HS HN HL hi hlt
      obtain ⟨wo, rfl⟩ : ∃ z, z = wr := ⟨_, rfl⟩
      have HFD : Hid (∀ X (k : Int), Below wo.heap.size wo X → Calls Try.prog 11 #[.pointer (some ⟨w.heap.size + 1 + 1, 0, none⟩), .int .i64 k] X fun e w' => ∃ v, e = .returned v ∧ FindIs ps k v ∧ Below X.heap.size X w') := fun X k hb => efind_any (w.heap.size + 1 + 1) _ k v ps X (HI.out.1.em.below hb) HI.out.1.good.can.1 HI.out.1.good.fits (by have := HG.out; omega)
      have HEN : Hid (∀ X (e : Int), EndIs f 64 e → Below wo.heap.size wo X → Calls Try.prog 21 #[.pointer (some ⟨w.heap.size + 1 + 1, 0, none⟩)] X fun e' w' => e' = .returned (.int .i64 e) ∧ Below X.heap.size X w') := fun X e he hb => by
        have := eend_any (w.heap.size + 1 + 1) _ v ps X (HI.out.1.em.below hb) (by have := HG.out; omega) HI.out.1.good.fits
        rw [end_is HI.out.2 HI.out.1.good.can.1 HI.out.1.good.fits he] at this
        exact this
      go_wp2_with fail
      go_loopw [11, 12] (fun s11 s12 wx => ∃ (k : Nat) (e : Int), k ≤ 64 ∧ s11 = .int .i64 e ∧ s12 = .int .i64 (k : Int) ∧ Hid (EndIs f (k : Int) e) ∧ Hid (Below wo.heap.size wo wx)) (fun _ s12 _ => 64 - (intOf s12).toNat)
      case atStart => exact ⟨0, 0, by omega, rfl, rfl, endIs_new f, Below.refl _ _⟩
      case round =>
        obtain ⟨k, e, hk, rfl, rfl, HE, HK⟩ := hrel
        by_cases hk64 : k < 64
        · have hki : (k : Int) < 64 := by omega
          have hk0 : (0 : Int) ≤ (k : Int) := by omega
          have HTF : Hid ((∀ p, findB ps (k : Int) = some p → p.page = f (k : Int) ∧ f (k : Int) ≠ 0 ∧ g (k : Int) = p.pos + (k : Int) - p.off) ∧ (findB ps (k : Int) = none → f (k : Int) = 0)) := tab_find HI.out.2 hk0 hki
          go_wp2_with fail
          go_at_call 11
          refine (HFD.out _ (k : Int) HK.out).mono ?_
          rintro e6 w6 ⟨v6, rfl, hfi, hb6⟩
          rcases hfi with ⟨p6, hf6, rfl⟩ | ⟨hf6, rfl⟩
          · obtain ⟨t1, t2, t3⟩ := HTF.out.1 p6 hf6
            have hfp := HI.out.1.good.fits p6 (List.mem_of_find?_eq_some hf6)
            obtain ⟨po, pl, pg, pp⟩ := p6
            obtain ⟨f0, f1, f2, f3, f4, f5, f6⟩ := hfp
            simp only at t1 t3 f0 f1 f2 f3 f4 f5 f6
            obtain ⟨W1, hW1⟩ : ∃ z, z = w6.alloc (.cells #[.int .i64 po, .int .i64 pl, .int .i64 pg, .int .i64 pp] 35) := ⟨_, rfl⟩
            have hh : W1.heap[w6.heap.size]? = some (.cells #[.int .i64 po, .int .i64 pl, .int .i64 pg, .int .i64 pp] 35) := by rw [hW1]; exact (MapKept.heap_alloc w6 _).1
            have hbl : Below wr.heap.size wr W1 := bel_tr hb6 (by rw [hW1]; exact bel_newG _ _)
            have HW1 : Hid (Below wo.heap.size wo W1) := bel_tr HK.out hbl
            have z0 : W1.cell? ⟨w6.heap.size, 0, none⟩ = some (.int .i64 po) := blk_cell hh rfl
            have z2 : W1.cell? ⟨w6.heap.size, 2, none⟩ = some (.int .i64 pg) := blk_cell hh rfl
            have z3 : W1.cell? ⟨w6.heap.size, 3, none⟩ = some (.int .i64 pp) := blk_cell hh rfl
            have y0 : W1.cell? ⟨w.heap.size, k, none⟩ = some (.int .i64 pg) := by rw [t1]; exact arr_cell (HI.out.1.below HW1.out).af k hk64
            have y1 : W1.cell? ⟨w.heap.size + 1, k, none⟩ = some (.int .i64 (pp + (k : Int) - po)) := by rw [← t3]; exact arr_cell (HI.out.1.below HW1.out).ag k hk64
            have hz : (pg != 0) = true := by rw [bne_iff_ne]; rw [t1]; exact t2
            have hz2 : (!(pg != 0)) = false := by rw [hz]; rfl
            have HE2 : Hid (EndIs f ((k : Int) + 1) ((k : Int) + 1)) := endIs_yes HE.out t2
            clear hh hbl hb6 t1 t2 t3 hf6 HTF
            simp only
            go_wp2_with fail
            rw [← hW1]
            clear hW1
            go_quiet (fail)
            have HWZ : Hid (Below wo.heap.size wo (W1.drewN nq)) := bel_tr HW1.out (bel_drewN9 _ _)
            go_wp2_with fail
            go_roundw
            case rel => exact ⟨k + 1, (k : Int) + 1, by omega, by go_num, by go_num, HE2.out, HWZ.out⟩
            case measure => simp [intOf]; omega
          · have t1 := HTF.out.2 hf6
            obtain ⟨W1, hW1⟩ : ∃ z, z = w6.alloc (.cells #[.int .i64 0, .int .i64 0, .int .i64 0, .int .i64 0] 35) := ⟨_, rfl⟩
            have hbl : Below wr.heap.size wr W1 := bel_tr hb6 (by rw [hW1]; exact bel_newG _ _)
            have HW1 : Hid (Below wo.heap.size wo W1) := bel_tr HK.out hbl
            have y0 : W1.cell? ⟨w.heap.size, k, none⟩ = some (.int .i64 0) := by rw [← t1]; exact arr_cell (HI.out.1.below HW1.out).af k hk64
            have HE2 : Hid (EndIs f ((k : Int) + 1) e) := endIs_no HE.out t1
            clear hbl hb6 t1 hf6 HTF
            simp only
            go_wp2_with fail
            rw [← hW1]
            clear hW1
            go_quiet (fail)
            have HWZ : Hid (Below wo.heap.size wo (W1.drewN nq)) := bel_tr HW1.out (bel_drewN9 _ _)
            go_wp2_with fail
            go_roundw
            case rel => exact ⟨k + 1, e, by omega, by go_num, by go_num, HE2.out, HWZ.out⟩
            case measure => simp [intOf]; omega
        · have hki : ¬ (k : Int) < 64 := by omega
          have hke : (k : Int) = 64 := by omega
          have HE2 : Hid (EndIs f 64 e) := by rw [← hke]; exact HE.out
          clear hke HE
          go_wp2_with fail
          go_at_call 21
          refine (HEN.out _ e HE2.out HK.out).mono ?_
          rintro e6 w6 ⟨rfl, hb6⟩
          have HW6 : Hid (Below wo.heap.size wo w6) := bel_tr HK.out hb6
          clear hb6
          go_wp2_with fail
          go_at_call 8
          refine (awake9_any _).mono ?_
          rintro e7 w7 ⟨rfl, hb7⟩
          have HZ : Hid (Below w.heap.size w w7) := bel_tr HI.out.1.bel (bel_tr HW6.out hb7)
          clear hb7
          go_wp2_with fail
          go_ret
          exact ⟨rfl, HZ.out⟩
end Go.Proofs.Ythdmclhccbjgoaa
