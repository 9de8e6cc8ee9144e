/- names.further, names.Match: what one call answers. -/
import Derived.Test.YtlnhkdiecfccaaaDoorRMatch
namespace Go.Proofs.YtlnhkdiecfccaaaDoor
open Go.RowKit Kit
set_option linter.unusedVariables false

theorem MIn.start2 {p n : ByteArray} {w : World} {bi i : Nat} (h : MRow w bi n.size (hits p n i)) : MIn p n w (w.alloc (.cells (madeCells #[.bool false] (n.size + 1)) 4)) bi w.heap.size i 0 := by
  have hl := World.rowIs.lt h
  exact ⟨by omega, Nat.le_refl _, World.rowIs.alloc h _, World.rowIs.congr (World.rowIs_made w (.bool false) (n.size + 1) 4) fun j hj => by simp, (Below.refl _ _).alloc (Nat.le_refl _) _⟩

set_option maxRecDepth 4000 in
set_option maxHeartbeats 8000000 in
theorem further_any (p n : ByteArray) (i : Nat) (w : World) (bi : Nat) (hn : n.size ≤ 40) (hM : MRow w bi n.size (hits p n i)) :
    Calls Tryd.prog 35 #[.slice (some ⟨bi, 0, none⟩) (n.size + 1) (n.size + 1), .int .u8 (cAt p i : Int), .string n] w fun e w' => e = .returned (.slice (some ⟨w.heap.size, 0, none⟩) (n.size + 1) (n.size + 1)) ∧ MRow w' w.heap.size n.size (hits p n (i + 1)) ∧ Below w.heap.size w w' := by
  have i2 : (n.size : Int) ≤ 40 := by omega
  have hmk := run_make_row' (P := Tryd.prog) 53 4 (.bool false) 1 Tryd.underlying53 infoB rfl .i64 .i64 (n.size + 1) (by omega) (by omega)
  have ec : ((n.size + 1 : Nat) : Int) = (n.size : Int) + 1 := by omega
  rw [ec] at hmk
  have HS : Hid (MIn p n w (w.alloc (.cells (madeCells #[.bool false] (n.size + 1)) 4)) bi w.heap.size i 0) := MIn.start2 hM
  clear ec hM
  go_enter Tryd.func35, Tryd.ntmps35
  go_wp2
  clear hmk
  go_loopw [14, 8] (fun v _ wx => ∃ k : Nat, k ≤ n.size + 1 ∧ v = .int .i64 (k : Int) ∧ Hid (MIn p n w wx bi w.heap.size i k)) (fun v _ _ => n.size + 1 - (intOf v).toNat)
  case atStart => exact ⟨0, Nat.zero_le _, rfl, HS.out⟩
  case round =>
    obtain ⟨k, hk, rfl, HI⟩ := hrel
    clear HS
    by_cases hkn : k ≤ n.size
    · have j0 : (k : Int) ≤ (n.size : Int) := by omega
      have j1 : (k : Int) < (n.size : Int) + 1 := by omega
      have j2 : (0 : Int) ≤ (k : Int) := by omega
      have cn := World.rowIs.cell HI.out.2.2.2.1 (i := k) (by omega)
      simp only [Nat.lt_irrefl, decide_false, Bool.false_and] at cn
      have zn := World.rowIs.frozen HI.out.2.2.2.1 k
      have ci := World.rowIs.cell HI.out.2.2.1 (i := k) (by omega)
      by_cases star : cAt p i = 42
      · have e42 : ((cAt p i : Int) == 42) = true := by simp [star]
        cases hb : hits p n i k with
        | true =>
          rw [hb] at ci
          have HT : Hid (hits p n (i + 1) k = true) := by
            show _ = _
            cases k with
            | zero => rw [hits_s0 p n i star, hb]
            | succ m => rw [hits_s1 p n i m star, hb]; rfl
          clear hb star
          go_wp2
          go_roundw
          case rel => exact ⟨k + 1, by omega, by simp, HI.out.put HT.out⟩
          case measure => simp [intOf]; omega
        | false =>
          rw [hb] at ci
          cases k with
          | zero =>
            have HT : Hid (hits p n (i + 1) 0 = false) := by show _ = _; rw [hits_s0 p n i star, hb]
            clear hb star
            go_wp2
            go_roundw
            case rel => exact ⟨0 + 1, by omega, by simp, HI.out.put HT.out⟩
            case measure => simp [intOf]
          | succ m =>
            have cm := World.rowIs.cell HI.out.2.2.2.1 (i := m) (by omega)
            simp only [Nat.lt_succ_self, decide_true, Bool.true_and] at cm
            have HT : Hid (hits p n (i + 1) (m + 1) = hits p n (i + 1) m) := by show _ = _; rw [hits_s1 p n i m star, hb]; rfl
            obtain ⟨b, hb2⟩ : ∃ b, hits p n (i + 1) m = b := ⟨_, rfl⟩
            rw [hb2] at cm HT
            have ec : ((m + 1 : Nat) : Int) = (m : Int) + 1 := by omega
            have f0 : (m : Int) + 1 - 1 = (m : Int) := by omega
            have fw : IntKind.i64.wrap (m : Int) = (m : Int) := by rw [IntKind.wrap_i64]; omega
            rw [ec] at j0 j1 j2
            have f1 : (m : Int) < (n.size : Int) + 1 := by omega
            have f2 : (0 : Int) ≤ (m : Int) := by omega
            have f3 : (0 : Int) < (m : Int) + 1 := by omega
            rw [ec]
            clear hb star hb2 ec
            go_wp2
            go_roundw
            case rel => exact ⟨m + 1 + 1, by omega, by simp, HI.out.put HT.out⟩
            case measure => simp [intOf]; omega
      · have e42 : ((cAt p i : Int) == 42) = false := by simp; omega
        cases k with
        | zero =>
          have HT : Hid (hits p n (i + 1) 0 = false) := hits_o0 p n i star
          clear star
          go_wp2
          go_roundw
          case rel => exact ⟨0 + 1, by omega, by simp, HI.out.stay HT.out⟩
          case measure => simp [intOf]
        | succ m =>
          have cm := World.rowIs.cell HI.out.2.2.1 (i := m) (by omega)
          have hm : m < n.size := by omega
          have ec : ((m + 1 : Nat) : Int) = (m : Int) + 1 := by omega
          have f0 : (m : Int) + 1 - 1 = (m : Int) := by omega
          have fw : IntKind.i64.wrap (m : Int) = (m : Int) := by rw [IntKind.wrap_i64]; omega
          rw [ec] at j0 j1 j2
          have f1 : (m : Int) < (n.size : Int) + 1 := by omega
          have f2 : (0 : Int) ≤ (m : Int) := by omega
          have f3 : (0 : Int) < (m : Int) + 1 := by omega
          have f4 : (m : Int) < (n.size : Int) := by omega
          rw [ec]
          cases hb : hits p n i m with
          | false =>
            rw [hb] at cm
            have HT : Hid (hits p n (i + 1) (m + 1) = false) := by
              show _ = _
              rw [hits, if_neg star, hb, Bool.and_false]
            clear hb star ec
            go_wp2
            go_roundw
            case rel => exact ⟨m + 1 + 1, by omega, by simp, HI.out.put HT.out⟩
            case measure => simp [intOf]; omega
          | true =>
            rw [hb] at cm
            by_cases h63 : cAt p i = 63
            · have e63 : ((cAt p i : Int) == 63) = true := by simp [h63]
              have HT : Hid (hits p n (i + 1) (m + 1) = true) := (hits_o1 p n i m star (.inl h63)).trans hb
              clear star h63 ec hb
              go_wp2
              go_roundw
              case rel => exact ⟨m + 1 + 1, by omega, by simp, HI.out.put HT.out⟩
              case measure => simp [intOf]; omega
            · have e63 : ((cAt p i : Int) == 63) = false := by simp; omega
              by_cases hs : cAt p i = cAt n m
              · have es : ((cAt p i : Int) == ((n[m]'hm).toNat : Int)) = true := by rw [cAt_eq]; simp [hs]
                have HT : Hid (hits p n (i + 1) (m + 1) = true) := (hits_o1 p n i m star (.inr hs)).trans hb
                clear star h63 ec hs hb
                go_wp2
                go_roundw
                case rel => exact ⟨m + 1 + 1, by omega, by simp, HI.out.put HT.out⟩
                case measure => simp [intOf]; omega
              · have es : ((cAt p i : Int) == ((n[m]'hm).toNat : Int)) = false := by rw [cAt_eq]; simp; omega
                have HT : Hid (hits p n (i + 1) (m + 1) = false) := hits_o2 p n i m star h63 hs
                clear star h63 ec hs hb
                go_wp2
                go_roundw
                case rel => exact ⟨m + 1 + 1, by omega, by simp, HI.out.put HT.out⟩
                case measure => simp [intOf]; omega
    · have hkl : k = n.size + 1 := by omega
      subst hkl
      have HE : Hid (MOut p n w wr w.heap.size (i + 1)) := HI.out.out
      have ec : ((n.size + 1 : Nat) : Int) = (n.size : Int) + 1 := by omega
      rw [ec]
      have j0 : ¬ ((n.size : Int) + 1 < (n.size : Int) + 1) := by omega
      clear ec HI
      go_wp2
      go_ret
      exact ⟨rfl, HE.out.2⟩

set_option maxRecDepth 4000 in
set_option maxHeartbeats 8000000 in
theorem nmatch_any (p n : ByteArray) (w : World) (hp : p.size ≤ maxLen) (hn : n.size ≤ maxLen) :
    Calls Tryd.prog 22 #[.string p, .string n] w fun e w' => e = .returned (.bool (matchB p n)) ∧ Below w.heap.size w w' := by
  unfold maxLen at hp hn
  by_cases hp40 : p.size ≤ 40
  · by_cases hn40 : n.size ≤ 40
    · have i1 : (p.size : Int) ≤ 40 := by omega
      have i2 : (n.size : Int) ≤ 40 := by omega
      have hmk := run_make_row' (P := Tryd.prog) 53 4 (.bool false) 1 Tryd.underlying53 infoB rfl .i64 .i64 (n.size + 1) (by omega) (by omega)
      have ec : ((n.size + 1 : Nat) : Int) = (n.size : Int) + 1 := by omega
      rw [ec] at hmk
      have c0 := World.rowIs.cell (World.rowIs_made w (.bool false) (n.size + 1) 4) (i := 0) (by omega)
      have z0 := World.rowIs.frozen (World.rowIs_made w (.bool false) (n.size + 1) 4) 0
      have i5 : (0 : Int) < (n.size : Int) + 1 := by omega
      clear ec hp hn
      go_enter Tryd.func22, Tryd.ntmps22
      go_wp2
      clear hmk
      go_loopw [5, 23, 6] (fun u v _ wr => ∃ i bi : Nat, i ≤ p.size ∧ u = .slice (some ⟨bi, 0, none⟩) (n.size + 1) (n.size + 1) ∧ v = .int .i64 (i : Int) ∧ Hid (MOut p n w wr bi i)) (fun _ v _ _ => p.size - (intOf v).toNat)
      case atStart => exact ⟨0, w.heap.size, Nat.zero_le _, rfl, rfl, MOut.start p n w⟩
      case round =>
        obtain ⟨i, bi, hi, rfl, rfl, HM⟩ := hrel
        clear c0 z0
        by_cases hlt : i < p.size
        · have i0 : (i : Int) < (p.size : Int) := by omega
          have i3 : (0 : Int) ≤ (i : Int) := by omega
          have HF : Hid (Calls Tryd.prog 35 _ _ _) := further_any p n i wr bi hn40 HM.out.2.1
          have HC : Hid (((p[i]'hlt).toNat : Int) = (cAt p i : Int)) := by show _ = _; rw [cAt_eq]
          go_wp2_with fail
          go_at_call 35
          rw [HC.out]
          refine HF.out.mono ?_
          rintro e1 w1 ⟨rfl, hr1, hb1⟩
          have H1 : Hid (MOut p n w w1 wr.heap.size (i + 1)) := ⟨HM.out.2.2.size, hr1, bel2v HM.out.2.2 hb1⟩
          clear HF HC hr1 hb1 HM
          go_wp2
          go_roundw
          case rel => exact ⟨i + 1, _, by omega, rfl, by simp, H1.out⟩
          case measure => simp [intOf]; omega
        · have hkl : i = p.size := by omega
          subst hkl
          have c1 := World.rowIs.cell HM.out.2.1 (i := n.size) (by omega)
          have HR : Hid (matchB p n = hits p n p.size n.size) := by show _ = _; simp [matchB, hp40, hn40]
          have i4 : (n.size : Int) < (n.size : Int) + 1 := by omega
          go_wp2
          go_ret
          exact ⟨congrArg (fun b => Ending.returned (.bool b)) HR.out.symm, HM.out.2.2⟩
    · have HR : Hid (matchB p n = false) := by show _ = _; simp [matchB, hn40]
      have i1 : (40 : Int) < (n.size : Int) := by omega
      have i2 : (p.size : Int) ≤ 40 := by omega
      clear hp hn
      go_enter Tryd.func22, Tryd.ntmps22
      go_wp2
      go_ret
      exact ⟨congrArg (fun b => Ending.returned (.bool b)) HR.out.symm, Below.refl _ _⟩
  · have HR : Hid (matchB p n = false) := by show _ = _; simp [matchB, hp40]
    have i1 : (40 : Int) < (p.size : Int) := by omega
    clear hp hn
    go_enter Tryd.func22, Tryd.ntmps22
    go_wp2
    go_ret
    exact ⟨congrArg (fun b => Ending.returned (.bool b)) HR.out.symm, Below.refl _ _⟩
end Go.Proofs.YtlnhkdiecfccaaaDoor
