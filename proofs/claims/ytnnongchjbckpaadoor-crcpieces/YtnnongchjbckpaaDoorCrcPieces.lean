/-
  Proved here: for every list of rows of bytes and every list of words the law CrcPieces returns true and leaves its arguments as they were: added in whatever pieces, bytes and words, it is the sum of all; two that go on do not touch each other. The listed table is tied to the program text (the card). No condition besides.
-/
import Derived.Test.YtnnongchjbckpaaDoorRows
import Derived.Test.YtnnongchjbckpaaDoorTie
import Derived.Test.YtnnongchjbckpaaDoorCards
import Derived.Test.YtnnongchjbckpaaDoorDoor
import Derived.Test.YtnnongchjbckpaaDoorPiece
import Derived.WalkKit
import Derived.ProofKit
import Derived.OpenShut
import Derived.ShutString
import Derived.ChangeOld
import Derived.Below
import Derived.SevenTiedAt
import Derived.Lib.Builder
namespace Go.Proofs.YtnnongchjbckpaaDoor.crcPieces
open Go.ChangeShapes Go.WideShapes Go.ChangeAt Go.RowKit Kit
set_option linter.unusedVariables false

/-- All that is put together in k rounds. -/
def allP (Z : Nat → List Int) (ws : List Int) : Nat → List Int
  | 0 => []
  | k + 1 => allP Z ws k ++ Z k ++ (if k < ws.length then layI 8 (ws.getD k 0).toNat else [])
theorem natB_append (x y : List Int) : natB (x ++ y) = natB x ++ natB y := by unfold natB; rw [List.map_append]
theorem go_on (x y : List Int) : sumN (cOf (natB x)) (natB y) = cOf (natB (x ++ y)) := by rw [← sumN_zero, ← sumN_zero, natB_append, sumN_append]
theorem go_word (x : List Int) (m : Nat) : sumN (cOf (natB x)) (layN 8 m) = cOf (natB (x ++ layI 8 m)) := by rw [← natB_layI, go_on]
theorem allP_in {Z : Nat → List Int} {ws : List Int} {len : Nat} (h : ∀ r, r < len → bytesIn (Z r)) : ∀ k, k ≤ len → bytesIn (allP Z ws k)
  | 0, _ => fun z hz => by simp [allP] at hz
  | k + 1, hk => by
    unfold allP
    refine bytesIn_append (bytesIn_append (allP_in h k (by omega)) (h k (by omega))) ?_
    split
    · exact layI_in _ _
    · intro z hz; simp at hz
theorem newSum2 (w : World) : St w (newSum (newSum w)) w.heap.size 0 (.slice none 0 0) [] :=
  ⟨(newSum_is w).below (newSum_below (newSum w)) (by simp [newSum]), ⟨0, by omega, by have := newSum_is (newSum w); rwa [show (newSum w).heap.size = w.heap.size + 1 by simp [newSum]] at this⟩, World.ownsRow_nil _ _ _ _, (newSum_below w).trans ((newSum_below (newSum w)).mono (by simp [newSum])), by simp [newSum]⟩
theorem word_parts {B : Nat} {w : World} {a : Option Addr} {len cap : Nat} {zs : List Int} (h : Vw B w .u64 (.slice a len cap) zs) (hz : 0 < zs.length) : ∃ b off, a = some ⟨b, off, none⟩ ∧ b < B ∧ ∀ i, i < zs.length → w.cell? ⟨b, off + i, none⟩ = some (.int .u64 (zs.getD i 0)) := by
  rcases h with ⟨rfl, _⟩ | ⟨_, b, off, c, he, h1, h2, h3, h4⟩
  · simp at hz
  · simp only [Value.slice.injEq] at he
    exact ⟨b, off, he.1, h3, h4⟩
theorem nat_of {z : Int} (h : 0 ≤ z) : z = ((z.toNat : Nat) : Int) := by omega
theorem Tryd.size36 : (Tryd.prog.info? 36).map (fun i => i.size) = some 1 := by kernel_rfl
theorem ptr_same (w : World) (a : Addr) : (binOp .neq 38 (.pointer (some a)) (.pointer (some a))).run Tryd.prog w = .ok (.bool false) w := by
  obtain ⟨j, hj, _⟩ := Option.map_eq_some_iff.1 Tryd.size36
  exact Lib.run_neq_ptr_same w a Tryd.underlying38 hj
theorem cOf_nil : cOf (natB []) = 0 := by decide
set_option maxRecDepth 4000 in
set_option maxHeartbeats 4000000 in
theorem tail_any (a0 : Option Addr) (len0 cap0 : Nat) (A : Nat → Option Addr) (L C : Nat → Nat) (Z : Nat → List Int) (a1 : Option Addr) (len1 cap1 : Nat) (ws : List Int) (w : World) (M : Hid (IsMat w a0 len0 cap0 A L C Z)) (V1 : Hid (Vw w.heap.size w .u64 (.slice a1 len1 cap1) ws)) (I1 : Hid (wordsIn ws)) (L1 : Hid (ws.length = len1)) (h0 : len0 ≤ 50) (h1 : len1 ≤ 50) (HT : Hid (Tab w)) :
    Calls Tryd.prog 4 #[.slice a0 len0 cap0, .slice a1 len1 cap1] w fun e w' => e = .returned (.bool true) ∧ Below w.heap.size w w' := by
  have hp := HT.out.size
  have H0 : Hid (St w (newSum (newSum w)) w.heap.size (cOf (natB (allP Z ws 0))) (.slice none 0 0) (allP Z ws 0)) := by
    have := newSum2 w
    rw [show allP Z ws 0 = [] from rfl, cOf_nil]; exact this
  have HB : Hid (∀ k, k ≤ len0 → bytesIn (allP Z ws k)) := allP_in (fun r hr => (M.out.2.2.2 r hr).2.1)
  have HG : Hid (∀ k, k ≤ len0 → cOf (natB (allP Z ws k)) < 4294967296) := fun k hk => cOf_lt _ (natB_bytes (HB.out k hk))
  have H0L : Hid ((allP Z ws 0).length ≤ 0 + 8 * 0) := by show _ ≤ _; simp [allP]
  go_enter Tryd.func4, Tryd.ntmps4
  go_wp2
  go_loopw [5, 8, 9] (fun nv v i wr => ∃ k n : Nat, k ≤ len0 ∧ n ≤ 600 ∧ nv = .int .i64 (n : Int) ∧ i = .int .i64 (k : Int) ∧ Hid ((allP Z ws k).length ≤ n + 8 * k) ∧ Hid (St w wr w.heap.size (cOf (natB (allP Z ws k))) v (allP Z ws k))) (fun _ _ i _ => len0 - (intOf i).toNat)
  case atStart => exact ⟨0, 0, by omega, by omega, rfl, rfl, H0L, H0⟩
  case round =>
    obtain ⟨k, n, hk, hn, rfl, rfl, HL, HS⟩ := hrel
    clear H0 H0L
    have BW : Hid (Below w.heap.size w wr) := HS.out.2.2.2.1
    by_cases hlt : k < len0
    · obtain ⟨b, off, ea, hb, hcells⟩ := M.out.2.2.1 (by omega)
      subst ea
      have hck := (BW.out.cell (p := ⟨b, off + k, none⟩) hb).trans (hcells k hlt)
      obtain ⟨mv, mb, ml, mc, mm⟩ := M.out.2.2.2 k hlt
      have MV : Hid (Vw w.heap.size w .u8 (.slice (A k) (L k) (C k)) (Z k) ∧ bytesIn (Z k) ∧ (Z k).length = L k) := ⟨mv, mb, ml⟩
      have MC : Hid (∀ wr', Below w.heap.size w wr' → wr'.cell? ⟨b, off + k, none⟩ = some (.slice (A k) (L k) (C k))) := fun wr' hb' => (hb'.cell (p := ⟨b, off + k, none⟩) hb).trans (hcells k hlt)
      have HG1 : Hid (cOf (natB (allP Z ws k)) < 4294967296) := HG.out k hk
      have HG2 : Hid (cOf (natB (allP Z ws k ++ Z k)) < 4294967296) := cOf_lt _ (natB_bytes (bytesIn_append (HB.out k hk) mb))
      have HBA : Hid (bytesIn (allP Z ws k)) := HB.out k hk
      have HBN : Hid (bytesIn (allP Z ws (k + 1)) ∧ cOf (natB (allP Z ws (k + 1))) < 4294967296) := ⟨HB.out (k + 1) (by omega), HG.out (k + 1) (by omega)⟩
      have HN : Hid (allP Z ws (k + 1) = allP Z ws k ++ Z k ++ (if k < ws.length then layI 8 (ws.getD k 0).toNat else [])) := rfl
      have hlk : (L k : Int) ≤ 9223372036854775807 := by unfold maxLen at mm; omega
      clear mv mb ml hcells HB HG
      generalize A k = ak at *
      generalize L k = lk at *
      generalize C k = ck at *
      generalize Z k = zk at *
      have hpt := ptr_same
      have i1 : (0 : Int) ≤ (k : Int) := by omega
      have i2 : (k : Int) < (len0 : Int) := by omega
      go_wp2_with fail
      go_at_call 16
      refine (asum_any n lk wr.heap.size _ hn hlk (by simp)).mono ?_
      rintro e wa ⟨⟨r, rfl, HR⟩, h⟩
      have HS2 : Hid (St w wa w.heap.size (cOf (natB (allP Z ws k))) u8 (allP Z ws k)) := by rw [h]; exact HS.out.grow ((Below.refl _ _).alloc (Nat.le_refl _) _)
      clear h HS hck
      by_cases hbig : 600 < n + lk
      · have hr : 600 < r := HR.out.2 hbig
        clear HR
        go_wp2_with fail
        go_at_call 8
        refine (awake_any wa (HT.out.below HS2.out.2.2.2.1 hp)).mono ?_
        rintro e wz ⟨rfl, hb⟩
        go_wp2
        go_ret
        exact ⟨rfl, bel2 HS2.out.2.2.2.1 hb⟩
      · have hr := HR.out.1 (by omega)
        subst hr
        clear HR
        have hca := MC.out wa HS2.out.2.2.2.1
        have E1 : Hid (_ = _) := go_on (allP Z ws k) zk
        go_wp2_with fail
        go_at_call 17
        refine (add_any w.heap.size _ HG1 _ zk w.heap.size wa (MV.out.1.below HS2.out.2.2.2.1) MV.out.2.1 HS2.out.1.1 HS2.out.1.2.1 (HT.out.below HS2.out.2.2.2.1 hp)).mono ?_
        rintro e wb ⟨rfl, hwb⟩
        have HS3 : Hid (St w wb w.heap.size (cOf (natB (allP Z ws k ++ zk))) u8 (allP Z ws k)) := by
          rw [hwb, E1.out]; exact HS2.out.sum (set_grown _ _ _) (HS2.out.1.set _)
        clear hwb HS2 hca
        obtain ⟨t, ht, hst⟩ := HS3.out.2.1
        have HT1 : Hid (t < 4294967296) := ht
        have ST1 : Hid (SumIs (wb.alloc (.cells #[.int .u8 1] 5)) (w.heap.size + 1) t) := hst.grown (World.grownBy_alloc wb _ none) (by simp)
        have HS4 : Hid (St w (wb.alloc (.cells #[.int .u8 1] 5)) w.heap.size (cOf (natB (allP Z ws k ++ zk))) u8 (allP Z ws k)) := HS3.out.grow ((Below.refl _ _).alloc (Nat.le_refl _) _)
        have VO : Hid (Vw (wb.heap.size + 1) (wb.alloc (.cells #[.int .u8 1] 5)) .u8 (.slice (some ⟨wb.heap.size, 0, none⟩) 1 1) [1]) := view_one wb .u8 5 1 _ rfl
        have HI1 : Hid (bytesIn [1]) := fun z hz => by simp at hz; omega
        clear hst ht
        go_wp2_with fail
        go_at_call 17
        refine (add_any (w.heap.size + 1) t HT1 _ [1] _ (wb.alloc (.cells #[.int .u8 1] 5)) VO.out HI1.out ST1.out.1 ST1.out.2.1 (HT.out.below HS4.out.2.2.2.1 hp)).mono ?_
        rintro e wc ⟨rfl, hwc⟩
        have HS5 : Hid (St w wc w.heap.size (cOf (natB (allP Z ws k ++ zk))) u8 (allP Z ws k)) := by
          rw [hwc]; exact HS4.out.other (set_grown _ _ _) (ST1.out.set _) (sumN_lt _ _ HT1.out (natB_bytes HI1.out))
        clear hwc HS3 HS4 ST1 VO
        have hcc := MC.out wc HS5.out.2.2.2.1
        have VZ : Hid (Vw w.heap.size wc .u8 (.slice ak lk ck) zk) := MV.out.1.below HS5.out.2.2.2.1
        by_cases hw : k < len1
        · obtain ⟨b1, f1, e1, B1, C1⟩ := word_parts V1.out (by rw [L1.out]; omega)
          subst e1
          have HZW : Hid (ws.getD k 0 = (((ws.getD k 0).toNat : Nat) : Int)) := nat_of (wordsIn_get I1.out (by rw [L1.out]; exact hw)).1
          have HN2 : Hid (allP Z ws (k + 1) = allP Z ws k ++ zk ++ layI 8 (ws.getD k 0).toNat) := by
            show _ = _
            rw [HN.out, if_pos (by rw [L1.out]; exact hw)]
          have W1 : Hid (∀ wr', Below w.heap.size w wr' → wr'.cell? ⟨b1, f1 + k, none⟩ = some (.int .u64 (ws.getD k 0))) := fun wr' hb' => (hb'.cell (p := ⟨b1, f1 + k, none⟩) B1).trans (C1 k (by rw [L1.out]; exact hw))
          clear C1 HN
          generalize ws.getD k 0 = x at *
          have E2 : Hid (_ = _) := go_word (allP Z ws k ++ zk) x.toNat
          have j1 : (k : Int) < (len1 : Int) := by omega
          go_wp2_with (first
            | (at_builtin; refine wpList_app Tryd.underlying22 Tryd.info5 (by omega) rfl (.tmp 47) (.tmp 51) rfl (w.heap.size + 2) _ (allP Z ws k) rfl HS5.out.2.2.1 _ _ zk rfl VZ.out (by have := HL.out; have := MV.out.2.2; omega) HS5.out.2.2.2.2 ?_; intro v6 wd hr6 hb6; have HS6 : Hid (St w wd w.heap.size (cOf (natB (allP Z ws k ++ zk))) v6 (allP Z ws k ++ zk)) := HS5.out.app hr6 hb6; clear hr6 hb6; have hcd := W1.out wd HS6.out.2.2.2.1))
          go_at_call 18
          refine (word_any w.heap.size _ HG2 x x.toNat HZW wd HS6.out.1 (HT.out.below HS6.out.2.2.2.1 hp) hp).mono ?_
          rintro e we ⟨rfl, hse, hge⟩
          rw [E2.out] at hse
          have HS7 : Hid (St w we w.heap.size (cOf (natB (allP Z ws k ++ zk ++ layI 8 x.toNat))) v6 (allP Z ws k ++ zk)) := HS6.out.sum hge hse
          clear hse hge HS6 hcd
          have hce := W1.out we HS7.out.2.2.2.1
          go_wp2_with fail
          go_at_call 19
          refine (lay_any x x.toNat HZW we).mono ?_
          rintro e wf ⟨y, rfl, hry, hby⟩
          have HS8 : Hid (St w wf w.heap.size (cOf (natB (allP Z ws k ++ zk ++ layI 8 x.toNat))) v6 (allP Z ws k ++ zk)) := HS7.out.grow hby
          have VY : Hid (Vw wf.heap.size wf .u8 y (layI 8 x.toNat)) := row_view hry
          have H8 : Hid (_ = _) := layI_len 8 x.toNat
          have HLN : Hid ((allP Z ws (k + 1)).length ≤ n + lk + 8 * (k + 1)) := by
            show _ ≤ _
            have := HL.out; have := MV.out.2.2; have := H8.out
            rw [HN2.out, List.length_append, List.length_append]; omega
          clear hry hby HS7 hce
          go_wp2_with (first
            | (at_builtin; refine wpList_app Tryd.underlying22 Tryd.info5 (by omega) rfl (.tmp 62) (.tmp 67) rfl (w.heap.size + 2) _ (allP Z ws k ++ zk) rfl HS8.out.2.2.1 _ _ (layI 8 x.toNat) rfl VY.out (by have := HL.out; have := MV.out.2.2; have := H8.out; rw [List.length_append]; omega) HS8.out.2.2.2.2 ?_; intro v9 wg hr9 hb9; have HF : Hid (St w wg w.heap.size (cOf (natB (allP Z ws (k + 1)))) v9 (allP Z ws (k + 1))) := (by rw [HN2.out]; exact HS8.out.app hr9 hb9); clear hr9 hb9))
          go_at_call 20
          refine (sum_any w.heap.size _ wg HF.out.1.1).mono ?_
          rintro e wz ⟨rfl, h⟩
          have h := h.symm
          subst h
          have HV : Hid (Vw wg.heap.size wg .u8 v9 (allP Z ws (k + 1))) := row_view HF.out.2.2.1
          go_wp2_with fail
          go_at_call 11
          refine (of_any _ _ wg.heap.size wg HV.out (Nat.le_refl _) HBN.out.1 (HT.out.below HF.out.2.2.2.1 hp)).mono ?_
          rintro e wz ⟨rfl, hb9⟩
          have HF9 : Hid (St w wz w.heap.size (cOf (natB (allP Z ws (k + 1)))) v9 (allP Z ws (k + 1))) := HF.out.grow hb9
          clear hb9
          have HGX : Hid (∃ X : Nat, X = cOf (natB (allP Z ws (k + 1)))) := ⟨_, rfl⟩
          obtain ⟨X, hX⟩ := HGX.out
          rw [← hX]
          clear hX HGX
          go_wp2
          go_roundw
          case rel => exact ⟨k + 1, n + lk, by omega, by omega, rfl, by go_num, HLN, HF9⟩
          case measure => simp [intOf]; omega
        · have HN2 : Hid (allP Z ws (k + 1) = allP Z ws k ++ zk) := by
            show _ = _
            rw [HN.out, if_neg (by rw [L1.out]; exact hw), List.append_nil]
          have HLN : Hid ((allP Z ws (k + 1)).length ≤ n + lk + 8 * (k + 1)) := by
            show _ ≤ _
            have := HL.out; have := MV.out.2.2
            rw [HN2.out, List.length_append]; omega
          clear HN
          go_wp2_with (first
            | (at_builtin; refine wpList_app Tryd.underlying22 Tryd.info5 (by omega) rfl (.tmp 47) (.tmp 51) rfl (w.heap.size + 2) _ (allP Z ws k) rfl HS5.out.2.2.1 _ _ zk rfl VZ.out (by have := HL.out; have := MV.out.2.2; omega) HS5.out.2.2.2.2 ?_; intro v9 wg hr9 hb9; have HF : Hid (St w wg w.heap.size (cOf (natB (allP Z ws (k + 1)))) v9 (allP Z ws (k + 1))) := (by rw [HN2.out]; exact HS5.out.app hr9 hb9); clear hr9 hb9))
          go_at_call 20
          refine (sum_any w.heap.size _ wg HF.out.1.1).mono ?_
          rintro e wz ⟨rfl, h⟩
          have h := h.symm
          subst h
          have HV : Hid (Vw wg.heap.size wg .u8 v9 (allP Z ws (k + 1))) := row_view HF.out.2.2.1
          go_wp2_with fail
          go_at_call 11
          refine (of_any _ _ wg.heap.size wg HV.out (Nat.le_refl _) HBN.out.1 (HT.out.below HF.out.2.2.2.1 hp)).mono ?_
          rintro e wz ⟨rfl, hb9⟩
          have HF9 : Hid (St w wz w.heap.size (cOf (natB (allP Z ws (k + 1)))) v9 (allP Z ws (k + 1))) := HF.out.grow hb9
          clear hb9
          have HGX : Hid (∃ X : Nat, X = cOf (natB (allP Z ws (k + 1)))) := ⟨_, rfl⟩
          obtain ⟨X, hX⟩ := HGX.out
          rw [← hX]
          clear hX HGX
          go_wp2
          go_roundw
          case rel => exact ⟨k + 1, n + lk, by omega, by omega, rfl, by go_num, HLN, HF9⟩
          case measure => simp [intOf]; omega

    · go_wp2_with fail
      go_at_call 8
      refine (awake_any wr (HT.out.below BW.out hp)).mono ?_
      rintro e wz ⟨rfl, hb⟩
      go_wp2
      go_ret
      exact ⟨rfl, bel2 BW.out hb⟩

set_option maxHeartbeats 1000000 in
theorem walk (a0 : Option Addr) (len0 cap0 : Nat) (A : Nat → Option Addr) (L C : Nat → Nat) (Z : Nat → List Int) (a1 : Option Addr) (len1 cap1 : Nat) (z1 : List Int) (w : World) (w0 : IsMat w a0 len0 cap0 A L C Z) (w1 : IsRow .u64 w a1 len1 cap1 z1) (hT : Tab w) :
    Calls Tryd.prog 4 #[.slice a0 len0 cap0, .slice a1 len1 cap1] w fun e w' => e = .returned (.bool true) ∧ Below w.heap.size w w' := by
  have HT : Hid (Tab w) := hT
  by_cases h0 : 50 < len0
  · clear w0 w1 hT
    go_enter Tryd.func4, Tryd.ntmps4
    go_wp2_with (go_at_call 8; refine (awake_any _ HT.out).mono ?_; rintro e w' ⟨rfl, hb⟩)
    go_ret
    exact ⟨rfl, hb⟩
  · by_cases h1 : 50 < len1
    · clear w0 w1 hT
      go_enter Tryd.func4, Tryd.ntmps4
      go_wp2_with (go_at_call 8; refine (awake_any _ HT.out).mono ?_; rintro e w' ⟨rfl, hb⟩)
      go_ret
      exact ⟨rfl, hb⟩
    · exact tail_any a0 len0 cap0 A L C Z a1 len1 cap1 _ w w0 (isRow_view w1) (isRow_words w1) (isRow_len w1).1 (by omega) (by omega) hT

/-! The row's step. -/
set_option maxRecDepth 100000 in
theorem lifted (os : Os) (started : os.Started) (H : Type) (enc : TypeId × Value → H) :
    ReturnsInHanded {} Tryd.checked os 4 .any (fun w args => (Rows.crcPiecesSpec.pre enc Tryd.prog Tryd.f4 [] false w args ∧ laidMetH Tryd.prog laid1 w) ∧ sizedMet enc Tryd.prog Tryd.f4 (OpenSpec.ofChange Rows.crcPiecesSpec) false w args)
      (Rows.crcPiecesSpec.post enc Tryd.prog Tryd.f4 false true false false) := by
  refine returnsInHanded_of_change_and (C := Tryd.checked) (X := fun w _ => laidMetH Tryd.prog laid1 w) (fun _ _ _ hh h => h.of_heap hh) own started (by kernel_rfl) Tryd.func4
    (ChangeSpec.witness_shaped (enc := enc) (C := Tryd.checked) (os := os) (X := fun w _ => laidMetH Tryd.prog laid1 w) false (World.doorLaid Tryd.prog 14 os) #[.slice none 0 0, .slice none 0 0] 8 rfl (World.shaped_of_RefB (by kernel_rfl) (by kernel_rfl)) (by kernel_rfl) (by kernel_rfl) (by kernel_rfl) (door_met os _)) ?_
  intro W base args ds gs before hval0 hW hcnd hsz hL _
  have hval : ∀ (j : Nat) t v, Tryd.f4.params[j]? = some t → args[j]? = some v → Value.okWide Tryd.prog W .any base t v := hval0
  have hW' := hW
  obtain ⟨p, q, hA0, hV, rfl, hfz, hnd⟩ := hW
  have hA : DataW.TrodAll enc Tryd.prog W 0 (fun _ => true) true Tryd.f4.params.toList args.toList ds p := hA0
  rw [Tryd.params4] at hA hval
  obtain ⟨v0, vs0, d0, ds0, p0, q0, hargs, rfl, rfl, h0, r0⟩ := trodAll_cons hA
  obtain ⟨v1, vs1, d1, ds1, p1, q1, rfl, rfl, rfl, h1, r1⟩ := trodAll_cons r0
  obtain ⟨rfl, rfl, rfl⟩ := trodAll_nil r1
  obtain rfl : args = #[v0, v1] := by cases args; simp_all
  obtain ⟨rfl, rfl⟩ := trodVars_none hV
  obtain ⟨a0, len0, cap0, rfl⟩ := okWide_slice Tryd.underlying34 (hval 0 34 v0 rfl rfl)
  have k0 := h0
  have lt0 : ∀ x ∈ p0, x.block < W.heap.size := by obtain ⟨m, hm⟩ := k0; exact DataW.trod_lt m _ _ _ hm
  obtain ⟨A, L, C, Z, w0⟩ : ∃ A L C Z, IsMat W a0 len0 cap0 A L C Z := by
    obtain ⟨fuel, hf⟩ := h0
    exact isMat_of Tryd.underlying34 Tryd.underlying22 Tryd.underlying5 (by kernel_rfl) (by kernel_rfl) hf
  obtain ⟨a1, len1, cap1, rfl⟩ := okWide_slice Tryd.underlying23 (hval 1 23 v1 rfl rfl)
  have k1 := h1
  have lt1 : ∀ x ∈ p1, x.block < W.heap.size := by obtain ⟨m, hm⟩ := k1; exact DataW.trod_lt m _ _ _ hm
  obtain ⟨z1, w1⟩ : ∃ zs, IsRow .u64 W a1 len1 cap1 zs := by
    obtain ⟨fuel, hf⟩ := h1
    rcases open_ints Tryd.underlying23 Tryd.underlying24 (by kernel_rfl) hf with ⟨hcs, _⟩ | ⟨x, l, c, zs, hcs, _, hl, hm, hz, _, hcell, hwz⟩
    · simp [Value.cells] at hcs
      obtain ⟨rfl, rfl, rfl⟩ := hcs
      exact ⟨[], .inl ⟨rfl, rfl, rfl, rfl⟩⟩
    · simp [Value.cells] at hcs
      obtain ⟨rfl, rfl, rfl⟩ := hcs
      exact ⟨zs, .inr ⟨_, rfl, hl, hm, by simpa using hz, hcell, hwz⟩⟩
  clear hA0 hval0
  refine (walk a0 len0 cap0 A L C Z a1 len1 cap1 z1 W w0 w1 (tab_of_laid hL)).mono fun e W' ⟨he, bel⟩ => ?_
  subst he
  exact ⟨_, rfl, _, _, _, [], _, [], hW', trodAll_mk1 (shut_bool Tryd.underlying4 _), (trodAll_cons_mk (Below.trod laidOut (by kernel_rfl) (of_decide_eq_true (by kernel_rfl)) k0 bel lt0) (trodAll_cons_mk (Below.trod laidOut (by kernel_rfl) (of_decide_eq_true (by kernel_rfl)) k1 bel lt1) trodAll_mk0)), rfl, bel.frame _, fun h => by cases h⟩

theorem over : Rows.crcPiecesRow.holds Tryd.pinned (OpenSpec.ofChange Rows.crcPiecesSpec) :=
  OpenClaim.holds_of_wide 4 Tryd.f4 rfl rfl rfl rfl rfl rfl rfl ⟨rfl, rfl, rfl, rfl, rfl⟩ rfl rfl rfl rfl rfl (by kernel_rfl) Tryd.func4 (by kernel_rfl)
    (of_decide_eq_true (by kernel_rfl)) (by unfold Func.isWrapper; first | (rw [if_pos (by decide +kernel)]; kernel_rfl) | (rw [if_neg (by decide +kernel)]; exact ⟨rfl, rfl⟩))
    (fun os started H enc _ => lifted os started H enc)

/-- The card, tied. -/
theorem proved : Rows.CrcPiecesCardSaid :=
  Claim7.holds_tied_plain_at .later [] [.data] true (true, "018943c7821482f50dfe816936e244883998ed36ed61f28ab1a620a4f86d7a87") false
    over (fun _ h => by cases h) (by kernel_rfl) (fun _ h => by cases h) crcPieces_row_tie rfl ⟨rfl, rfl⟩ (by kernel_rfl) rfl
    (fun f fn hf hfn => by
      obtain rfl : f = 4 := Option.some.inj ((show Tryd.prog.funcNamed Rows.crcPiecesRow.func = some 4 by kernel_rfl).symm.trans hf) |>.symm
      obtain rfl : fn = Tryd.f4 := (Option.some.inj (Tryd.func4.symm.trans hfn)).symm
      exact ⟨by kernel_rfl, fun j t ht => by
        rw [Tryd.params4] at ht
        have hm : t ∈ [34, 23] := by simpa using Array.mem_of_getElem? ht
        have hall : ([34, 23].all fun u => !Tryd.prog.wantsStandIn u) = true := by kernel_rfl
        exact (show Tryd.prog.wantsStandIn t = false by simpa using List.all_eq_true.1 hall t hm)⟩)
    (by kernel_rfl)
end Go.Proofs.YtnnongchjbckpaaDoor.crcPieces

namespace Go.Proofs.YtnnongchjbckpaaDoor
/-- THE STATEMENT. -/
theorem crcPieces_holds : Rows.CrcPiecesCardSaid := crcPieces.proved
#print axioms crcPieces_holds
end Go.Proofs.YtnnongchjbckpaaDoor
