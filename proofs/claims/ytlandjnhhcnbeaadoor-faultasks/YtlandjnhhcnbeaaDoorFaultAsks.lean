/-
  Proved here: for every Mold and every list of numbers the law FaultAsks returns true and leaves its arguments as they were: of any error, however nested, the first number, the first Fault, the chain of Faults, and whether some numbers are within, are told. The listed variable is tied to the program text (the card). No condition besides.
-/
import Derived.Test.YtlandjnhhcnbeaaDoorRows
import Derived.Test.YtlandjnhhcnbeaaDoorTie
import Derived.Test.YtlandjnhhcnbeaaDoorCards
import Derived.Test.YtlandjnhhcnbeaaDoorTight
import Derived.Test.YtlandjnhhcnbeaaDoorDoor
import Derived.WalkKit
import Derived.ProofKit
import Derived.OpenShut
import Derived.ShutString
import Derived.ChangeOld
import Derived.Below
import Derived.SevenTiedAt
import Derived.Deep.RegionHeld3
import Derived.BigQuiet
namespace Go.Proofs.YtlandjnhhcnbeaaDoor.faultAsks
open Go.ChangeShapes Go.WideShapes Go.ChangeAt Go.RowKit Go.ChangeMaps Kit
set_option linter.unusedVariables false

theorem bel_drewN {B : Nat} {a w : World} (h : Below B a w) (n : Nat) : Below B a (w.drewN n) := ⟨h.os, h.tape, h.output, h.size, h.block⟩
set_option maxRecDepth 4000 in
set_option maxHeartbeats 64000000 in
theorem walk0 (n : Nat) (v : Value) (t : Tr n) (ao : Option Addr) (zs : List Int) (cp : Nat) (w : World) (hm : MoldAt w n v t) (HL : Hid (0 < zs.length → ∃ b off, ao = some ⟨b, off, none⟩ ∧ b < w.heap.size ∧ ∀ (i : Nat) x, (zs.map (Value.int .i64))[i]? = some x → w.cell? ⟨b, off + i, none⟩ = some x)) (hT : Tied w) :
    Calls Tryd.prog 3 #[v, .slice ao zs.length cp] w fun e w' => e = .returned (.bool true) ∧ Below w.heap.size w w' := by
  obtain ⟨l, a, len, cap, rfl⟩ := mold_form hm
  have H0 : Hid (Own5 w (w.alloc (.cells #[.int .i64 l.kind, .int .i64 l.num, .string l.op, .string l.path, .slice a len cap] 24)) l.kind l.num l.op l.path a len cap) := own5_new w _ _ _ _ _ _ _ _
  have HT : Hid (Tied w) := hT
  have HM : Hid (MoldAt w n (moldV l a len cap) t) := hm
  have HX : Hid (Calls Tryd.prog 9 _ _ _) := weight_any n _ t (w.alloc (.cells #[.int .i64 l.kind, .int .i64 l.num, .string l.op, .string l.path, .slice a len cap] 24)) 0 (by omega) (hm.below H0.out.out)
  obtain ⟨kd, nm, op, pa⟩ := l
  clear hm hT
  have z0 : ((0 : Nat) : Int) = 0 := rfl
  unfold moldV at *
  rw [z0] at HX
  clear z0
  go_enter Tryd.func3, Tryd.ntmps3
  go_wp2_with fail
  go_at_call 9
  refine HX.out.mono ?_
  rintro e w1 ⟨r, rfl, hr, hb⟩
  have H1 : Hid (Own5 w w1 kd nm op pa a len cap) := H0.out.below hb
  clear hb HX H0
  by_cases hlt : (300 : Int) < (r : Int)
  · clear hr
    have HX : Hid (Calls Tryd.prog 10 _ _ _) := awake_any w1 (HT.out.below H1.out.out)
    go_wp2_with fail
    go_at_call 10
    refine HX.out.mono ?_
    rintro e wz ⟨rfl, hb⟩
    have HZ : Hid (Below w.heap.size w wz) := bel2e H1.out.out hb
    clear hb HX
    go_wp2
    go_ret
    exact ⟨rfl, HZ.out⟩
  by_cases hlz : (30 : Int) < (zs.length : Int)
  · clear hr
    have HX : Hid (Calls Tryd.prog 10 _ _ _) := awake_any w1 (HT.out.below H1.out.out)
    go_wp2_with fail
    go_at_call 10
    refine HX.out.mono ?_
    rintro e wz ⟨rfl, hb⟩
    have HZ : Hid (Below w.heap.size w wz) := bel2e H1.out.out hb
    clear hb HX
    go_wp2
    go_ret
    exact ⟨rfl, HZ.out⟩
  have HK : Hid (bulk n t ≤ 300) := Nat.le_trans (hr.out.2 (by omega)) (by omega)
  clear hr
  have c := H1.out
  obtain ⟨c0, c1, c2, c3, c4, _⟩ := c
  have HX : Hid (Calls Tryd.prog 11 _ _ _) := made_any w n _ t w1 H1.out.out HM.out HK.out
  go_wp2_with fail
  go_at_call 11
  refine HX.out.mono ?_
  rintro e w2 ⟨rv, rfl, hmk, hb⟩
  have H2 : Hid (Own5 w w2 kd nm op pa a len cap) := H1.out.below hb
  have hcase := hmk.out.nil
  obtain ⟨ns, hp, hs⟩ := hmk.out
  have HP : Hid (Pre w2 ns.length rv ns) := hp.tight
  have HS : Hid (shapes ns = nodesT n t) := hs
  have HNL : Hid (ns.length ≤ 100000) := by
    have h1 := nodes_bulk n t
    rw [← hs] at h1
    have h2 : (shapes ns).length = ns.length := by simp [shapes]
    have := HK.out
    show _ ≤ _
    omega
  have HCT : Hid (chainT n t = chainOf ns) := by show _ = _; rw [chain_nodes, ← hs, chainS_shapes]
  obtain ⟨ms, hms⟩ : ∃ ms, nums ns = ms := ⟨_, rfl⟩
  have HNU : Hid (nums ns = ms) := hms
  have HNM : Hid (numsS (nodesT n t) = ms) := by show _ = _; rw [← hs, numsS_shapes, hms]
  have HML : Hid (ms.length ≤ 300) := by
    have h1 := nums_bulk n t
    rw [HNM.out] at h1
    exact Nat.le_trans h1 HK.out
  clear hb HX H1 c0 c1 c2 c3 c4 hmk hp hs hms
  have c := H2.out
  obtain ⟨c0, c1, c2, c3, c4, _⟩ := c
  rcases hcase with ⟨hr, hl⟩ | ⟨hr, hl⟩
  · subst hr
    have HNIL : Hid (ns = []) := by
      have h1 := HS.out
      rw [hl] at h1
      cases ns with
      | nil => rfl
      | cons p q => cases h1
    have HNO : Hid (noneT n t = true) := by show _ = _; rw [none_nodes, hl]; rfl
    go_wp2
    go_region_held3 (fun w' => w'.cell? ⟨w.heap.size, 0, none⟩ = some (.int .i64 kd) ∧ w'.cell? ⟨w.heap.size, 1, none⟩ = some (.int .i64 nm) ∧ w'.cell? ⟨w.heap.size, 2, none⟩ = some (.string op) ∧ w'.cell? ⟨w.heap.size, 3, none⟩ = some (.string pa) ∧ w'.cell? ⟨w.heap.size, 4, none⟩ = some (.slice a len cap) ∧ Hid (Below w.heap.size w w')) (first | exact H2.out | exact H2.out.drew | exact keep5 (by assumption) (by assumption))
      (first
        | (go_at_call 12; refine (none_any n _ t _ (HM.out.below (bel5 (by assumption)))).mono ?_; rintro e w3 ⟨rfl, hb3⟩; rw [HNO.out]))
    rename_i hS
    have H3 : Hid (Own5 w w3 kd nm op pa a len cap) := hS
    have HP3 : Hid (Pre w3 ns.length (.nilIface) ns) := HP.out.below ((Below.refl _ _).drew.trans hb3)
    clear hS hb3 HP H2 HNO c0 c1 c2 c3 c4
    clear hl
    have c := H3.out
    obtain ⟨c0, c1, c2, c3, c4, _⟩ := c
    have HX : Hid (Calls Tryd.prog 13 _ _ _) := codes_any w n _ t w3 H3.out.out HM.out HK.out
    go_wp2_with fail
    go_at_call 13
    refine HX.out.mono ?_
    rintro e w4 ⟨rc, rfl, hrc, hb⟩
    have H4 : Hid (Own5 w w4 kd nm op pa a len cap) := H3.out.below hb
    have HP4 : Hid (Pre w4 ns.length (.nilIface) ns) := HP3.out.below hb
    have hsc := RowV.sees hrc.out
    rw [HNM.out] at hsc
    have SC4 : Hid (Sees w4 rc (ms.map (Value.int .i64))) := hsc
    clear hb HX H3 HP3 c0 c1 c2 c3 c4 hrc hsc
    have c := H4.out
    obtain ⟨c0, c1, c2, c3, c4, _⟩ := c
    have HX : Hid (Calls Tryd.prog 14 _ _ _) := chainL_any w n _ t w4 H4.out.out HM.out HK.out
    go_wp2_with fail
    go_at_call 14
    refine HX.out.mono ?_
    rintro e w5 ⟨rh, rfl, hrh, hb⟩
    have B5 : Hid (Below w.heap.size w w5) := bel2e H4.out.out hb
    have HP5 : Hid (Pre w5 ns.length (.nilIface) ns) := HP4.out.below hb
    have SC5 : Hid (Sees w5 rc (ms.map (Value.int .i64))) := SC4.out.below hb
    have hsh := RowV.sees hrh.out
    rw [HCT.out] at hsh
    have SH5 : Hid (Sees w5 rh (txts (chainOf ns))) := hsh
    clear hb HX H4 HP4 SC4 c0 c1 c2 c3 c4 hrh hsh
    have HX : Hid (Calls Tryd.prog 16 _ _ _) := chain_any ns.length (.nilIface) ns w5 HP5.out (HT.out.below B5.out) HNL.out
    go_wp2_with fail
    go_at_call 16
    refine HX.out.mono ?_
    rintro e w6 ⟨lk, rfl, hlk, hb⟩
    have B6 : Hid (Below w.heap.size w w6) := bel2e B5.out hb
    have HP6 : Hid (Pre w6 ns.length (.nilIface) ns) := HP5.out.below hb
    have SC6 : Hid (Sees w6 rc (ms.map (Value.int .i64))) := SC5.out.below hb
    have SH6 : Hid (Sees w6 rh (txts (chainOf ns))) := SH5.out.below hb
    have SK6 : Hid (Sees w6 lk (txts (chainOf ns))) := hlk.sees
    clear hb HX B5 HP5 SC5 SH5 hlk
    have HX : Hid (Calls Tryd.prog 15 _ _ _) := texts_any lk rh ((chainOf ns).map txt) ((chainOf ns).map txt) w6 (by rw [← txts_strs]; exact SK6.out) (by rw [← txts_strs]; exact SH6.out)
    go_wp2_with fail
    go_at_call 15
    refine HX.out.mono ?_
    rintro e w7 ⟨rfl, hb⟩
    simp only [decide_true]
    have B7 : Hid (Below w.heap.size w w7) := bel2e B6.out hb
    have HP7 : Hid (Pre w7 ns.length (.nilIface) ns) := HP6.out.below hb
    have SC7 : Hid (Sees w7 rc (ms.map (Value.int .i64))) := SC6.out.below hb
    have SH7 : Hid (Sees w7 rh (txts (chainOf ns))) := SH6.out.below hb
    clear hb HX B6 HP6 SC6 SH6 SK6
    obtain ⟨co, cc, hrc, _, _, _, hcell⟩ := SC7.out
    rw [List.length_map] at hrc hcell
    subst hrc
    obtain ⟨mn, hmn⟩ : ∃ mn, ms.length = mn := ⟨_, rfl⟩
    rw [hmn] at hcell ⊢
    have HMN : Hid (ms.length = mn ∧ mn ≤ 300) := ⟨hmn, by rw [← hmn]; exact HML.out⟩
    have HCL : Hid (0 < mn → ∃ cb cf, co = some ⟨cb, cf, none⟩ ∧ cb < w7.heap.size ∧ ∀ (i : Nat) x, (ms.map (Value.int .i64))[i]? = some x → w7.cell? ⟨cb, cf + i, none⟩ = some x) := hcell
    have mm : (mn : Int) ≤ 300 := by have := HMN.out.2; omega
    clear hcell SC7
    have h0 : mn = 0 := by rw [← hmn, ← HNU.out, HNIL.out]; rfl
    have HCH : Hid (chainOf ns = []) := by show _ = _; rw [HNIL.out]; rfl
    have HHD : Hid ((nums ns).headD 0 = 0) := by
      show _ = _
      rw [HNU.out, List.eq_nil_of_length_eq_zero (show ms.length = 0 by rw [hmn]; exact h0)]; rfl
    clear hmn
    subst h0
    obtain ⟨ho, hc, hrh, _, _, _, _⟩ := SH7.out
    rw [HCH.out] at hrh
    have hrh2 : rh = .slice ho 0 hc := hrh
    subst hrh2
    clear hrh
    have HX : Hid (Calls Tryd.prog 17 _ _ _) := op_none ns.length (.nilIface) ns w7 HP7.out (HT.out.below B7.out) (HP7.out.bare HCH.out)
    go_wp2_with fail
    go_at_call 17
    refine HX.out.mono ?_
    rintro e w8 ⟨rfl, hb⟩
    have B8 : Hid (Below w.heap.size w w8) := bel2e B7.out hb
    have B78 : Hid (Below w7.heap.size w7 w8) := hb
    have HP8 : Hid (Pre w8 ns.length (.nilIface) ns) := HP7.out.below hb
    clear hb HX
    have HX : Hid (Calls Tryd.prog 18 _ _ _) := code_any ns.length (.nilIface) ns w8 HP8.out (HT.out.below B8.out)
    go_wp2_with fail
    go_at_call 18
    refine HX.out.mono ?_
    rintro e w9 ⟨rfl, hb⟩
    rw [HHD.out]
    have B9 : Hid (Below w.heap.size w w9) := bel2e B8.out hb
    have B79 : Hid (Below w7.heap.size w7 w9) := bel2e B78.out hb
    have HP9 : Hid (Pre w9 ns.length (.nilIface) ns) := HP8.out.below hb
    clear hb HX B8 B78 HP8 HP7
    have HCL9 : Hid (0 < 0 → ∃ cb cf, co = some ⟨cb, cf, none⟩ ∧ cb < w9.heap.size ∧ ∀ (i : Nat) x, (ms.map (Value.int .i64))[i]? = some x → w9.cell? ⟨cb, cf + i, none⟩ = some x) := fun h0 => by
      obtain ⟨cb, cf, e, h1, h2⟩ := HCL.out h0
      exact ⟨cb, cf, e, Nat.lt_of_lt_of_le h1 B79.out.size, fun i x hx => cell_old B79.out (h2 i x hx)⟩
    clear HCL
    have HCL := HCL9
    clear HCL9
    have ea := empty_add
    go_wp2
    go_loopw [12, 13, 14] (fun lst is i wr => ∃ k : Nat, k ≤ zs.length ∧ i = .int .i64 (k : Int) ∧ is = .bool (isUpTo ms zs k) ∧ Hid (RowV wr w9.heap.size 39 lst ((zs.take k).map (Value.int .i64)) ∧ Below w9.heap.size w9 wr)) (fun _ _ i _ => zs.length - (intOf i).toNat)
    case atStart => exact ⟨0, Nat.zero_le _, rfl, rfl, rowV_nil _ _ _, Below.refl _ _⟩
    case round =>
      obtain ⟨k, hk, rfl, rfl, HR⟩ := hrel
      obtain ⟨ib, hib⟩ : ∃ ib, isUpTo ms zs k = ib := ⟨_, rfl⟩
      rw [hib]
      have HIB : Hid (isUpTo ms zs k = ib) := hib
      clear hib
      by_cases hlt : k < zs.length
      · obtain ⟨b, off, hao, hbl, hc⟩ := HL.out (by omega)
        subst hao
        have c0 := ((bel2e B9.out HR.out.2).cell (by exact hbl)).trans (hc k (.int .i64 (zs.getD k 0)) (by simp [hlt, List.getD]))
        have HLC : Hid (b < w.heap.size ∧ w.cell? ⟨b, off + k, none⟩ = some (.int .i64 (zs.getD k 0))) := ⟨hbl, hc k _ (by simp [hlt, List.getD])⟩
        obtain ⟨z, hz⟩ : ∃ z, zs.getD k 0 = z := ⟨_, rfl⟩
        rw [hz] at c0
        have HZ : Hid (zs.getD k 0 = z) := hz
        have i0 : (k : Int) < (zs.length : Int) := by omega
        have i2 : (0 : Int) ≤ (k : Int) := by omega
        clear hc hbl hz
        have B1 : Hid (Below wr.heap.size wr (wr.alloc (.cells #[.int .i64 z] 39))) := (Below.refl _ _).alloc (Nat.le_refl _) _
        have S1 : Hid (Sees (wr.alloc (.cells #[.int .i64 z] 39)) (.slice (some ⟨wr.heap.size, 0, none⟩) 1 1) [.int .i64 z]) := sees_one _ _ _ _ rfl
        go_wp2_with (at_builtin; refine wpList_appV Tryd.underlying41 infoE rfl (by decide) rfl _ _ rfl w9.heap.size u12 _ rfl (HR.out.1.below B1.out) (.slice (some ⟨wr.heap.size, 0, none⟩) 1 1) _ rfl S1.out ?c1 ?c2 ?c3 ?_)
        case c1 => first | rfl | (intro y hy; simp at hy; subst hy; rfl)
        case c2 => simp; omega
        case c3 => have := HR.out.2.size; simp; omega
        intro l3 w3 hr hb3
        have HR3 : Hid (RowV w3 w9.heap.size 39 l3 ((zs.take (k + 1)).map (Value.int .i64)) ∧ Below w9.heap.size w9 w3) := ⟨by rw [take_map_step zs k hlt, HZ.out, List.map_take]; exact hr, (bel2e HR.out.2 B1.out).trans hb3⟩
        clear hr hb3 HR B1 S1 c0
        go_wp2
        go_loopw [13, 15] (fun is i wq => ∃ k2 : Nat, k2 ≤ 0 ∧ i = .int .i64 (k2 : Int) ∧ is = .bool (isPart z ms ib k2) ∧ Hid (RowV wq w9.heap.size 39 l3 ((zs.take (k + 1)).map (Value.int .i64)) ∧ Below w9.heap.size w9 wq)) (fun _ i _ => 0 - (intOf i).toNat)
        case atStart => exact ⟨0, Nat.zero_le _, rfl, by unfold isPart; simp, HR3.out⟩
        case round =>
          obtain ⟨k2, hk2, rfl, rfl, HQ⟩ := hrel
          clear HR3
          by_cases hlt2 : k2 < 0
          · omega
          · have hkl2 : k2 = 0 := by omega
            have HSU : Hid (isPart z ms ib k2 = isUpTo ms zs (k + 1)) := by
              show _ = _
              rw [isUpTo_step ms zs k hlt, HIB.out, HZ.out, hkl2, ← HMN.out.1, isPart_all]
            obtain ⟨bq, hbq⟩ : ∃ bq, isPart z ms ib k2 = bq := ⟨_, rfl⟩
            rw [hbq]
            rw [hbq] at HSU
            clear hbq
            subst hkl2
            go_wp2
            go_roundw
            case rel => exact ⟨k + 1, by omega, by simp, by rw [HSU.out], HQ.out⟩
            case measure => simp [intOf]; omega
      · have hkl : k = zs.length := by omega
        subst hkl
        have hse := HR.out.1.sees
        rw [List.take_length] at hse
        have HEQ : Hid ((zs.any fun c => hit c ns) = ib) := by
          show _ = _
          rw [← HIB.out, isUpTo_all, ← HNU.out]
          congr 1
          funext c
          exact hit_among c ns
        have HX : Hid (Calls Tryd.prog 19 _ _ _) := fis_any ns.length (.nilIface) u12 ns zs wr (HP9.out.below HR.out.2) hse
        have BX : Hid (Below w.heap.size w wr) := bel2e B9.out HR.out.2
        clear hse HR HIB
        go_wp2_with fail
        go_at_call 19
        refine HX.out.mono ?_
        rintro e w10 ⟨rfl, hb⟩
        rw [HEQ.out]
        have B10 : Hid (Below w.heap.size w w10) := bel2e BX.out hb
        clear hb HX BX HEQ
        have HX : Hid (Calls Tryd.prog 10 _ _ _) := awake_any w10 (HT.out.below B10.out)
        go_wp2_with fail
        go_at_call 10
        refine HX.out.mono ?_
        rintro e wz ⟨rfl, hb⟩
        have HZ : Hid (Below w.heap.size w wz) := bel2e B10.out hb
        clear hb HX
        go_wp2
        go_ret
        exact ⟨rfl, HZ.out⟩
  · obtain ⟨ru, rx, hru⟩ := (Pre.form HP.out).resolve_left hr
    subst hru
    clear hr
    have HNO : Hid (noneT n t = false) := by show _ = _; rw [none_nodes, ← Bool.not_eq_true]; intro e0; exact hl (List.isEmpty_iff.1 e0)
    go_wp2
    go_region_held3 (fun w' => w'.cell? ⟨w.heap.size, 0, none⟩ = some (.int .i64 kd) ∧ w'.cell? ⟨w.heap.size, 1, none⟩ = some (.int .i64 nm) ∧ w'.cell? ⟨w.heap.size, 2, none⟩ = some (.string op) ∧ w'.cell? ⟨w.heap.size, 3, none⟩ = some (.string pa) ∧ w'.cell? ⟨w.heap.size, 4, none⟩ = some (.slice a len cap) ∧ Hid (Below w.heap.size w w')) (first | exact H2.out | exact H2.out.drew | exact keep5 (by assumption) (by assumption))
      (first
        | (go_at_call 12; refine (none_any n _ t _ (HM.out.below (bel5 (by assumption)))).mono ?_; rintro e w3 ⟨rfl, hb3⟩; rw [HNO.out]))
    rename_i hS
    have H3 : Hid (Own5 w w3 kd nm op pa a len cap) := hS
    have HP3 : Hid (Pre w3 ns.length (.iface ru rx) ns) := HP.out.below ((Below.refl _ _).drew.trans hb3)
    clear hS hb3 HP H2 HNO c0 c1 c2 c3 c4
    clear hl
    have c := H3.out
    obtain ⟨c0, c1, c2, c3, c4, _⟩ := c
    have HX : Hid (Calls Tryd.prog 13 _ _ _) := codes_any w n _ t w3 H3.out.out HM.out HK.out
    go_wp2_with fail
    go_at_call 13
    refine HX.out.mono ?_
    rintro e w4 ⟨rc, rfl, hrc, hb⟩
    have H4 : Hid (Own5 w w4 kd nm op pa a len cap) := H3.out.below hb
    have HP4 : Hid (Pre w4 ns.length (.iface ru rx) ns) := HP3.out.below hb
    have hsc := RowV.sees hrc.out
    rw [HNM.out] at hsc
    have SC4 : Hid (Sees w4 rc (ms.map (Value.int .i64))) := hsc
    clear hb HX H3 HP3 c0 c1 c2 c3 c4 hrc hsc
    have c := H4.out
    obtain ⟨c0, c1, c2, c3, c4, _⟩ := c
    have HX : Hid (Calls Tryd.prog 14 _ _ _) := chainL_any w n _ t w4 H4.out.out HM.out HK.out
    go_wp2_with fail
    go_at_call 14
    refine HX.out.mono ?_
    rintro e w5 ⟨rh, rfl, hrh, hb⟩
    have B5 : Hid (Below w.heap.size w w5) := bel2e H4.out.out hb
    have HP5 : Hid (Pre w5 ns.length (.iface ru rx) ns) := HP4.out.below hb
    have SC5 : Hid (Sees w5 rc (ms.map (Value.int .i64))) := SC4.out.below hb
    have hsh := RowV.sees hrh.out
    rw [HCT.out] at hsh
    have SH5 : Hid (Sees w5 rh (txts (chainOf ns))) := hsh
    clear hb HX H4 HP4 SC4 c0 c1 c2 c3 c4 hrh hsh
    have HX : Hid (Calls Tryd.prog 16 _ _ _) := chain_any ns.length (.iface ru rx) ns w5 HP5.out (HT.out.below B5.out) HNL.out
    go_wp2_with fail
    go_at_call 16
    refine HX.out.mono ?_
    rintro e w6 ⟨lk, rfl, hlk, hb⟩
    have B6 : Hid (Below w.heap.size w w6) := bel2e B5.out hb
    have HP6 : Hid (Pre w6 ns.length (.iface ru rx) ns) := HP5.out.below hb
    have SC6 : Hid (Sees w6 rc (ms.map (Value.int .i64))) := SC5.out.below hb
    have SH6 : Hid (Sees w6 rh (txts (chainOf ns))) := SH5.out.below hb
    have SK6 : Hid (Sees w6 lk (txts (chainOf ns))) := hlk.sees
    clear hb HX B5 HP5 SC5 SH5 hlk
    have HX : Hid (Calls Tryd.prog 15 _ _ _) := texts_any lk rh ((chainOf ns).map txt) ((chainOf ns).map txt) w6 (by rw [← txts_strs]; exact SK6.out) (by rw [← txts_strs]; exact SH6.out)
    go_wp2_with fail
    go_at_call 15
    refine HX.out.mono ?_
    rintro e w7 ⟨rfl, hb⟩
    simp only [decide_true]
    have B7 : Hid (Below w.heap.size w w7) := bel2e B6.out hb
    have HP7 : Hid (Pre w7 ns.length (.iface ru rx) ns) := HP6.out.below hb
    have SC7 : Hid (Sees w7 rc (ms.map (Value.int .i64))) := SC6.out.below hb
    have SH7 : Hid (Sees w7 rh (txts (chainOf ns))) := SH6.out.below hb
    clear hb HX B6 HP6 SC6 SH6 SK6
    obtain ⟨co, cc, hrc, _, _, _, hcell⟩ := SC7.out
    rw [List.length_map] at hrc hcell
    subst hrc
    obtain ⟨mn, hmn⟩ : ∃ mn, ms.length = mn := ⟨_, rfl⟩
    rw [hmn] at hcell ⊢
    have HMN : Hid (ms.length = mn ∧ mn ≤ 300) := ⟨hmn, by rw [← hmn]; exact HML.out⟩
    have HCL : Hid (0 < mn → ∃ cb cf, co = some ⟨cb, cf, none⟩ ∧ cb < w7.heap.size ∧ ∀ (i : Nat) x, (ms.map (Value.int .i64))[i]? = some x → w7.cell? ⟨cb, cf + i, none⟩ = some x) := hcell
    have mm : (mn : Int) ≤ 300 := by have := HMN.out.2; omega
    clear hcell SC7
    rcases Nat.eq_zero_or_pos mn with h0 | h0
    · have HHD : Hid ((nums ns).headD 0 = 0) := by
        show _ = _
        rw [HNU.out, List.eq_nil_of_length_eq_zero (show ms.length = 0 by rw [hmn]; exact h0)]; rfl
      clear hmn
      subst h0
      rcases hch : chainOf ns with _ | ⟨⟨o1, p1⟩, l1⟩
      · have HCH : Hid (chainOf ns = []) := hch
        clear hch
        obtain ⟨ho, hc, hrh, _, _, _, _⟩ := SH7.out
        rw [HCH.out] at hrh
        have hrh2 : rh = .slice ho 0 hc := hrh
        subst hrh2
        clear hrh
        have HX : Hid (Calls Tryd.prog 17 _ _ _) := op_none ns.length (.iface ru rx) ns w7 HP7.out (HT.out.below B7.out) (HP7.out.bare HCH.out)
        go_wp2_with fail
        go_at_call 17
        refine HX.out.mono ?_
        rintro e w8 ⟨rfl, hb⟩
        have B8 : Hid (Below w.heap.size w w8) := bel2e B7.out hb
        have B78 : Hid (Below w7.heap.size w7 w8) := hb
        have HP8 : Hid (Pre w8 ns.length (.iface ru rx) ns) := HP7.out.below hb
        clear hb HX
        have HX : Hid (Calls Tryd.prog 18 _ _ _) := code_any ns.length (.iface ru rx) ns w8 HP8.out (HT.out.below B8.out)
        go_wp2_with fail
        go_at_call 18
        refine HX.out.mono ?_
        rintro e w9 ⟨rfl, hb⟩
        rw [HHD.out]
        have B9 : Hid (Below w.heap.size w w9) := bel2e B8.out hb
        have B79 : Hid (Below w7.heap.size w7 w9) := bel2e B78.out hb
        have HP9 : Hid (Pre w9 ns.length (.iface ru rx) ns) := HP8.out.below hb
        clear hb HX B8 B78 HP8 HP7
        have HCL9 : Hid (0 < 0 → ∃ cb cf, co = some ⟨cb, cf, none⟩ ∧ cb < w9.heap.size ∧ ∀ (i : Nat) x, (ms.map (Value.int .i64))[i]? = some x → w9.cell? ⟨cb, cf + i, none⟩ = some x) := fun h0 => by
          obtain ⟨cb, cf, e, h1, h2⟩ := HCL.out h0
          exact ⟨cb, cf, e, Nat.lt_of_lt_of_le h1 B79.out.size, fun i x hx => cell_old B79.out (h2 i x hx)⟩
        clear HCL
        have HCL := HCL9
        clear HCL9
        have ea := empty_add
        go_wp2
        go_loopw [12, 13, 14] (fun lst is i wr => ∃ k : Nat, k ≤ zs.length ∧ i = .int .i64 (k : Int) ∧ is = .bool (isUpTo ms zs k) ∧ Hid (RowV wr w9.heap.size 39 lst ((zs.take k).map (Value.int .i64)) ∧ Below w9.heap.size w9 wr)) (fun _ _ i _ => zs.length - (intOf i).toNat)
        case atStart => exact ⟨0, Nat.zero_le _, rfl, rfl, rowV_nil _ _ _, Below.refl _ _⟩
        case round =>
          obtain ⟨k, hk, rfl, rfl, HR⟩ := hrel
          obtain ⟨ib, hib⟩ : ∃ ib, isUpTo ms zs k = ib := ⟨_, rfl⟩
          rw [hib]
          have HIB : Hid (isUpTo ms zs k = ib) := hib
          clear hib
          by_cases hlt : k < zs.length
          · obtain ⟨b, off, hao, hbl, hc⟩ := HL.out (by omega)
            subst hao
            have c0 := ((bel2e B9.out HR.out.2).cell (by exact hbl)).trans (hc k (.int .i64 (zs.getD k 0)) (by simp [hlt, List.getD]))
            have HLC : Hid (b < w.heap.size ∧ w.cell? ⟨b, off + k, none⟩ = some (.int .i64 (zs.getD k 0))) := ⟨hbl, hc k _ (by simp [hlt, List.getD])⟩
            obtain ⟨z, hz⟩ : ∃ z, zs.getD k 0 = z := ⟨_, rfl⟩
            rw [hz] at c0
            have HZ : Hid (zs.getD k 0 = z) := hz
            have i0 : (k : Int) < (zs.length : Int) := by omega
            have i2 : (0 : Int) ≤ (k : Int) := by omega
            clear hc hbl hz
            have B1 : Hid (Below wr.heap.size wr (wr.alloc (.cells #[.int .i64 z] 39))) := (Below.refl _ _).alloc (Nat.le_refl _) _
            have S1 : Hid (Sees (wr.alloc (.cells #[.int .i64 z] 39)) (.slice (some ⟨wr.heap.size, 0, none⟩) 1 1) [.int .i64 z]) := sees_one _ _ _ _ rfl
            go_wp2_with (at_builtin; refine wpList_appV Tryd.underlying41 infoE rfl (by decide) rfl _ _ rfl w9.heap.size u12 _ rfl (HR.out.1.below B1.out) (.slice (some ⟨wr.heap.size, 0, none⟩) 1 1) _ rfl S1.out ?c1 ?c2 ?c3 ?_)
            case c1 => first | rfl | (intro y hy; simp at hy; subst hy; rfl)
            case c2 => simp; omega
            case c3 => have := HR.out.2.size; simp; omega
            intro l3 w3 hr hb3
            have HR3 : Hid (RowV w3 w9.heap.size 39 l3 ((zs.take (k + 1)).map (Value.int .i64)) ∧ Below w9.heap.size w9 w3) := ⟨by rw [take_map_step zs k hlt, HZ.out, List.map_take]; exact hr, (bel2e HR.out.2 B1.out).trans hb3⟩
            clear hr hb3 HR B1 S1 c0
            go_wp2
            go_loopw [13, 15] (fun is i wq => ∃ k2 : Nat, k2 ≤ 0 ∧ i = .int .i64 (k2 : Int) ∧ is = .bool (isPart z ms ib k2) ∧ Hid (RowV wq w9.heap.size 39 l3 ((zs.take (k + 1)).map (Value.int .i64)) ∧ Below w9.heap.size w9 wq)) (fun _ i _ => 0 - (intOf i).toNat)
            case atStart => exact ⟨0, Nat.zero_le _, rfl, by unfold isPart; simp, HR3.out⟩
            case round =>
              obtain ⟨k2, hk2, rfl, rfl, HQ⟩ := hrel
              clear HR3
              by_cases hlt2 : k2 < 0
              · omega
              · have hkl2 : k2 = 0 := by omega
                have HSU : Hid (isPart z ms ib k2 = isUpTo ms zs (k + 1)) := by
                  show _ = _
                  rw [isUpTo_step ms zs k hlt, HIB.out, HZ.out, hkl2, ← HMN.out.1, isPart_all]
                obtain ⟨bq, hbq⟩ : ∃ bq, isPart z ms ib k2 = bq := ⟨_, rfl⟩
                rw [hbq]
                rw [hbq] at HSU
                clear hbq
                subst hkl2
                go_wp2
                go_roundw
                case rel => exact ⟨k + 1, by omega, by simp, by rw [HSU.out], HQ.out⟩
                case measure => simp [intOf]; omega
          · have hkl : k = zs.length := by omega
            subst hkl
            have hse := HR.out.1.sees
            rw [List.take_length] at hse
            have HEQ : Hid ((zs.any fun c => hit c ns) = ib) := by
              show _ = _
              rw [← HIB.out, isUpTo_all, ← HNU.out]
              congr 1
              funext c
              exact hit_among c ns
            have HX : Hid (Calls Tryd.prog 19 _ _ _) := fis_any ns.length (.iface ru rx) u12 ns zs wr (HP9.out.below HR.out.2) hse
            have BX : Hid (Below w.heap.size w wr) := bel2e B9.out HR.out.2
            clear hse HR HIB
            go_wp2_with fail
            go_at_call 19
            refine HX.out.mono ?_
            rintro e w10 ⟨rfl, hb⟩
            rw [HEQ.out]
            have B10 : Hid (Below w.heap.size w w10) := bel2e BX.out hb
            clear hb HX BX HEQ
            have HX : Hid (Calls Tryd.prog 10 _ _ _) := awake_any w10 (HT.out.below B10.out)
            go_wp2_with fail
            go_at_call 10
            refine HX.out.mono ?_
            rintro e wz ⟨rfl, hb⟩
            have HZ : Hid (Below w.heap.size w wz) := bel2e B10.out hb
            clear hb HX
            go_wp2
            go_ret
            exact ⟨rfl, HZ.out⟩
      · have HCH : Hid (chainOf ns = (o1, p1) :: l1) := hch
        have HSM : Hid (o1.size ≤ 1000 ∧ p1.size ≤ 1000) := HP7.out.small hch
        clear hch
        obtain ⟨ho, hc, hrh, _, _, _, hhc⟩ := SH7.out
        obtain ⟨cn, hcn⟩ : ∃ cn, (txts (chainOf ns)).length = cn := ⟨_, rfl⟩
        have hcp : 0 < cn := by rw [← hcn, txts_len, HCH.out]; simp
        rw [hcn] at hrh hhc
        subst hrh
        obtain ⟨hb1, hf1, hho, hbl1, hcl1⟩ := hhc hcp
        subst hho
        have d0 := hcl1 0 (.string (o1 ++ ⟨#[32]⟩ ++ p1)) (by rw [HCH.out]; rfl)
        rw [Nat.add_zero] at d0
        have HD0 : Hid (w7.cell? ⟨hb1, hf1, none⟩ = some (.string (o1 ++ ⟨#[32]⟩ ++ p1))) := d0
        have dn : (0 : Int) < (cn : Int) := by omega
        clear hcl1 hbl1 hhc hcn hcp d0
        have HX : Hid (Calls Tryd.prog 17 _ _ _) := op_some ns.length (.iface ru rx) ns w7 HP7.out (HT.out.below B7.out) o1 p1 l1 HCH.out
        go_wp2_with fail
        go_at_call 17
        refine HX.out.mono ?_
        rintro e w8 ⟨rfl, hb⟩
        have B8 : Hid (Below w.heap.size w w8) := bel2e B7.out hb
        have B78 : Hid (Below w7.heap.size w7 w8) := hb
        have HP8 : Hid (Pre w8 ns.length (.iface ru rx) ns) := HP7.out.below hb
        clear hb HX
        have HX : Hid (Calls Tryd.prog 18 _ _ _) := code_any ns.length (.iface ru rx) ns w8 HP8.out (HT.out.below B8.out)
        go_wp2_with fail
        go_at_call 18
        refine HX.out.mono ?_
        rintro e w9 ⟨rfl, hb⟩
        rw [HHD.out]
        have B9 : Hid (Below w.heap.size w w9) := bel2e B8.out hb
        have B79 : Hid (Below w7.heap.size w7 w9) := bel2e B78.out hb
        have HP9 : Hid (Pre w9 ns.length (.iface ru rx) ns) := HP8.out.below hb
        clear hb HX B8 B78 HP8 HP7
        have HCL9 : Hid (0 < 0 → ∃ cb cf, co = some ⟨cb, cf, none⟩ ∧ cb < w9.heap.size ∧ ∀ (i : Nat) x, (ms.map (Value.int .i64))[i]? = some x → w9.cell? ⟨cb, cf + i, none⟩ = some x) := fun h0 => by
          obtain ⟨cb, cf, e, h1, h2⟩ := HCL.out h0
          exact ⟨cb, cf, e, Nat.lt_of_lt_of_le h1 B79.out.size, fun i x hx => cell_old B79.out (h2 i x hx)⟩
        clear HCL
        have HCL := HCL9
        clear HCL9
        have d1 := cell_old B79.out HD0.out
        have s0 := HSM.out.1
        have s1 := HSM.out.2
        go_wp2
        go_loopw [12, 13, 14] (fun lst is i wr => ∃ k : Nat, k ≤ zs.length ∧ i = .int .i64 (k : Int) ∧ is = .bool (isUpTo ms zs k) ∧ Hid (RowV wr w9.heap.size 39 lst ((zs.take k).map (Value.int .i64)) ∧ Below w9.heap.size w9 wr)) (fun _ _ i _ => zs.length - (intOf i).toNat)
        case atStart => exact ⟨0, Nat.zero_le _, rfl, rfl, rowV_nil _ _ _, Below.refl _ _⟩
        case round =>
          obtain ⟨k, hk, rfl, rfl, HR⟩ := hrel
          obtain ⟨ib, hib⟩ : ∃ ib, isUpTo ms zs k = ib := ⟨_, rfl⟩
          rw [hib]
          have HIB : Hid (isUpTo ms zs k = ib) := hib
          clear hib
          by_cases hlt : k < zs.length
          · obtain ⟨b, off, hao, hbl, hc⟩ := HL.out (by omega)
            subst hao
            have c0 := ((bel2e B9.out HR.out.2).cell (by exact hbl)).trans (hc k (.int .i64 (zs.getD k 0)) (by simp [hlt, List.getD]))
            have HLC : Hid (b < w.heap.size ∧ w.cell? ⟨b, off + k, none⟩ = some (.int .i64 (zs.getD k 0))) := ⟨hbl, hc k _ (by simp [hlt, List.getD])⟩
            obtain ⟨z, hz⟩ : ∃ z, zs.getD k 0 = z := ⟨_, rfl⟩
            rw [hz] at c0
            have HZ : Hid (zs.getD k 0 = z) := hz
            have i0 : (k : Int) < (zs.length : Int) := by omega
            have i2 : (0 : Int) ≤ (k : Int) := by omega
            clear hc hbl hz
            have B1 : Hid (Below wr.heap.size wr (wr.alloc (.cells #[.int .i64 z] 39))) := (Below.refl _ _).alloc (Nat.le_refl _) _
            have S1 : Hid (Sees (wr.alloc (.cells #[.int .i64 z] 39)) (.slice (some ⟨wr.heap.size, 0, none⟩) 1 1) [.int .i64 z]) := sees_one _ _ _ _ rfl
            go_wp2_with (at_builtin; refine wpList_appV Tryd.underlying41 infoE rfl (by decide) rfl _ _ rfl w9.heap.size u12 _ rfl (HR.out.1.below B1.out) (.slice (some ⟨wr.heap.size, 0, none⟩) 1 1) _ rfl S1.out ?c1 ?c2 ?c3 ?_)
            case c1 => first | rfl | (intro y hy; simp at hy; subst hy; rfl)
            case c2 => simp; omega
            case c3 => have := HR.out.2.size; simp; omega
            intro l3 w3 hr hb3
            have HR3 : Hid (RowV w3 w9.heap.size 39 l3 ((zs.take (k + 1)).map (Value.int .i64)) ∧ Below w9.heap.size w9 w3) := ⟨by rw [take_map_step zs k hlt, HZ.out, List.map_take]; exact hr, (bel2e HR.out.2 B1.out).trans hb3⟩
            clear hr hb3 HR B1 S1 c0
            go_wp2
            go_loopw [13, 15] (fun is i wq => ∃ k2 : Nat, k2 ≤ 0 ∧ i = .int .i64 (k2 : Int) ∧ is = .bool (isPart z ms ib k2) ∧ Hid (RowV wq w9.heap.size 39 l3 ((zs.take (k + 1)).map (Value.int .i64)) ∧ Below w9.heap.size w9 wq)) (fun _ i _ => 0 - (intOf i).toNat)
            case atStart => exact ⟨0, Nat.zero_le _, rfl, by unfold isPart; simp, HR3.out⟩
            case round =>
              obtain ⟨k2, hk2, rfl, rfl, HQ⟩ := hrel
              clear HR3
              by_cases hlt2 : k2 < 0
              · omega
              · have hkl2 : k2 = 0 := by omega
                have HSU : Hid (isPart z ms ib k2 = isUpTo ms zs (k + 1)) := by
                  show _ = _
                  rw [isUpTo_step ms zs k hlt, HIB.out, HZ.out, hkl2, ← HMN.out.1, isPart_all]
                obtain ⟨bq, hbq⟩ : ∃ bq, isPart z ms ib k2 = bq := ⟨_, rfl⟩
                rw [hbq]
                rw [hbq] at HSU
                clear hbq
                subst hkl2
                go_wp2
                go_roundw
                case rel => exact ⟨k + 1, by omega, by simp, by rw [HSU.out], HQ.out⟩
                case measure => simp [intOf]; omega
          · have hkl : k = zs.length := by omega
            subst hkl
            have hse := HR.out.1.sees
            rw [List.take_length] at hse
            have HEQ : Hid ((zs.any fun c => hit c ns) = ib) := by
              show _ = _
              rw [← HIB.out, isUpTo_all, ← HNU.out]
              congr 1
              funext c
              exact hit_among c ns
            have HX : Hid (Calls Tryd.prog 19 _ _ _) := fis_any ns.length (.iface ru rx) u12 ns zs wr (HP9.out.below HR.out.2) hse
            have BX : Hid (Below w.heap.size w wr) := bel2e B9.out HR.out.2
            clear hse HR HIB
            go_wp2_with fail
            go_at_call 19
            refine HX.out.mono ?_
            rintro e w10 ⟨rfl, hb⟩
            rw [HEQ.out]
            have B10 : Hid (Below w.heap.size w w10) := bel2e BX.out hb
            clear hb HX BX HEQ
            have HX : Hid (Calls Tryd.prog 10 _ _ _) := awake_any w10 (HT.out.below B10.out)
            go_wp2_with fail
            go_at_call 10
            refine HX.out.mono ?_
            rintro e wz ⟨rfl, hb⟩
            have HZ : Hid (Below w.heap.size w wz) := bel2e B10.out hb
            clear hb HX
            go_wp2
            go_ret
            exact ⟨rfl, HZ.out⟩
    · obtain ⟨cb0, cf0, hco, _, hcl⟩ := HCL.out h0
      subst hco
      obtain ⟨m0, mr, hmr⟩ : ∃ m0 mr, ms = m0 :: mr := by
        cases ms with
        | nil => simp at hmn; omega
        | cons p q => exact ⟨p, q, rfl⟩
      have HHD : Hid ((nums ns).headD 0 = m0) := by show _ = _; rw [HNU.out, hmr]; rfl
      have cz := hcl 0 (.int .i64 m0) (by rw [hmr]; rfl)
      rw [Nat.add_zero] at cz
      have zl : (0 : Int) < (mn : Int) := by omega
      clear hmn hcl hmr
      rcases hch : chainOf ns with _ | ⟨⟨o1, p1⟩, l1⟩
      · have HCH : Hid (chainOf ns = []) := hch
        clear hch
        obtain ⟨ho, hc, hrh, _, _, _, _⟩ := SH7.out
        rw [HCH.out] at hrh
        have hrh2 : rh = .slice ho 0 hc := hrh
        subst hrh2
        clear hrh
        have HX : Hid (Calls Tryd.prog 17 _ _ _) := op_none ns.length (.iface ru rx) ns w7 HP7.out (HT.out.below B7.out) (HP7.out.bare HCH.out)
        go_wp2_with fail
        go_at_call 17
        refine HX.out.mono ?_
        rintro e w8 ⟨rfl, hb⟩
        have B8 : Hid (Below w.heap.size w w8) := bel2e B7.out hb
        have B78 : Hid (Below w7.heap.size w7 w8) := hb
        have HP8 : Hid (Pre w8 ns.length (.iface ru rx) ns) := HP7.out.below hb
        clear hb HX
        have HX : Hid (Calls Tryd.prog 18 _ _ _) := code_any ns.length (.iface ru rx) ns w8 HP8.out (HT.out.below B8.out)
        go_wp2_with fail
        go_at_call 18
        refine HX.out.mono ?_
        rintro e w9 ⟨rfl, hb⟩
        rw [HHD.out]
        have B9 : Hid (Below w.heap.size w w9) := bel2e B8.out hb
        have B79 : Hid (Below w7.heap.size w7 w9) := bel2e B78.out hb
        have HP9 : Hid (Pre w9 ns.length (.iface ru rx) ns) := HP8.out.below hb
        clear hb HX B8 B78 HP8 HP7
        have HCL9 : Hid (0 < mn → ∃ cb cf, (some ⟨cb0, cf0, none⟩ : Option Addr) = some ⟨cb, cf, none⟩ ∧ cb < w9.heap.size ∧ ∀ (i : Nat) x, (ms.map (Value.int .i64))[i]? = some x → w9.cell? ⟨cb, cf + i, none⟩ = some x) := fun h0 => by
          obtain ⟨cb, cf, e, h1, h2⟩ := HCL.out h0
          exact ⟨cb, cf, e, Nat.lt_of_lt_of_le h1 B79.out.size, fun i x hx => cell_old B79.out (h2 i x hx)⟩
        clear HCL
        have HCL := HCL9
        clear HCL9
        have ea := empty_add
        go_wp2
        go_loopw [12, 13, 14] (fun lst is i wr => ∃ k : Nat, k ≤ zs.length ∧ i = .int .i64 (k : Int) ∧ is = .bool (isUpTo ms zs k) ∧ Hid (RowV wr w9.heap.size 39 lst ((zs.take k).map (Value.int .i64)) ∧ Below w9.heap.size w9 wr)) (fun _ _ i _ => zs.length - (intOf i).toNat)
        case atStart => exact ⟨0, Nat.zero_le _, rfl, rfl, rowV_nil _ _ _, Below.refl _ _⟩
        case round =>
          obtain ⟨k, hk, rfl, rfl, HR⟩ := hrel
          obtain ⟨ib, hib⟩ : ∃ ib, isUpTo ms zs k = ib := ⟨_, rfl⟩
          rw [hib]
          have HIB : Hid (isUpTo ms zs k = ib) := hib
          clear hib
          by_cases hlt : k < zs.length
          · obtain ⟨b, off, hao, hbl, hc⟩ := HL.out (by omega)
            subst hao
            have c0 := ((bel2e B9.out HR.out.2).cell (by exact hbl)).trans (hc k (.int .i64 (zs.getD k 0)) (by simp [hlt, List.getD]))
            have HLC : Hid (b < w.heap.size ∧ w.cell? ⟨b, off + k, none⟩ = some (.int .i64 (zs.getD k 0))) := ⟨hbl, hc k _ (by simp [hlt, List.getD])⟩
            obtain ⟨z, hz⟩ : ∃ z, zs.getD k 0 = z := ⟨_, rfl⟩
            rw [hz] at c0
            have HZ : Hid (zs.getD k 0 = z) := hz
            have i0 : (k : Int) < (zs.length : Int) := by omega
            have i2 : (0 : Int) ≤ (k : Int) := by omega
            clear hc hbl hz
            have B1 : Hid (Below wr.heap.size wr (wr.alloc (.cells #[.int .i64 z] 39))) := (Below.refl _ _).alloc (Nat.le_refl _) _
            have S1 : Hid (Sees (wr.alloc (.cells #[.int .i64 z] 39)) (.slice (some ⟨wr.heap.size, 0, none⟩) 1 1) [.int .i64 z]) := sees_one _ _ _ _ rfl
            go_wp2_with (at_builtin; refine wpList_appV Tryd.underlying41 infoE rfl (by decide) rfl _ _ rfl w9.heap.size u12 _ rfl (HR.out.1.below B1.out) (.slice (some ⟨wr.heap.size, 0, none⟩) 1 1) _ rfl S1.out ?c1 ?c2 ?c3 ?_)
            case c1 => first | rfl | (intro y hy; simp at hy; subst hy; rfl)
            case c2 => simp; omega
            case c3 => have := HR.out.2.size; simp; omega
            intro l3 w3 hr hb3
            have HR3 : Hid (RowV w3 w9.heap.size 39 l3 ((zs.take (k + 1)).map (Value.int .i64)) ∧ Below w9.heap.size w9 w3) := ⟨by rw [take_map_step zs k hlt, HZ.out, List.map_take]; exact hr, (bel2e HR.out.2 B1.out).trans hb3⟩
            clear hr hb3 HR B1 S1 c0
            go_wp2
            go_loopw [13, 15] (fun is i wq => ∃ k2 : Nat, k2 ≤ mn ∧ i = .int .i64 (k2 : Int) ∧ is = .bool (isPart z ms ib k2) ∧ Hid (RowV wq w9.heap.size 39 l3 ((zs.take (k + 1)).map (Value.int .i64)) ∧ Below w9.heap.size w9 wq)) (fun _ i _ => mn - (intOf i).toNat)
            case atStart => exact ⟨0, Nat.zero_le _, rfl, by unfold isPart; simp, HR3.out⟩
            case round =>
              obtain ⟨k2, hk2, rfl, rfl, HQ⟩ := hrel
              clear HR3
              by_cases hlt2 : k2 < mn
              · obtain ⟨cb2, cf2, hce, hcb, hcl⟩ := HCL.out (by omega)
                cases hce
                have h3 : k2 < ms.length := by have := HMN.out.1; omega
                have e1 := (HQ.out.2.cell (by exact hcb)).trans (hcl k2 (.int .i64 (ms.getD k2 0)) (by simp [h3, List.getD]))
                have e2 := ((bel2e B9.out HQ.out.2).cell (by exact HLC.out.1)).trans HLC.out.2
                rw [HZ.out] at e2
                obtain ⟨m, hm⟩ : ∃ m, ms.getD k2 0 = m := ⟨_, rfl⟩
                rw [hm] at e1
                obtain ⟨bv, hbv⟩ : ∃ bv, isPart z ms ib k2 = bv := ⟨_, rfl⟩
                rw [hbv]
                have HST : Hid (isPart z ms ib (k2 + 1) = (bv || (m == z))) := by show _ = _; rw [isPart_step z ms ib k2 h3, hbv, hm]
                have j0 : (k2 : Int) < (mn : Int) := by omega
                have j2 : (0 : Int) ≤ (k2 : Int) := by omega
                clear hcl hcb hm hbv h3
                cases bv with
                | true =>
                  have HSV : Hid (isPart z ms ib (k2 + 1) = true) := HST.out
                  go_wp2
                  go_quiet (fail)
                  go_wp2
                  go_roundw
                  case rel => exact ⟨k2 + 1, by omega, by simp, by rw [HSV.out], HQ.out.1, bel_drewN HQ.out.2 _⟩
                  case measure => simp [intOf]; omega
                | false =>
                  rcases hmz : (m == z) with _ | _
                  · have HSV : Hid (isPart z ms ib (k2 + 1) = false) := by show _ = _; rw [HST.out, hmz]; rfl
                    have hmz2 : (m == z) = false := hmz
                    clear hmz
                    go_wp2
                    go_quiet (fail)
                    go_wp2
                    go_roundw
                    case rel => exact ⟨k2 + 1, by omega, by simp, by rw [HSV.out], HQ.out.1, bel_drewN HQ.out.2 _⟩
                    case measure => simp [intOf]; omega
                  · have HSV : Hid (isPart z ms ib (k2 + 1) = true) := by show _ = _; rw [HST.out, hmz]; rfl
                    have hmz2 : (m == z) = true := hmz
                    clear hmz
                    go_wp2
                    go_quiet (fail)
                    go_wp2
                    go_roundw
                    case rel => exact ⟨k2 + 1, by omega, by simp, by rw [HSV.out], HQ.out.1, bel_drewN HQ.out.2 _⟩
                    case measure => simp [intOf]; omega
              · have hkl2 : k2 = mn := by omega
                have HSU : Hid (isPart z ms ib k2 = isUpTo ms zs (k + 1)) := by
                  show _ = _
                  rw [isUpTo_step ms zs k hlt, HIB.out, HZ.out, hkl2, ← HMN.out.1, isPart_all]
                obtain ⟨bq, hbq⟩ : ∃ bq, isPart z ms ib k2 = bq := ⟨_, rfl⟩
                rw [hbq]
                rw [hbq] at HSU
                clear hbq
                subst hkl2
                go_wp2
                go_roundw
                case rel => exact ⟨k + 1, by omega, by simp, by rw [HSU.out], HQ.out⟩
                case measure => simp [intOf]; omega
          · have hkl : k = zs.length := by omega
            subst hkl
            have hse := HR.out.1.sees
            rw [List.take_length] at hse
            have HEQ : Hid ((zs.any fun c => hit c ns) = ib) := by
              show _ = _
              rw [← HIB.out, isUpTo_all, ← HNU.out]
              congr 1
              funext c
              exact hit_among c ns
            have HX : Hid (Calls Tryd.prog 19 _ _ _) := fis_any ns.length (.iface ru rx) u12 ns zs wr (HP9.out.below HR.out.2) hse
            have BX : Hid (Below w.heap.size w wr) := bel2e B9.out HR.out.2
            clear hse HR HIB
            go_wp2_with fail
            go_at_call 19
            refine HX.out.mono ?_
            rintro e w10 ⟨rfl, hb⟩
            rw [HEQ.out]
            have B10 : Hid (Below w.heap.size w w10) := bel2e BX.out hb
            clear hb HX BX HEQ
            have HX : Hid (Calls Tryd.prog 10 _ _ _) := awake_any w10 (HT.out.below B10.out)
            go_wp2_with fail
            go_at_call 10
            refine HX.out.mono ?_
            rintro e wz ⟨rfl, hb⟩
            have HZ : Hid (Below w.heap.size w wz) := bel2e B10.out hb
            clear hb HX
            go_wp2
            go_ret
            exact ⟨rfl, HZ.out⟩
      · have HCH : Hid (chainOf ns = (o1, p1) :: l1) := hch
        have HSM : Hid (o1.size ≤ 1000 ∧ p1.size ≤ 1000) := HP7.out.small hch
        clear hch
        obtain ⟨ho, hc, hrh, _, _, _, hhc⟩ := SH7.out
        obtain ⟨cn, hcn⟩ : ∃ cn, (txts (chainOf ns)).length = cn := ⟨_, rfl⟩
        have hcp : 0 < cn := by rw [← hcn, txts_len, HCH.out]; simp
        rw [hcn] at hrh hhc
        subst hrh
        obtain ⟨hb1, hf1, hho, hbl1, hcl1⟩ := hhc hcp
        subst hho
        have d0 := hcl1 0 (.string (o1 ++ ⟨#[32]⟩ ++ p1)) (by rw [HCH.out]; rfl)
        rw [Nat.add_zero] at d0
        have HD0 : Hid (w7.cell? ⟨hb1, hf1, none⟩ = some (.string (o1 ++ ⟨#[32]⟩ ++ p1))) := d0
        have dn : (0 : Int) < (cn : Int) := by omega
        clear hcl1 hbl1 hhc hcn hcp d0
        have HX : Hid (Calls Tryd.prog 17 _ _ _) := op_some ns.length (.iface ru rx) ns w7 HP7.out (HT.out.below B7.out) o1 p1 l1 HCH.out
        go_wp2_with fail
        go_at_call 17
        refine HX.out.mono ?_
        rintro e w8 ⟨rfl, hb⟩
        have B8 : Hid (Below w.heap.size w w8) := bel2e B7.out hb
        have B78 : Hid (Below w7.heap.size w7 w8) := hb
        have HP8 : Hid (Pre w8 ns.length (.iface ru rx) ns) := HP7.out.below hb
        clear hb HX
        have HX : Hid (Calls Tryd.prog 18 _ _ _) := code_any ns.length (.iface ru rx) ns w8 HP8.out (HT.out.below B8.out)
        go_wp2_with fail
        go_at_call 18
        refine HX.out.mono ?_
        rintro e w9 ⟨rfl, hb⟩
        rw [HHD.out]
        have B9 : Hid (Below w.heap.size w w9) := bel2e B8.out hb
        have B79 : Hid (Below w7.heap.size w7 w9) := bel2e B78.out hb
        have HP9 : Hid (Pre w9 ns.length (.iface ru rx) ns) := HP8.out.below hb
        clear hb HX B8 B78 HP8 HP7
        have HCL9 : Hid (0 < mn → ∃ cb cf, (some ⟨cb0, cf0, none⟩ : Option Addr) = some ⟨cb, cf, none⟩ ∧ cb < w9.heap.size ∧ ∀ (i : Nat) x, (ms.map (Value.int .i64))[i]? = some x → w9.cell? ⟨cb, cf + i, none⟩ = some x) := fun h0 => by
          obtain ⟨cb, cf, e, h1, h2⟩ := HCL.out h0
          exact ⟨cb, cf, e, Nat.lt_of_lt_of_le h1 B79.out.size, fun i x hx => cell_old B79.out (h2 i x hx)⟩
        clear HCL
        have HCL := HCL9
        clear HCL9
        have d1 := cell_old B79.out HD0.out
        have s0 := HSM.out.1
        have s1 := HSM.out.2
        go_wp2
        go_loopw [12, 13, 14] (fun lst is i wr => ∃ k : Nat, k ≤ zs.length ∧ i = .int .i64 (k : Int) ∧ is = .bool (isUpTo ms zs k) ∧ Hid (RowV wr w9.heap.size 39 lst ((zs.take k).map (Value.int .i64)) ∧ Below w9.heap.size w9 wr)) (fun _ _ i _ => zs.length - (intOf i).toNat)
        case atStart => exact ⟨0, Nat.zero_le _, rfl, rfl, rowV_nil _ _ _, Below.refl _ _⟩
        case round =>
          obtain ⟨k, hk, rfl, rfl, HR⟩ := hrel
          obtain ⟨ib, hib⟩ : ∃ ib, isUpTo ms zs k = ib := ⟨_, rfl⟩
          rw [hib]
          have HIB : Hid (isUpTo ms zs k = ib) := hib
          clear hib
          by_cases hlt : k < zs.length
          · obtain ⟨b, off, hao, hbl, hc⟩ := HL.out (by omega)
            subst hao
            have c0 := ((bel2e B9.out HR.out.2).cell (by exact hbl)).trans (hc k (.int .i64 (zs.getD k 0)) (by simp [hlt, List.getD]))
            have HLC : Hid (b < w.heap.size ∧ w.cell? ⟨b, off + k, none⟩ = some (.int .i64 (zs.getD k 0))) := ⟨hbl, hc k _ (by simp [hlt, List.getD])⟩
            obtain ⟨z, hz⟩ : ∃ z, zs.getD k 0 = z := ⟨_, rfl⟩
            rw [hz] at c0
            have HZ : Hid (zs.getD k 0 = z) := hz
            have i0 : (k : Int) < (zs.length : Int) := by omega
            have i2 : (0 : Int) ≤ (k : Int) := by omega
            clear hc hbl hz
            have B1 : Hid (Below wr.heap.size wr (wr.alloc (.cells #[.int .i64 z] 39))) := (Below.refl _ _).alloc (Nat.le_refl _) _
            have S1 : Hid (Sees (wr.alloc (.cells #[.int .i64 z] 39)) (.slice (some ⟨wr.heap.size, 0, none⟩) 1 1) [.int .i64 z]) := sees_one _ _ _ _ rfl
            go_wp2_with (at_builtin; refine wpList_appV Tryd.underlying41 infoE rfl (by decide) rfl _ _ rfl w9.heap.size u12 _ rfl (HR.out.1.below B1.out) (.slice (some ⟨wr.heap.size, 0, none⟩) 1 1) _ rfl S1.out ?c1 ?c2 ?c3 ?_)
            case c1 => first | rfl | (intro y hy; simp at hy; subst hy; rfl)
            case c2 => simp; omega
            case c3 => have := HR.out.2.size; simp; omega
            intro l3 w3 hr hb3
            have HR3 : Hid (RowV w3 w9.heap.size 39 l3 ((zs.take (k + 1)).map (Value.int .i64)) ∧ Below w9.heap.size w9 w3) := ⟨by rw [take_map_step zs k hlt, HZ.out, List.map_take]; exact hr, (bel2e HR.out.2 B1.out).trans hb3⟩
            clear hr hb3 HR B1 S1 c0
            go_wp2
            go_loopw [13, 15] (fun is i wq => ∃ k2 : Nat, k2 ≤ mn ∧ i = .int .i64 (k2 : Int) ∧ is = .bool (isPart z ms ib k2) ∧ Hid (RowV wq w9.heap.size 39 l3 ((zs.take (k + 1)).map (Value.int .i64)) ∧ Below w9.heap.size w9 wq)) (fun _ i _ => mn - (intOf i).toNat)
            case atStart => exact ⟨0, Nat.zero_le _, rfl, by unfold isPart; simp, HR3.out⟩
            case round =>
              obtain ⟨k2, hk2, rfl, rfl, HQ⟩ := hrel
              clear HR3
              by_cases hlt2 : k2 < mn
              · obtain ⟨cb2, cf2, hce, hcb, hcl⟩ := HCL.out (by omega)
                cases hce
                have h3 : k2 < ms.length := by have := HMN.out.1; omega
                have e1 := (HQ.out.2.cell (by exact hcb)).trans (hcl k2 (.int .i64 (ms.getD k2 0)) (by simp [h3, List.getD]))
                have e2 := ((bel2e B9.out HQ.out.2).cell (by exact HLC.out.1)).trans HLC.out.2
                rw [HZ.out] at e2
                obtain ⟨m, hm⟩ : ∃ m, ms.getD k2 0 = m := ⟨_, rfl⟩
                rw [hm] at e1
                obtain ⟨bv, hbv⟩ : ∃ bv, isPart z ms ib k2 = bv := ⟨_, rfl⟩
                rw [hbv]
                have HST : Hid (isPart z ms ib (k2 + 1) = (bv || (m == z))) := by show _ = _; rw [isPart_step z ms ib k2 h3, hbv, hm]
                have j0 : (k2 : Int) < (mn : Int) := by omega
                have j2 : (0 : Int) ≤ (k2 : Int) := by omega
                clear hcl hcb hm hbv h3
                cases bv with
                | true =>
                  have HSV : Hid (isPart z ms ib (k2 + 1) = true) := HST.out
                  go_wp2
                  go_quiet (fail)
                  go_wp2
                  go_roundw
                  case rel => exact ⟨k2 + 1, by omega, by simp, by rw [HSV.out], HQ.out.1, bel_drewN HQ.out.2 _⟩
                  case measure => simp [intOf]; omega
                | false =>
                  rcases hmz : (m == z) with _ | _
                  · have HSV : Hid (isPart z ms ib (k2 + 1) = false) := by show _ = _; rw [HST.out, hmz]; rfl
                    have hmz2 : (m == z) = false := hmz
                    clear hmz
                    go_wp2
                    go_quiet (fail)
                    go_wp2
                    go_roundw
                    case rel => exact ⟨k2 + 1, by omega, by simp, by rw [HSV.out], HQ.out.1, bel_drewN HQ.out.2 _⟩
                    case measure => simp [intOf]; omega
                  · have HSV : Hid (isPart z ms ib (k2 + 1) = true) := by show _ = _; rw [HST.out, hmz]; rfl
                    have hmz2 : (m == z) = true := hmz
                    clear hmz
                    go_wp2
                    go_quiet (fail)
                    go_wp2
                    go_roundw
                    case rel => exact ⟨k2 + 1, by omega, by simp, by rw [HSV.out], HQ.out.1, bel_drewN HQ.out.2 _⟩
                    case measure => simp [intOf]; omega
              · have hkl2 : k2 = mn := by omega
                have HSU : Hid (isPart z ms ib k2 = isUpTo ms zs (k + 1)) := by
                  show _ = _
                  rw [isUpTo_step ms zs k hlt, HIB.out, HZ.out, hkl2, ← HMN.out.1, isPart_all]
                obtain ⟨bq, hbq⟩ : ∃ bq, isPart z ms ib k2 = bq := ⟨_, rfl⟩
                rw [hbq]
                rw [hbq] at HSU
                clear hbq
                subst hkl2
                go_wp2
                go_roundw
                case rel => exact ⟨k + 1, by omega, by simp, by rw [HSU.out], HQ.out⟩
                case measure => simp [intOf]; omega
          · have hkl : k = zs.length := by omega
            subst hkl
            have hse := HR.out.1.sees
            rw [List.take_length] at hse
            have HEQ : Hid ((zs.any fun c => hit c ns) = ib) := by
              show _ = _
              rw [← HIB.out, isUpTo_all, ← HNU.out]
              congr 1
              funext c
              exact hit_among c ns
            have HX : Hid (Calls Tryd.prog 19 _ _ _) := fis_any ns.length (.iface ru rx) u12 ns zs wr (HP9.out.below HR.out.2) hse
            have BX : Hid (Below w.heap.size w wr) := bel2e B9.out HR.out.2
            clear hse HR HIB
            go_wp2_with fail
            go_at_call 19
            refine HX.out.mono ?_
            rintro e w10 ⟨rfl, hb⟩
            rw [HEQ.out]
            have B10 : Hid (Below w.heap.size w w10) := bel2e BX.out hb
            clear hb HX BX HEQ
            have HX : Hid (Calls Tryd.prog 10 _ _ _) := awake_any w10 (HT.out.below B10.out)
            go_wp2_with fail
            go_at_call 10
            refine HX.out.mono ?_
            rintro e wz ⟨rfl, hb⟩
            have HZ : Hid (Below w.heap.size w wz) := bel2e B10.out hb
            clear hb HX
            go_wp2
            go_ret
            exact ⟨rfl, HZ.out⟩
theorem walk (n : Nat) (v : Value) (t : Tr n) (x : Value) (zs : List Int) (w : World) (hm : MoldAt w n v t) (hx : Sees w x (zs.map (Value.int .i64))) (hT : Tied w) :
    Calls Tryd.prog 3 #[v, x] w fun e w' => e = .returned (.bool true) ∧ Below w.heap.size w w' := by
  obtain ⟨ao, cap, rfl, h1, h2, h3, h4⟩ := hx
  simp only [List.length_map] at *
  exact walk0 n v t ao zs cap w hm h4 hT

/-! The row's step. -/
set_option maxRecDepth 100000 in
theorem lifted (os : Os) (started : os.Started) (H : Type) (enc : TypeId × Value → H) :
    ReturnsInHanded {} Tryd.checked os 3 .any (fun w args => (Rows.faultAsksSpec.pre enc Tryd.prog Tryd.f3 [] false w args ∧ laidMetH Tryd.prog laid1 w) ∧ sizedMet enc Tryd.prog Tryd.f3 (OpenSpec.ofChange Rows.faultAsksSpec) false w args)
      (Rows.faultAsksSpec.post enc Tryd.prog Tryd.f3 false true false false) := by
  refine returnsInHanded_of_change_and (C := Tryd.checked) (X := fun w _ => laidMetH Tryd.prog laid1 w) (fun _ _ _ hh h => h.of_heap hh) own started (by kernel_rfl) Tryd.func3
    (ChangeSpec.witness_shaped (enc := enc) (C := Tryd.checked) (os := os) (X := fun w _ => laidMetH Tryd.prog laid1 w) false (World.doorLaid Tryd.prog 16 os) #[.agg #[.int .i64 0, .int .i64 0, .string ⟨#[]⟩, .string ⟨#[]⟩, .slice none 0 0], .slice none 0 0] 8 rfl (World.shaped_of_RefB (by kernel_rfl) (by kernel_rfl)) (by kernel_rfl) (by kernel_rfl) (by kernel_rfl) (door_met os _)) ?_
  intro W base args ds gs before hval0 hW hcnd hsz hL _
  have hval : ∀ (j : Nat) t v, Tryd.f3.params[j]? = some t → args[j]? = some v → Value.okWide Tryd.prog W .any base t v := hval0
  have hW' := hW
  obtain ⟨p, q, hA0, hV, rfl, hfz, hnd⟩ := hW
  have hA : DataW.TrodAll enc Tryd.prog W 0 (fun _ => true) true Tryd.f3.params.toList args.toList ds p := hA0
  rw [Tryd.params3] at hA hval
  obtain ⟨v0, vs0, d0, ds0, p0, q0, hargs, rfl, rfl, h0, r0⟩ := trodAll_cons hA
  obtain ⟨v1, vs1, d1, ds1, p1, q1, rfl, rfl, rfl, h1, r1⟩ := trodAll_cons r0
  obtain ⟨rfl, rfl, rfl⟩ := trodAll_nil r1
  obtain rfl : args = #[v0, v1] := by cases args; simp_all
  obtain ⟨rfl, rfl⟩ := trodVars_none hV
  have k0 := h0
  have lt0 : ∀ x ∈ p0, x.block < W.heap.size := by obtain ⟨m, hm⟩ := k0; exact DataW.trod_lt m _ _ _ hm
  obtain ⟨n0, t0, w0⟩ : ∃ (n : Nat) (t : Tr n), MoldAt W n v0 t := by
    obtain ⟨fuel, hf⟩ := h0
    exact mold_arg hf
  obtain ⟨a1, len1, cap1, rfl⟩ := okWide_slice Tryd.underlying25 (hval 1 25 v1 rfl rfl)
  have k1 := h1
  have lt1 : ∀ x ∈ p1, x.block < W.heap.size := by obtain ⟨m, hm⟩ := k1; exact DataW.trod_lt m _ _ _ hm
  obtain ⟨z1, w1⟩ : ∃ bs : List Int, Sees W (.slice a1 len1 cap1) (bs.map (Value.int .i64)) ∧ ∀ z ∈ bs, (Lit.int .i64 z).wf = true := by
    obtain ⟨fuel, hf⟩ := h1
    exact ints_of Tryd.underlying25 Tryd.underlying3 (by kernel_rfl) hf
  clear hA0 hval0
  refine (walk n0 v0 t0 _ z1 W w0 w1.1 (tied_of_laid hL)).mono fun e W' ⟨he, bel⟩ => ?_
  subst he
  exact ⟨_, rfl, _, _, _, [], _, [], hW', trodAll_mk1 (shut_bool Tryd.underlying4 _), (trodAll_cons_mk (Below.trod laidOut (by kernel_rfl) (of_decide_eq_true (by kernel_rfl)) k0 bel lt0) (trodAll_cons_mk (Below.trod laidOut (by kernel_rfl) (of_decide_eq_true (by kernel_rfl)) k1 bel lt1) trodAll_mk0)), rfl, bel.frame _, fun h => by cases h⟩

theorem over : Rows.faultAsksRow.holds Tryd.pinned (OpenSpec.ofChange Rows.faultAsksSpec) :=
  OpenClaim.holds_of_wide 3 Tryd.f3 rfl rfl rfl rfl rfl rfl rfl ⟨rfl, rfl, rfl, rfl, rfl⟩ rfl rfl rfl rfl rfl (by kernel_rfl) Tryd.func3 (by kernel_rfl)
    (of_decide_eq_true (by kernel_rfl)) (by unfold Func.isWrapper; first | (rw [if_pos (by decide +kernel)]; kernel_rfl) | (rw [if_neg (by decide +kernel)]; exact ⟨rfl, rfl⟩))
    (fun os started H enc _ => lifted os started H enc)

/-- The card, tied. -/
theorem proved : Rows.FaultAsksCardSaid :=
  Claim7.holds_tied_plain_at .later [] [.handle] true (true, "a2a5e8d745dccc1ea1945e6c68f635ba049041312b0aa45080a4b6eb55ba1ec7") true
    over (fun _ h => by cases h) (by kernel_rfl) (fun _ h => by cases h) faultAsks_row_tie rfl ⟨rfl, rfl⟩ (by kernel_rfl) rfl
    (fun f fn hf hfn => by
      obtain rfl : f = 3 := Option.some.inj ((show Tryd.prog.funcNamed Rows.faultAsksRow.func = some 3 by kernel_rfl).symm.trans hf) |>.symm
      obtain rfl : fn = Tryd.f3 := (Option.some.inj (Tryd.func3.symm.trans hfn)).symm
      exact ⟨by kernel_rfl, fun j t ht => by
        rw [Tryd.params3] at ht
        have hm : t ∈ [24, 25] := by simpa using Array.mem_of_getElem? ht
        have hall : ([24, 25].all fun u => !Tryd.prog.wantsStandIn u) = true := by kernel_rfl
        exact (show Tryd.prog.wantsStandIn t = false by simpa using List.all_eq_true.1 hall t hm)⟩)
    (by kernel_rfl)
end Go.Proofs.YtlandjnhhcnbeaaDoor.faultAsks

namespace Go.Proofs.YtlandjnhhcnbeaaDoor
/-- THE STATEMENT. -/
theorem faultAsks_holds : Rows.FaultAsksCardSaid := faultAsks.proved
#print axioms faultAsks_holds
end Go.Proofs.YtlandjnhhcnbeaaDoor
