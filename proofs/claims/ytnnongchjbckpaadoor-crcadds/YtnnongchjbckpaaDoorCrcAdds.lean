/-
  Proved here: for every three rows of bytes the law CrcAdds returns true and leaves its arguments as they were: of rows as long as each other, put over each other bit by bit, the sum is their sums put over each other. The listed table is tied to the program text (the card). No condition besides.
-/
import Derived.Test.YtnnongchjbckpaaDoorRows
import Derived.Test.YtnnongchjbckpaaDoorTie
import Derived.Test.YtnnongchjbckpaaDoorCards
import Derived.Test.YtnnongchjbckpaaDoorDoor
import Derived.Test.YtnnongchjbckpaaDoorOver
import Derived.WalkKit
import Derived.ProofKit
import Derived.OpenShut
import Derived.ShutString
import Derived.ChangeOld
import Derived.Below
import Derived.SevenTiedAt
import Derived.RegionTactic
import Derived.ChangeAlike
import Derived.Deep.QuietTactic
import Derived.BigQuiet
namespace Go.Proofs.YtnnongchjbckpaaDoor.crcAdds
open Go.ChangeShapes Go.WideShapes Go.ChangeAt Go.RowKit Kit
set_option linter.unusedVariables false

theorem min4 (x y z u : Int) (w : World) : (Builtin.min_ #[3, 3, 3, 3] 3 #[.int .i64 x, .int .i64 y, .int .i64 z, .int .i64 u]).run Tryd.prog w = .ok (.int .i64 (min (min (min x y) z) u)) w := by
  have e : ∀ a b : Int, (if b < a then b else a) = min a b := fun a b => by split <;> omega
  simp [Builtin.min_, Builtin.min2, e]
theorem slice_parts {B : Nat} {w : World} {a : Option Addr} {len cap : Nat} {zs : List Int} (h : Vw B w .u8 (.slice a len cap) zs) (hz : 0 < zs.length) : ∃ b off, a = some ⟨b, off, none⟩ ∧ b < B ∧ ∀ i, i < zs.length → w.cell? ⟨b, off + i, none⟩ = some (.int .u8 (zs.getD i 0)) := by
  rcases h with ⟨rfl, _⟩ | ⟨_, b, off, c, he, h1, h2, h3, h4⟩
  · simp at hz
  · simp only [Value.slice.injEq] at he
    exact ⟨b, off, he.1, h3, h4⟩
theorem adds_sum (la lb lc : List Int) (h1 : la.length = lb.length) (h2 : lb.length = lc.length) (ia : bytesIn la) (ib : bytesIn lb) (ic : bytesIn lc) :
    bits .xor .u32 (bits .xor .u32 ((cOf (natB la) : Nat) : Int) ((cOf (natB lb) : Nat) : Int)) ((cOf (natB lc) : Nat) : Int) = ((cOf (natB (ovI la lb lc)) : Nat) : Int) := by
  have ha := cOf_lt _ (natB_bytes ia)
  have hb := cOf_lt _ (natB_bytes ib)
  have hc := cOf_lt _ (natB_bytes ic)
  rw [u32_xor_nat _ _ ha hb, u32_xor_nat _ _ (xor_lt (n := 32) ha hb) hc, ovI_nat, cOf_over _ _ _ (by simp [natB_len, h1]) (by simp [natB_len, h2])]
theorem take_getD (l : List Int) (n k : Nat) (h : k < n) : (l.take n).getD k 0 = l.getD k 0 := by simp [List.getD, h]
set_option maxRecDepth 4000 in
set_option maxHeartbeats 4000000 in
theorem tail_any (a0 a1 a2 : Option Addr) (len0 len1 len2 cap0 cap1 cap2 n : Nat) (l0 l1 l2 : List Int) (w : World) (V0 : Hid (Vw w.heap.size w .u8 (.slice a0 len0 cap0) l0)) (V1 : Hid (Vw w.heap.size w .u8 (.slice a1 len1 cap1) l1)) (V2 : Hid (Vw w.heap.size w .u8 (.slice a2 len2 cap2) l2))
    (I0 : Hid (bytesIn l0)) (I1 : Hid (bytesIn l1)) (I2 : Hid (bytesIn l2)) (L0 : Hid (l0.length = len0)) (L1 : Hid (l1.length = len1)) (L2 : Hid (l2.length = len2)) (c0 : len0 ≤ cap0) (c1 : len1 ≤ cap1) (c2 : len2 ≤ cap2) (d0 : (cap0 : Int) ≤ 9223372036854775807) (d1 : (cap1 : Int) ≤ 9223372036854775807) (d2 : (cap2 : Int) ≤ 9223372036854775807)
    (n0 : n ≤ len0) (n1 : n ≤ len1) (n2 : n ≤ len2) (n6 : n ≤ 600) (HM : Hid (min (min (min (len0 : Int) len1) len2) 600 = (n : Int))) (HT : Hid (Tab w)) :
    Calls Tryd.prog 6 #[.slice a0 len0 cap0, .slice a1 len1 cap1, .slice a2 len2 cap2] w fun e w' => e = .returned (.bool true) ∧ Below w.heap.size w w' := by
  have hp := HT.out.size
  obtain ⟨i0, hi, hz0, hz1, hz2⟩ := info_parts Tryd.info5
  have hmin : ∀ w, (Builtin.min_ #[3, 3, 3, 3] 3 #[.int .i64 (len0 : Int), .int .i64 (len1 : Int), .int .i64 (len2 : Int), .int .i64 600]).run Tryd.prog w = .ok (.int .i64 (n : Int)) w := fun w => by rw [min4, HM.out]
  have LA : Hid ((l0.take n).length = n) := by show _ = _; rw [List.length_take, L0.out]; omega
  have LB : Hid ((l1.take n).length = n) := by show _ = _; rw [List.length_take, L1.out]; omega
  have LC : Hid ((l2.take n).length = n) := by show _ = _; rw [List.length_take, L2.out]; omega
  have IA : Hid (bytesIn (l0.take n)) := bytesIn_take I0.out n
  have IB : Hid (bytesIn (l1.take n)) := bytesIn_take I1.out n
  have IC : Hid (bytesIn (l2.take n)) := bytesIn_take I2.out n
  have LO : Hid ((ovI (l0.take n) (l1.take n) (l2.take n)).length = n) := by show _ = _; rw [ovI_len _ _ _ (by rw [LA.out, LB.out]) (by rw [LB.out, LC.out]), LA.out]
  have BO : Hid (bytesIn (ovI (l0.take n) (l1.take n) (l2.take n))) := ovI_in _ _ _ (by rw [LA.out, LB.out]) (by rw [LB.out, LC.out]) IA.out IB.out IC.out
  have OA : Hid (∀ k, k < n → bits .xor .u8 (bits .xor .u8 (l0.getD k 0) (l1.getD k 0)) (l2.getD k 0) = (ovI (l0.take n) (l1.take n) (l2.take n)).getD k 0) := fun k hk => by
    have := ovI_at (l0.take n) (l1.take n) (l2.take n) (by rw [LA.out, LB.out]) (by rw [LB.out, LC.out]) k (by rw [LA.out]; exact hk) IA.out IB.out IC.out
    rw [take_getD _ _ _ hk, take_getD _ _ _ hk, take_getD _ _ _ hk] at this
    exact this
  have OS : Hid (_ = _) := adds_sum (l0.take n) (l1.take n) (l2.take n) (by rw [LA.out, LB.out]) (by rw [LB.out, LC.out]) IA.out IB.out IC.out
  have VA : Hid (Vw w.heap.size w .u8 (.slice a0 n cap0) (l0.take n)) := view_cut V0.out n (by rw [L0.out]; exact n0)
  have VB : Hid (Vw w.heap.size w .u8 (.slice a1 n cap1) (l1.take n)) := view_cut V1.out n (by rw [L1.out]; exact n1)
  have VC : Hid (Vw w.heap.size w .u8 (.slice a2 n cap2) (l2.take n)) := view_cut V2.out n (by rw [L2.out]; exact n2)
  generalize ovI (l0.take n) (l1.take n) (l2.take n) = O at LO BO OA OS
  have HI : Hid (_ ∧ _ ∧ _ ∧ _) := ⟨hi, hz0, hz1, hz2⟩
  clear hi hz0 hz1 hz2
  go_enter Tryd.func6, Tryd.ntmps6
  go_wp2_with (first | (at_make; refine wpList_make_full _ rfl _ _ 22 rfl w.heap.size 5 i0 (.int .u8 0) 1 Tryd.underlying22 HI.out.1 HI.out.2.1 HI.out.2.2.1 _ _ _ _ n rfl rfl rfl rfl (by rw [HI.out.2.2.2]; omega) (by unfold maxLen; omega) (Nat.le_refl _) ?_; intro w1 hown hgrow))
  have HR0 : Hid (Row w1 w.heap.size .u8 5 (.slice (some ⟨w.heap.size, 0, none⟩) n n) (part O 0) ∧ Below w.heap.size w w1) := by
    rw [part_zero, LO.out]
    exact ⟨made_bytes hown, (Below.refl _ _).grown hgrow (Nat.le_refl _) (by simp)⟩
  clear hown hgrow hmin
  go_loopw [9] (fun i wr => ∃ k : Nat, k ≤ n ∧ i = .int .i64 k ∧ Hid (Row wr w.heap.size .u8 5 (.slice (some ⟨w.heap.size, 0, none⟩) n n) (part O k) ∧ Below w.heap.size w wr)) (fun i _ => n - (intOf i).toNat)
  case atStart => exact ⟨0, by omega, rfl, HR0⟩
  case round =>
    obtain ⟨k, hk, rfl, HR⟩ := hrel
    clear HR0
    by_cases hlt : k < n
    · obtain ⟨b0, f0, e0, B0, C0⟩ := slice_parts V0.out (by rw [L0.out]; omega)
      obtain ⟨b1, f1, e1, B1, C1⟩ := slice_parts V1.out (by rw [L1.out]; omega)
      obtain ⟨b2, f2, e2, B2, C2⟩ := slice_parts V2.out (by rw [L2.out]; omega)
      subst e0 e1 e2
      have k0 := (HR.out.2.cell (p := ⟨b0, f0 + k, none⟩) B0).trans (C0 k (by rw [L0.out]; omega))
      have k1 := (HR.out.2.cell (p := ⟨b1, f1 + k, none⟩) B1).trans (C1 k (by rw [L1.out]; omega))
      have k2 := (HR.out.2.cell (p := ⟨b2, f2 + k, none⟩) B2).trans (C2 k (by rw [L2.out]; omega))
      have hcd := row_cell HR.out.1 (by rw [part_len _ _ (by rw [LO.out]; exact hk), LO.out]) k hlt
      have hfd := HR.out.1.frozen (by rw [part_len _ _ (by rw [LO.out]; exact hk), LO.out]) k
      have HO : Hid (_ = _) := OA.out k hlt
      have HS : Hid (Row (wr.drew.setCell ⟨w.heap.size, k, none⟩ (.int .u8 (O.getD k 0))) w.heap.size .u8 5 (.slice (some ⟨w.heap.size, 0, none⟩) n n) (part O (k + 1)) ∧ Below w.heap.size w (wr.drew.setCell ⟨w.heap.size, k, none⟩ (.int .u8 (O.getD k 0)))) := by
        have := Row.stored (show Row wr.drew w.heap.size .u8 5 (.slice (some ⟨w.heap.size, 0, none⟩) n n) (part O k) from World.ownsRow.drew HR.out.1) (by rw [part_len _ _ (by rw [LO.out]; exact hk), LO.out]) k (O.getD k 0)
        rw [part_set O k (by rw [LO.out]; exact hlt)] at this
        exact ⟨this, HR.out.2.drew.setCell (Nat.le_refl _) _⟩
      clear HR C0 C1 C2
      generalize (part O k).getD k 0 = old at hcd
      generalize l0.getD k 0 = x0 at *
      generalize l1.getD k 0 = x1 at *
      generalize l2.getD k 0 = x2 at *
      generalize O.getD k 0 = xo at *
      have i1 : (0 : Int) ≤ (k : Int) := by omega
      have i2 : (k : Int) < (n : Int) := by omega
      have j0 : (k : Int) < (len0 : Int) := by omega
      have j1 : (k : Int) < (len1 : Int) := by omega
      have j2 : (k : Int) < (len2 : Int) := by omega
      go_wp2
      go_region
      go_wp2
      go_roundw
      case rel => exact ⟨k + 1, by omega, by go_num, by rw [HO.out]; exact HS⟩
      case measure => simp [intOf]; omega
    · have hk2 : n = k := by omega
      subst hk2
      go_wp2_with fail
      have hne := ownW_nonempty wr
      have HVD : Hid (Vw wr.heap.size wr .u8 (.slice (some ⟨w.heap.size, 0, none⟩) n n) O) := by
        have := row_view HR.out.1
        have e := part_all O
        rw [LO.out] at e
        rw [e] at this
        exact this
      have TW : Hid (Tab wr) := HT.out.below HR.out.2 hp
      have CD : Hid (∀ m : OwnW wr, Calls Tryd.prog 11 #[.slice (some ⟨w.heap.size, 0, none⟩) n n] m.1 fun e w' => e = .returned (.int .u32 ((cOf (natB O) : Nat) : Int)) ∧ ∃ m' : OwnW wr, w' = m'.1) := fun m =>
        Calls.own_of (of_any _ O wr.heap.size m.1 (HVD.out.below m.2) m.2.size BO.out (TW.out.below m.2 TW.out.size))
      have CA : Hid (∀ m : OwnW wr, Calls Tryd.prog 11 #[.slice a0 n cap0] m.1 fun e w' => e = .returned (.int .u32 ((cOf (natB (l0.take n)) : Nat) : Int)) ∧ ∃ m' : OwnW wr, w' = m'.1) := fun m =>
        Calls.own_of (of_any _ _ w.heap.size m.1 (VA.out.below (bel2 HR.out.2 m.2)) (bel2 HR.out.2 m.2).size IA.out (TW.out.below m.2 TW.out.size))
      have CB : Hid (∀ m : OwnW wr, Calls Tryd.prog 11 #[.slice a1 n cap1] m.1 fun e w' => e = .returned (.int .u32 ((cOf (natB (l1.take n)) : Nat) : Int)) ∧ ∃ m' : OwnW wr, w' = m'.1) := fun m =>
        Calls.own_of (of_any _ _ w.heap.size m.1 (VB.out.below (bel2 HR.out.2 m.2)) (bel2 HR.out.2 m.2).size IB.out (TW.out.below m.2 TW.out.size))
      have CC : Hid (∀ m : OwnW wr, Calls Tryd.prog 11 #[.slice a2 n cap2] m.1 fun e w' => e = .returned (.int .u32 ((cOf (natB (l2.take n)) : Nat) : Int)) ∧ ∃ m' : OwnW wr, w' = m'.1) := fun m =>
        Calls.own_of (of_any _ _ w.heap.size m.1 (VC.out.below (bel2 HR.out.2 m.2)) (bel2 HR.out.2 m.2).size IC.out (TW.out.below m.2 TW.out.size))
      have CW : Hid (∀ m : OwnW wr, Calls Tryd.prog 8 #[] m.1 fun e w' => e = .returned (.bool true) ∧ ∃ m' : OwnW wr, w' = m'.1) := fun m =>
        Calls.own_of (awake_any m.1 (TW.out.below m.2 TW.out.size))
      have hx := OS.out
      clear OS OA VA VB VC IA IB IC LA LB LC BO
      generalize ((cOf (natB O) : Nat) : Int) = XD at hx CD
      generalize ((cOf (natB (l0.take n)) : Nat) : Int) = XA at hx CA
      generalize ((cOf (natB (l1.take n)) : Nat) : Int) = XB at hx CB
      generalize ((cOf (natB (l2.take n)) : Nat) : Int) = XC at hx CC
      have HB : Hid (Below w.heap.size w wr) := HR.out.2
      clear HR HVD
      have m0 : (n : Int) ≤ (cap0 : Int) := by omega
      have m1 : (n : Int) ≤ (cap1 : Int) := by omega
      have m2 : (n : Int) ≤ (cap2 : Int) := by omega
      refine wp_region_own (by kernel_rfl) (by kernel_rfl) ?_
      repeat (quiet_step (first | exact CD.out _ | exact CA.out _ | exact CB.out _ | exact CC.out _ | exact CW.out _))
      refine wpQuiet_nil ?_
      intro _ hw'
      obtain ⟨m, hw''⟩ := hw'
      subst hw''
      go_wp2
      go_ret
      exact ⟨rfl, bel2 HB.out m.2⟩


set_option maxHeartbeats 1000000 in
theorem walk (a0 : Option Addr) (len0 cap0 : Nat) (z0 : List Int) (a1 : Option Addr) (len1 cap1 : Nat) (z1 : List Int) (a2 : Option Addr) (len2 cap2 : Nat) (z2 : List Int) (w : World) (w0 : IsRow .u8 w a0 len0 cap0 z0) (w1 : IsRow .u8 w a1 len1 cap1 z1) (w2 : IsRow .u8 w a2 len2 cap2 z2) (hT : Tab w) :
    Calls Tryd.prog 6 #[.slice a0 len0 cap0, .slice a1 len1 cap1, .slice a2 len2 cap2] w fun e w' => e = .returned (.bool true) ∧ Below w.heap.size w w' := by
  have h0 := isRow_len w0
  have h1 := isRow_len w1
  have h2 := isRow_len w2
  have hm : ((9223372036854775807 : Nat)) = maxLen := rfl
  obtain ⟨n, hn⟩ : ∃ n : Nat, n = min (min (min len0 len1) len2) 600 := ⟨_, rfl⟩
  refine tail_any a0 a1 a2 len0 len1 len2 cap0 cap1 cap2 n _ _ _ w (isRow_view w0) (isRow_view w1) (isRow_view w2) (isRow_bytes w0) (isRow_bytes w1) (isRow_bytes w2) h0.1 h1.1 h2.1 h0.2.1 h1.2.1 h2.2.1 (by have := h0.2.2; omega) (by have := h1.2.2; omega) (by have := h2.2.2; omega) (by omega) (by omega) (by omega) (by omega) (show _ = _ by omega) hT

/-! The row's step. -/
set_option maxRecDepth 100000 in
theorem lifted (os : Os) (started : os.Started) (H : Type) (enc : TypeId × Value → H) :
    ReturnsInHanded {} Tryd.checked os 6 .any (fun w args => (Rows.crcAddsSpec.pre enc Tryd.prog Tryd.f6 [] false w args ∧ laidMetH Tryd.prog laid1 w) ∧ sizedMet enc Tryd.prog Tryd.f6 (OpenSpec.ofChange Rows.crcAddsSpec) false w args)
      (Rows.crcAddsSpec.post enc Tryd.prog Tryd.f6 false true false false) := by
  refine returnsInHanded_of_change_and (C := Tryd.checked) (X := fun w _ => laidMetH Tryd.prog laid1 w) (fun _ _ _ hh h => h.of_heap hh) own started (by kernel_rfl) Tryd.func6
    (ChangeSpec.witness_shaped (enc := enc) (C := Tryd.checked) (os := os) (X := fun w _ => laidMetH Tryd.prog laid1 w) false (World.doorLaid Tryd.prog 14 os) #[.slice none 0 0, .slice none 0 0, .slice none 0 0] 8 rfl (World.shaped_of_RefB (by kernel_rfl) (by kernel_rfl)) (by kernel_rfl) (by kernel_rfl) (by kernel_rfl) (door_met os _)) ?_
  intro W base args ds gs before hval0 hW hcnd hsz hL _
  have hval : ∀ (j : Nat) t v, Tryd.f6.params[j]? = some t → args[j]? = some v → Value.okWide Tryd.prog W .any base t v := hval0
  have hW' := hW
  obtain ⟨p, q, hA0, hV, rfl, hfz, hnd⟩ := hW
  have hA : DataW.TrodAll enc Tryd.prog W 0 (fun _ => true) true Tryd.f6.params.toList args.toList ds p := hA0
  rw [Tryd.params6] at hA hval
  obtain ⟨v0, vs0, d0, ds0, p0, q0, hargs, rfl, rfl, h0, r0⟩ := trodAll_cons hA
  obtain ⟨v1, vs1, d1, ds1, p1, q1, rfl, rfl, rfl, h1, r1⟩ := trodAll_cons r0
  obtain ⟨v2, vs2, d2, ds2, p2, q2, rfl, rfl, rfl, h2, r2⟩ := trodAll_cons r1
  obtain ⟨rfl, rfl, rfl⟩ := trodAll_nil r2
  obtain rfl : args = #[v0, v1, v2] := by cases args; simp_all
  obtain ⟨rfl, rfl⟩ := trodVars_none hV
  obtain ⟨a0, len0, cap0, rfl⟩ := okWide_slice Tryd.underlying22 (hval 0 22 v0 rfl rfl)
  have k0 := h0
  have lt0 : ∀ x ∈ p0, x.block < W.heap.size := by obtain ⟨m, hm⟩ := k0; exact DataW.trod_lt m _ _ _ hm
  obtain ⟨z0, w0⟩ : ∃ zs, IsRow .u8 W a0 len0 cap0 zs := by
    obtain ⟨fuel, hf⟩ := h0
    rcases open_ints Tryd.underlying22 Tryd.underlying5 (by kernel_rfl) hf with ⟨hcs, _⟩ | ⟨x, l, c, zs, hcs, _, hl, hm, hz, _, hcell, hwz⟩
    · simp [Value.cells] at hcs
      obtain ⟨rfl, rfl, rfl⟩ := hcs
      exact ⟨[], .inl ⟨rfl, rfl, rfl, rfl⟩⟩
    · simp [Value.cells] at hcs
      obtain ⟨rfl, rfl, rfl⟩ := hcs
      exact ⟨zs, .inr ⟨_, rfl, hl, hm, by simpa using hz, hcell, hwz⟩⟩
  obtain ⟨a1, len1, cap1, rfl⟩ := okWide_slice Tryd.underlying22 (hval 1 22 v1 rfl rfl)
  have k1 := h1
  have lt1 : ∀ x ∈ p1, x.block < W.heap.size := by obtain ⟨m, hm⟩ := k1; exact DataW.trod_lt m _ _ _ hm
  obtain ⟨z1, w1⟩ : ∃ zs, IsRow .u8 W a1 len1 cap1 zs := by
    obtain ⟨fuel, hf⟩ := h1
    rcases open_ints Tryd.underlying22 Tryd.underlying5 (by kernel_rfl) hf with ⟨hcs, _⟩ | ⟨x, l, c, zs, hcs, _, hl, hm, hz, _, hcell, hwz⟩
    · simp [Value.cells] at hcs
      obtain ⟨rfl, rfl, rfl⟩ := hcs
      exact ⟨[], .inl ⟨rfl, rfl, rfl, rfl⟩⟩
    · simp [Value.cells] at hcs
      obtain ⟨rfl, rfl, rfl⟩ := hcs
      exact ⟨zs, .inr ⟨_, rfl, hl, hm, by simpa using hz, hcell, hwz⟩⟩
  obtain ⟨a2, len2, cap2, rfl⟩ := okWide_slice Tryd.underlying22 (hval 2 22 v2 rfl rfl)
  have k2 := h2
  have lt2 : ∀ x ∈ p2, x.block < W.heap.size := by obtain ⟨m, hm⟩ := k2; exact DataW.trod_lt m _ _ _ hm
  obtain ⟨z2, w2⟩ : ∃ zs, IsRow .u8 W a2 len2 cap2 zs := by
    obtain ⟨fuel, hf⟩ := h2
    rcases open_ints Tryd.underlying22 Tryd.underlying5 (by kernel_rfl) hf with ⟨hcs, _⟩ | ⟨x, l, c, zs, hcs, _, hl, hm, hz, _, hcell, hwz⟩
    · simp [Value.cells] at hcs
      obtain ⟨rfl, rfl, rfl⟩ := hcs
      exact ⟨[], .inl ⟨rfl, rfl, rfl, rfl⟩⟩
    · simp [Value.cells] at hcs
      obtain ⟨rfl, rfl, rfl⟩ := hcs
      exact ⟨zs, .inr ⟨_, rfl, hl, hm, by simpa using hz, hcell, hwz⟩⟩
  clear hA0 hval0
  refine (walk a0 len0 cap0 z0 a1 len1 cap1 z1 a2 len2 cap2 z2 W w0 w1 w2 (tab_of_laid hL)).mono fun e W' ⟨he, bel⟩ => ?_
  subst he
  exact ⟨_, rfl, _, _, _, [], _, [], hW', trodAll_mk1 (shut_bool Tryd.underlying4 _), (trodAll_cons_mk (Below.trod laidOut (by kernel_rfl) (of_decide_eq_true (by kernel_rfl)) k0 bel lt0) (trodAll_cons_mk (Below.trod laidOut (by kernel_rfl) (of_decide_eq_true (by kernel_rfl)) k1 bel lt1) (trodAll_cons_mk (Below.trod laidOut (by kernel_rfl) (of_decide_eq_true (by kernel_rfl)) k2 bel lt2) trodAll_mk0))), rfl, bel.frame _, fun h => by cases h⟩

theorem over : Rows.crcAddsRow.holds Tryd.pinned (OpenSpec.ofChange Rows.crcAddsSpec) :=
  OpenClaim.holds_of_wide 6 Tryd.f6 rfl rfl rfl rfl rfl rfl rfl ⟨rfl, rfl, rfl, rfl, rfl⟩ rfl rfl rfl rfl rfl (by kernel_rfl) Tryd.func6 (by kernel_rfl)
    (of_decide_eq_true (by kernel_rfl)) (by unfold Func.isWrapper; first | (rw [if_pos (by decide +kernel)]; kernel_rfl) | (rw [if_neg (by decide +kernel)]; exact ⟨rfl, rfl⟩))
    (fun os started H enc _ => lifted os started H enc)

/-- The card, tied. -/
theorem proved : Rows.CrcAddsCardSaid :=
  Claim7.holds_tied_plain_at .later [] [.data] true (true, "018943c7821482f50dfe816936e244883998ed36ed61f28ab1a620a4f86d7a87") false
    over (fun _ h => by cases h) (by kernel_rfl) (fun _ h => by cases h) crcAdds_row_tie rfl ⟨rfl, rfl⟩ (by kernel_rfl) rfl
    (fun f fn hf hfn => by
      obtain rfl : f = 6 := Option.some.inj ((show Tryd.prog.funcNamed Rows.crcAddsRow.func = some 6 by kernel_rfl).symm.trans hf) |>.symm
      obtain rfl : fn = Tryd.f6 := (Option.some.inj (Tryd.func6.symm.trans hfn)).symm
      exact ⟨by kernel_rfl, fun j t ht => by
        rw [Tryd.params6] at ht
        have hm : t ∈ [22, 22, 22] := by simpa using Array.mem_of_getElem? ht
        have hall : ([22, 22, 22].all fun u => !Tryd.prog.wantsStandIn u) = true := by kernel_rfl
        exact (show Tryd.prog.wantsStandIn t = false by simpa using List.all_eq_true.1 hall t hm)⟩)
    (by kernel_rfl)
end Go.Proofs.YtnnongchjbckpaaDoor.crcAdds

namespace Go.Proofs.YtnnongchjbckpaaDoor
/-- THE STATEMENT. -/
theorem crcAdds_holds : Rows.CrcAddsCardSaid := crcAdds.proved
#print axioms crcAdds_holds
end Go.Proofs.YtnnongchjbckpaaDoor
