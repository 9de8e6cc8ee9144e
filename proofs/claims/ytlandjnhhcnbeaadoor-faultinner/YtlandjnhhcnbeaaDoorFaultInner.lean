/-
  Proved here: for every Mold the law FaultInner returns true and leaves its argument as it was: unwrapped one by one an error ends at what is innermost: a number, another error, or two at once. The listed variable is tied to the program text (the card). No condition besides.
-/
import Derived.Test.YtlandjnhhcnbeaaDoorRows
import Derived.Test.YtlandjnhhcnbeaaDoorTie
import Derived.Test.YtlandjnhhcnbeaaDoorCards
import Derived.Test.YtlandjnhhcnbeaaDoorMoldArg
import Derived.Test.YtlandjnhhcnbeaaDoorDoor
import Derived.WalkKit
import Derived.ProofKit
import Derived.OpenShut
import Derived.ShutString
import Derived.ChangeOld
import Derived.Below
import Derived.SevenTiedAt
import Derived.Deep.RegionHeld3
namespace Go.Proofs.YtlandjnhhcnbeaaDoor.faultInner
open Go.ChangeShapes Go.WideShapes Go.ChangeAt Go.RowKit Go.ChangeMaps Kit
set_option linter.unusedVariables false

theorem inner_some : ∀ (n : Nat) (t : Tr n), noneT n t = false → innerS (nodesT n t) ≠ []
  | 0, _, h => by cases h
  | _ + 1, none, h => by cases h
  | n + 1, some (l, x, y), h => by
    have hx := inner_some n x
    have hy := inner_some n y
    have ex := none_nodes n x
    have ey := none_nodes n y
    have h' := h
    rw [noneT_some] at h'
    rw [nodesT_some]
    by_cases k1 : l.kind = 1
    · rw [if_pos k1, innerS_skip _ _ _ rfl]; simp
    by_cases k2 : l.kind = 2
    · rw [if_neg k1, if_pos k2, innerS_fault]
      exact hx (by rw [k2] at h'; simpa using h')
    by_cases k3 : l.kind = 3
    · rw [if_neg k1, if_neg k2, if_pos k3]
      rw [k3] at h'
      have hxy : (noneT n x && noneT n y) = false := by simpa using h'
      unfold bothS
      rw [← ex, ← ey]
      rcases e1 : noneT n x with _ | _
      · rcases e2 : noneT n y with _ | _
        · exact fun e => by rw [show (if false = true then nodesT n y else if false = true then nodesT n x else (72, 0, []) :: (nodesT n x ++ nodesT n y)) = (72, 0, []) :: (nodesT n x ++ nodesT n y) from rfl, innerS_skip _ _ _ rfl] at e; cases e
        · exact hx e1
      · exact hy (by rw [e1] at hxy; simpa using hxy)
    by_cases k4 : l.kind = 4
    · rw [if_neg k1, if_neg k2, if_neg k3, if_pos k4, innerS_skip _ _ _ rfl]; simp
    · rw [if_neg (fun e => e.elim k1 k4), if_neg k2, if_neg k3] at h'; cases h'
theorem innerIs_nodes {n : Nat} {t : Tr n} (w : World) (h : noneT n t = false) : innerS (nodesT n t) ≠ [] := by
  intro e
  exact inner_some n t h e
theorem keep2 {w w1 w2 : World} {p q : Addr} {s u : Value} (hb : Below w1.heap.size w1 w2) (h : w1.cell? p = some s ∧ w1.cell? q = some u ∧ Hid (Below w.heap.size w w1)) : w2.cell? p = some s ∧ w2.cell? q = some u ∧ Hid (Below w.heap.size w w2) :=
  ⟨cell_old hb h.1, cell_old hb h.2.1, bel2e h.2.2.out hb⟩
theorem bel2k {w w1 : World} {p q : Addr} {s u : Value} (h : w1.cell? p = some s ∧ w1.cell? q = some u ∧ Hid (Below w.heap.size w w1)) : Below w.heap.size w w1 := h.2.2
set_option maxRecDepth 4000 in
set_option maxHeartbeats 16000000 in
theorem walk (n : Nat) (v : Value) (t : Tr n) (w : World) (hm : MoldAt w n v t) (hT : Tied w) :
    Calls Tryd.prog 4 #[v] w fun e w' => e = .returned (.bool true) ∧ Below w.heap.size w w' := by
  obtain ⟨l, a, len, cap, rfl⟩ := mold_form hm
  have H0 : Hid (Own5 w (w.alloc (.cells #[.int .i64 l.kind, .int .i64 l.num, .string l.op, .string l.path, .slice a len cap] 24)) l.kind l.num l.op l.path a len cap) := own5_new w _ _ _ _ _ _ _ _
  have HT : Hid (Tied w) := hT
  have HM : Hid (MoldAt w n (moldV l a len cap) t) := hm
  have HX : Hid (Calls Tryd.prog 9 _ _ _) := weight_any n _ t (w.alloc (.cells #[.int .i64 l.kind, .int .i64 l.num, .string l.op, .string l.path, .slice a len cap] 24)) 0 (by omega) (hm.below H0.out.out)
  obtain ⟨kd, nm, op, pa⟩ := l
  clear hm hT
  have z0 : ((0 : Nat) : Int) = 0 := rfl
  unfold moldV at *
  rw [z0] at HX
  clear z0
  go_enter Tryd.func4, Tryd.ntmps4
  go_wp2_with fail
  go_at_call 9
  refine HX.out.mono ?_
  rintro e w1 ⟨r, rfl, hr, hb⟩
  have H1 : Hid (Own5 w w1 kd nm op pa a len cap) := H0.out.below hb
  clear hb HX H0
  by_cases hlt : (300 : Int) < (r : Int)
  · clear hr
    have HX : Hid (Calls Tryd.prog 10 _ _ _) := awake_any w1 (HT.out.below H1.out.out)
    go_wp2_with fail
    go_at_call 10
    refine HX.out.mono ?_
    rintro e wz ⟨rfl, hb⟩
    have HZ : Hid (Below w.heap.size w wz) := bel2e H1.out.out hb
    clear hb HX
    go_wp2
    go_ret
    exact ⟨rfl, HZ.out⟩
  · have HK : Hid (bulk n t ≤ 300) := Nat.le_trans (hr.out.2 (by omega)) (by omega)
    clear hr
    have c := H1.out
    obtain ⟨c0, c1, c2, c3, c4, _⟩ := c
    have HX : Hid (Calls Tryd.prog 11 _ _ _) := made_any w n _ t w1 H1.out.out HM.out HK.out
    go_wp2_with fail
    go_at_call 11
    refine HX.out.mono ?_
    rintro e w2 ⟨r1, rfl, hmk, hb⟩
    have H2 : Hid (Own5 w w2 kd nm op pa a len cap) := H1.out.below hb
    obtain ⟨ns, hp, hs⟩ := hmk.out
    have HP : Hid (Pre w2 n r1 ns) := hp
    have HS : Hid (shapes ns = nodesT n t) := hs
    clear hb HX H1 c0 c1 c2 c3 c4 hmk hp hs
    have HX : Hid (Calls Tryd.prog 20 _ _ _) := inner_any n r1 ns w2 HP.out
    go_wp2_with fail
    go_at_call 20
    refine HX.out.mono ?_
    rintro e w3 ⟨r, k, rfl, hp, hb⟩
    have H3 : Hid (Own5 w w3 kd nm op pa a len cap) := H2.out.below hb
    have HP3 : Hid (Pre w3 k r (innerOf ns)) := hp
    have HS3 : Hid (shapes (innerOf ns) = innerS (nodesT n t)) := by show _ = _; rw [← HS.out, innerS_shapes]
    clear hb hp HX H2 HP
    have c := H3.out
    obtain ⟨c0, c1, c2, c3, c4, _⟩ := c
    have HX : Hid (Calls Tryd.prog 12 _ _ _) := none_any n _ t w3 (HM.out.below H3.out.out)
    go_wp2_with fail
    go_at_call 12
    refine HX.out.mono ?_
    rintro e w4 ⟨rfl, hb⟩
    have H4 : Hid (Own5 w w4 kd nm op pa a len cap) := H3.out.below hb
    have HP4 : Hid (Pre w4 k r (innerOf ns)) := HP3.out.below hb
    have HE : Hid (noneT n t = (nodesT n t).isEmpty) := none_nodes n t
    clear hb HX H3 HP3 c0 c1 c2 c3 c4
    rcases hno : noneT n t with _ | _
    · have HNN : Hid (noneT n t = false) := hno
      have hne : innerOf ns ≠ [] := by
        intro e0
        have h1 := HS3.out
        rw [e0] at h1
        have h2 := innerIs_nodes w HNN.out
        exact h2 h1.symm
      obtain ⟨ru, rx, hr⟩ := (Pre.form HP4.out).resolve_left (HP4.out.some_ hne)
      subst hr
      clear hne hno HE
      have c := H4.out
      obtain ⟨c0, c1, c2, c3, c4, _⟩ := c
      have HX : Hid (Calls Tryd.prog 21 _ _ _) := innerL_any w n _ t w4 H4.out.out HM.out HNN.out
      go_wp2_with fail
      go_at_call 21
      refine HX.out.mono ?_
      rintro e w5 ⟨v5, rfl, hi, hb⟩
      obtain ⟨l5, a5, len5, cap5, hv5⟩ := innerIs_form hi
      subst hv5
      have H5 : Hid (Below w.heap.size w w5) := bel2e H4.out.out hb
      have HP5 : Hid (Pre w5 k (.iface ru rx) (innerOf ns)) := HP4.out.below hb
      have HI : Hid (InnerIs w n t (moldV l5 a5 len5 cap5)) := hi
      clear hb hi HX H4 HP4 c0 c1 c2 c3 c4
      have B6 : Hid (Below w5.heap.size w5 (w5.alloc (.cells #[.int .i64 l5.kind, .int .i64 l5.num, .string l5.op, .string l5.path, .slice a5 len5 cap5] 24))) := (Below.refl _ _).alloc (Nat.le_refl _) _
      have HV : Hid (FVar (w5.alloc (.cells #[.int .i64 l5.kind, .int .i64 l5.num, .string l5.op, .string l5.path, .slice a5 len5 cap5] 24)) w5.heap.size l5 a5 len5 cap5) := fvar_new w5 l5 _ _ _ _
      have H6 : Hid (Below w.heap.size w (w5.alloc (.cells #[.int .i64 l5.kind, .int .i64 l5.num, .string l5.op, .string l5.path, .slice a5 len5 cap5] 24))) := bel2e H5.out B6.out
      have HP6 : Hid (Pre (w5.alloc (.cells #[.int .i64 l5.kind, .int .i64 l5.num, .string l5.op, .string l5.path, .slice a5 len5 cap5] 24)) k (.iface ru rx) (innerOf ns)) := HP5.out.below B6.out
      obtain ⟨k6, l6, x6, y6, i1, i2, i3, i4⟩ := HI.out
      have hl : l5 = l6 := by
        obtain ⟨a', len', cap', e, _⟩ := i1
        exact (moldV_inj e).1
      subst hl
      have HS6 : Hid (shapes (innerOf ns) = nodesT (k6 + 1) (some (l5, x6, y6))) := HS3.out.trans i3.symm
      have HM6 : Hid (MoldAt w (k6 + 1) (moldV l5 a5 len5 cap5) (some (l5, x6, y6)) ∧ bulk (k6 + 1) (some (l5, x6, y6)) ≤ 300) := ⟨i1, Nat.le_trans i2 HK.out⟩
      clear i1 i2 i3 HP5 H5 B6 HI HS3 HNN
      obtain ⟨k5, n5, o5, p5⟩ := l5
      simp only at i4
      rcases i4 with i4 | i4 | i4
      · subst i4
        have hr := HP6.out.shape_num (z := n5) (by rw [HS6.out, nodesT_some]; rfl)
        cases hr
        have q := assert_num
        clear HM6 HS6 HP6 HV
        unfold moldV at *
        have HX : Hid (Calls Tryd.prog 10 _ _ _) := awake_any _ (HT.out.below H6.out)
        go_wp2_with fail
        go_at_call 10
        refine HX.out.mono ?_
        rintro e wz ⟨rfl, hb⟩
        have HZ : Hid (Below w.heap.size w wz) := bel2e H6.out hb
        clear hb HX
        go_wp2
        go_ret
        exact ⟨rfl, HZ.out⟩
      · subst i4
        obtain ⟨pb, hr, cp⟩ := HP6.out.shape_leaf (s := o5) (by rw [HS6.out, nodesT_some]; rfl)
        cases hr
        have q := assert_plain
        have HC : Hid (_ = _) := cp
        obtain ⟨⟨f0, f1, f2, f3, f4⟩, _⟩ := HV.out
        simp only at f0 f1 f2 f3
        have HS : Hid ((w5.alloc (.cells #[.int .i64 4, .int .i64 n5, .string o5, .string p5, .slice a5 len5 cap5] 24)).cell? ⟨pb, 0, none⟩ = some (.string o5) ∧ (w5.alloc (.cells #[.int .i64 4, .int .i64 n5, .string o5, .string p5, .slice a5 len5 cap5] 24)).cell? ⟨w5.heap.size, 2, none⟩ = some (.string o5) ∧ Hid (Below w.heap.size w (w5.alloc (.cells #[.int .i64 4, .int .i64 n5, .string o5, .string p5, .slice a5 len5 cap5] 24)))) := ⟨cp, f2, H6.out⟩
        clear HM6 HS6 HP6 HV HC
        unfold moldV at *
        go_wp2
        go_region_held3 (fun w' => w'.cell? ⟨pb, 0, none⟩ = some (.string o5) ∧ w'.cell? ⟨w5.heap.size, 2, none⟩ = some (.string o5) ∧ Hid (Below w.heap.size w w')) (first | exact HS.out | exact ⟨HS.out.1, HS.out.2.1, HS.out.2.2.out.drew⟩ | exact keep2 (by assumption) (by assumption))
          (first
            | (go_at_call 10; refine (awake_any _ (HT.out.below (bel2k (by assumption)))).mono ?_; rintro e wz ⟨rfl, hbz⟩))
        rename_i hS
        have HZ : Hid (Below w.heap.size w wz) := bel2k hS
        clear hbz
        go_wp2
        go_ret
        exact ⟨rfl, HZ.out⟩
      · subst i4
        obtain ⟨⟨f0, f1, f2, f3, f4⟩, _⟩ := HV.out
        simp only at f0 f1 f2 f3
        have HZS : Hid (nums (innerOf ns) = numsS (nodesT (k6 + 1) (some (⟨3, n5, o5, p5⟩, x6, y6)))) := by show _ = _; rw [← numsS_shapes, HS6.out]
        unfold moldV at *
        have HX : Hid (Calls Tryd.prog 13 _ _ _) := codes_any w (k6 + 1) _ _ _ H6.out HM6.out.1 HM6.out.2
        go_wp2_with fail
        go_at_call 13
        refine HX.out.mono ?_
        rintro e w7 ⟨rc, rfl, hrc, hb⟩
        have H7 : Hid (Below w.heap.size w w7) := bel2e H6.out hb
        have HP7 : Hid (Pre w7 k (.iface ru rx) (innerOf ns)) := HP6.out.below hb
        have hse := RowV.sees hrc.out
        rw [← HZS.out] at hse
        have HY : Hid (Calls Tryd.prog 18 _ _ _) := code_any k (.iface ru rx) (innerOf ns) w7 HP7.out (HT.out.below H7.out)
        obtain ⟨zs, hzs⟩ : ∃ zs, nums (innerOf ns) = zs := ⟨_, rfl⟩
        rw [hzs] at HY hse
        obtain ⟨co, cc, hco, _, _, _, hcell⟩ := hse
        rw [List.length_map] at hco hcell
        subst hco
        clear hb HX H6 HP6 HS6 HM6 hrc HZS hzs HP7 f0 f1 f2 f3 f4 HV
        cases zs with
        | nil =>
          have z0 : ([] : List Int).length = 0 := rfl
          have z1 : ([] : List Int).headD 0 = 0 := rfl
          rw [z1] at HY
          clear hcell z1
          go_wp2_with fail
          go_at_call 18
          refine HY.out.mono ?_
          rintro e w8 ⟨rfl, hb⟩
          have H8 : Hid (Below w.heap.size w w8) := bel2e H7.out hb
          clear hb HY H7
          have HX : Hid (Calls Tryd.prog 10 _ _ _) := awake_any w8 (HT.out.below H8.out)
          go_wp2_with fail
          go_at_call 10
          refine HX.out.mono ?_
          rintro e wz ⟨rfl, hb⟩
          have HZ : Hid (Below w.heap.size w wz) := bel2e H8.out hb
          clear hb HX
          go_wp2
          go_ret
          exact ⟨rfl, HZ.out⟩
        | cons z zr =>
          obtain ⟨cb, cf, hcb, _, hcl⟩ := hcell (by simp)
          subst hcb
          have cz := hcl 0 (.int .i64 z) (by simp)
          rw [Nat.add_zero] at cz
          have z1 : (z :: zr).headD 0 = z := rfl
          rw [z1] at HY
          clear hcl z1
          have zl : (0 : Int) < ((z :: zr).length : Int) := by simp
          obtain ⟨zn, hzn⟩ : ∃ zn, (z :: zr).length = zn := ⟨_, rfl⟩
          rw [hzn] at zl
          rw [hzn]
          clear hzn hcell
          go_wp2_with fail
          go_at_call 18
          refine HY.out.mono ?_
          rintro e w8 ⟨rfl, hb⟩
          have H8 : Hid (Below w.heap.size w w8) := bel2e H7.out hb
          clear hb HY H7 cz
          have HX : Hid (Calls Tryd.prog 10 _ _ _) := awake_any w8 (HT.out.below H8.out)
          go_wp2_with fail
          go_at_call 10
          refine HX.out.mono ?_
          rintro e wz ⟨rfl, hb⟩
          have HZ : Hid (Below w.heap.size w wz) := bel2e H8.out hb
          clear hb HX
          go_wp2
          go_ret
          exact ⟨rfl, HZ.out⟩
    · have hn0 : innerOf ns = [] := by
        have h1 := HS3.out
        have h2 := HE.out
        rw [hno] at h2
        rw [List.isEmpty_iff.1 h2.symm] at h1
        cases hi : innerOf ns with
        | nil => rfl
        | cons x y => rw [hi] at h1; cases h1
      have hp := HP4.out
      rw [hn0] at hp
      have hr := Pre.empty hp
      subst hr
      clear hn0 hp hno HE HS3 HP4
      have HX : Hid (Calls Tryd.prog 10 _ _ _) := awake_any w4 (HT.out.below H4.out.out)
      go_wp2_with fail
      go_at_call 10
      refine HX.out.mono ?_
      rintro e wz ⟨rfl, hb⟩
      have HZ : Hid (Below w.heap.size w wz) := bel2e H4.out.out hb
      clear hb HX
      go_wp2
      go_ret
      exact ⟨rfl, HZ.out⟩

/-! The row's step. -/
set_option maxRecDepth 100000 in
theorem lifted (os : Os) (started : os.Started) (H : Type) (enc : TypeId × Value → H) :
    ReturnsInHanded {} Tryd.checked os 4 .any (fun w args => (Rows.faultInnerSpec.pre enc Tryd.prog Tryd.f4 [] false w args ∧ laidMetH Tryd.prog laid1 w) ∧ sizedMet enc Tryd.prog Tryd.f4 (OpenSpec.ofChange Rows.faultInnerSpec) false w args)
      (Rows.faultInnerSpec.post enc Tryd.prog Tryd.f4 false true false false) := by
  refine returnsInHanded_of_change_and (C := Tryd.checked) (X := fun w _ => laidMetH Tryd.prog laid1 w) (fun _ _ _ hh h => h.of_heap hh) own started (by kernel_rfl) Tryd.func4
    (ChangeSpec.witness_shaped (enc := enc) (C := Tryd.checked) (os := os) (X := fun w _ => laidMetH Tryd.prog laid1 w) false (World.doorLaid Tryd.prog 16 os) #[.agg #[.int .i64 0, .int .i64 0, .string ⟨#[]⟩, .string ⟨#[]⟩, .slice none 0 0]] 8 rfl (World.shaped_of_RefB (by kernel_rfl) (by kernel_rfl)) (by kernel_rfl) (by kernel_rfl) (by kernel_rfl) (door_met os _)) ?_
  intro W base args ds gs before hval0 hW hcnd hsz hL _
  have hval : ∀ (j : Nat) t v, Tryd.f4.params[j]? = some t → args[j]? = some v → Value.okWide Tryd.prog W .any base t v := hval0
  have hW' := hW
  obtain ⟨p, q, hA0, hV, rfl, hfz, hnd⟩ := hW
  have hA : DataW.TrodAll enc Tryd.prog W 0 (fun _ => true) true Tryd.f4.params.toList args.toList ds p := hA0
  rw [Tryd.params4] at hA hval
  obtain ⟨v0, vs0, d0, ds0, p0, q0, hargs, rfl, rfl, h0, r0⟩ := trodAll_cons hA
  obtain ⟨rfl, rfl, rfl⟩ := trodAll_nil r0
  obtain rfl : args = #[v0] := by cases args; simp_all
  obtain ⟨rfl, rfl⟩ := trodVars_none hV
  have k0 := h0
  have lt0 : ∀ x ∈ p0, x.block < W.heap.size := by obtain ⟨m, hm⟩ := k0; exact DataW.trod_lt m _ _ _ hm
  obtain ⟨n0, t0, w0⟩ : ∃ (n : Nat) (t : Tr n), MoldAt W n v0 t := by
    obtain ⟨fuel, hf⟩ := h0
    exact mold_arg hf
  clear hA0 hval0
  refine (walk n0 v0 t0 W w0 (tied_of_laid hL)).mono fun e W' ⟨he, bel⟩ => ?_
  subst he
  exact ⟨_, rfl, _, _, _, [], _, [], hW', trodAll_mk1 (shut_bool Tryd.underlying4 _), (trodAll_cons_mk (Below.trod laidOut (by kernel_rfl) (of_decide_eq_true (by kernel_rfl)) k0 bel lt0) trodAll_mk0), rfl, bel.frame _, fun h => by cases h⟩

theorem over : Rows.faultInnerRow.holds Tryd.pinned (OpenSpec.ofChange Rows.faultInnerSpec) :=
  OpenClaim.holds_of_wide 4 Tryd.f4 rfl rfl rfl rfl rfl rfl rfl ⟨rfl, rfl, rfl, rfl, rfl⟩ rfl rfl rfl rfl rfl (by kernel_rfl) Tryd.func4 (by kernel_rfl)
    (of_decide_eq_true (by kernel_rfl)) (by unfold Func.isWrapper; first | (rw [if_pos (by decide +kernel)]; kernel_rfl) | (rw [if_neg (by decide +kernel)]; exact ⟨rfl, rfl⟩))
    (fun os started H enc _ => lifted os started H enc)

/-- The card, tied. -/
theorem proved : Rows.FaultInnerCardSaid :=
  Claim7.holds_tied_plain_at .later [] [.handle] true (true, "a2a5e8d745dccc1ea1945e6c68f635ba049041312b0aa45080a4b6eb55ba1ec7") true
    over (fun _ h => by cases h) (by kernel_rfl) (fun _ h => by cases h) faultInner_row_tie rfl ⟨rfl, rfl⟩ (by kernel_rfl) rfl
    (fun f fn hf hfn => by
      obtain rfl : f = 4 := Option.some.inj ((show Tryd.prog.funcNamed Rows.faultInnerRow.func = some 4 by kernel_rfl).symm.trans hf) |>.symm
      obtain rfl : fn = Tryd.f4 := (Option.some.inj (Tryd.func4.symm.trans hfn)).symm
      exact ⟨by kernel_rfl, fun j t ht => by
        rw [Tryd.params4] at ht
        have hm : t ∈ [24] := by simpa using Array.mem_of_getElem? ht
        have hall : ([24].all fun u => !Tryd.prog.wantsStandIn u) = true := by kernel_rfl
        exact (show Tryd.prog.wantsStandIn t = false by simpa using List.all_eq_true.1 hall t hm)⟩)
    (by kernel_rfl)
end Go.Proofs.YtlandjnhhcnbeaaDoor.faultInner

namespace Go.Proofs.YtlandjnhhcnbeaaDoor
/-- THE STATEMENT. -/
theorem faultInner_holds : Rows.FaultInnerCardSaid := faultInner.proved
#print axioms faultInner_holds
end Go.Proofs.YtlandjnhhcnbeaaDoor
