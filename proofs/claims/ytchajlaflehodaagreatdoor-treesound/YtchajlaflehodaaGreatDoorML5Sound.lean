/- dolmenlaw5.TreeSound. -/
import Derived.Test.YtchajlaflehodaaGreatDoorML5Stutters
import Derived.Test.YtchajlaflehodaaGreatDoorMTMay
namespace Go.Proofs.YtchajlaflehodaaGreatDoor
open Go.RowKit Kit
set_option linter.unusedVariables false

set_option maxRecDepth 4000 in
set_option maxHeartbeats 8000000 in
theorem sound_any (v : Value) (os : List OpB) (W : World) (hO : OpsAt W v os) (hg : Tied W) :
    Calls Tryz.prog 4 #[v] W fun e w' => e = .returned (.bool true) ∧ Below W.heap.size W w' := by
  have HAW : Hid (∀ w1, Below W.heap.size W w1 → Calls Tryz.prog 11 #[] w1 fun e w' => e = .returned (.bool true) ∧ Below w1.heap.size w1 w') := fun w1 h => awake5_any w1 (tied_below hg h)
  have HSm : Hid (Calls Tryz.prog 9 _ W _) := small_any v os W hO
  obtain ⟨ao, cap, rfl, h2, h3⟩ := hO
  have H3 : Hid (0 < os.length → _) := h3
  clear h2 h3 hg
  go_enter Tryz.func4, Tryz.ntmps4
  go_wp2_with fail
  go_at_call 9
  refine HSm.out.mono ?_
  rintro e w1 ⟨q, rfl, hq, hb1⟩
  have HB1 : Hid (Below W.heap.size W w1) := hb1
  have HQ : Hid (q = true → os.length ≤ 80) := hq
  clear hb1 hq HSm
  cases q
  · go_wp2_with fail
    go_at_call 11
    refine (HAW.out _ HB1.out).mono ?_
    rintro e w2 ⟨rfl, hb2⟩
    have HBB : Hid (Below W.heap.size W w2) := bel2e HB1.out hb2
    clear hb2
    go_wp2
    go_ret
    exact ⟨rfl, HBB.out⟩
  have hl80 : os.length ≤ 80 := HQ.out rfl
  have hl8 : (os.length : Int) ≤ 80 := by omega
  have HN : Hid (Calls Tryz.prog 12 _ w1 _) := lnew w1
  go_wp2_with fail
  go_at_call 12
  refine HN.out.mono ?_
  rintro e w3 ⟨p, b, rfl, HO3⟩
  have HO : Hid (Own W w3 p b newB) := own_from HB1.out HO3.out
  clear HN HO3 HB1
  go_wp2_with fail
  go_loopw [4, 5, 6] (fun s4 _ _ wr => ∃ (i : Nat) (t : TreeB), i ≤ os.length ∧ s4 = .int .i64 (i : Int) ∧ Hid (Own W wr p b t)) (fun s4 _ _ _ => os.length - (intOf s4).toNat)
  case atStart => exact ⟨0, newB, Nat.zero_le _, rfl, HO⟩
  case round =>
    obtain ⟨i, t, hi, rfl, HOi⟩ := hrel
    clear HO
    by_cases hin : i < os.length
    · have hii : (i : Int) < (os.length : Int) := by omega
      obtain ⟨b1, o1, rfl, hl1, hc1⟩ := H3.out (by omega)
      obtain ⟨da1, dc1, ha1, hf1⟩ := hc1 i hin
      have hwr : Below W.heap.size W wr := HOi.out.bel
      obtain ⟨c0, c1, c2, c3, c4, c5, c6⟩ := ha1.below hl1 hwr
      have HX : Hid (Calls Tryz.prog 13 _ wr _) := ldo_go os[i] da1 dc1 W wr p b t HOi.out (hf1.below hwr)
      obtain ⟨y, hy⟩ : ∃ y, y = os[i] := ⟨_, rfl⟩
      rw [← hy] at c0 c1 c2 c3 c4 c5 c6 HX
      have l1 : b1 < wr.heap.size := by have := hwr.size; omega
      clear hc1 ha1 hf1 hy hwr
      go_wp2_with fail
      go_at_call 13
      refine HX.out.mono ?_
      rintro e w4 ⟨rv, ev, rfl, HT⟩
      have HO4 : Hid (Own W w4 p b (doB t y).1) := HT.out.1
      clear HT HX HOi c0 c1 c2 c3 c4 c5 c6 l1
      obtain ⟨T, hT⟩ : ∃ T, (doB t y).1 = T := ⟨_, rfl⟩
      rw [hT] at HO4
      clear hT
      have HA1 : Hid (Calls Tryz.prog 14 _ w4 _) := lallF W w4 p b T HO4.out
      go_wp2_with fail
      go_at_call 14
      refine HA1.out.mono ?_
      rintro e w5 ⟨a5, c5, rfl, HT5⟩
      have HO5 : Hid (Own W w5 p b T) := HO4.out.below HT5.out.2
      have HG : Hid (Good T) := HO5.out.good
      obtain ⟨W6, hW6⟩ : ∃ z, z = w5.alloc (.cells #[.slice a5 T.nodes.length c5, .int .i64 T.next] 41) := ⟨_, rfl⟩
      have H6 : Hid (Own W W6 p b T ∧ TreeAt W6 (.agg #[.slice a5 T.nodes.length c5, .int .i64 T.next]) T ∧ W6.heap[w5.heap.size]? = some (.cells #[.slice a5 T.nodes.length c5, .int .i64 T.next] 41)) := by
        rw [hW6]; exact ⟨HO5.out.below (bel_new _ _), (HT5.out.1.at).below (bel_new _ _), (MapKept.heap_alloc w5 _).1⟩
      have HMy : Hid (Calls Tryz.prog 17 _ W6 _) := tmay_any _ T W6 H6.out.2.1 HG.out
      obtain ⟨xb, hxb⟩ : ∃ z, z = w5.heap.size := ⟨_, rfl⟩
      rw [← hxb] at H6
      clear HA1 HT5 HO4 HO5
      go_wp2_with fail
      go_at_call 17
      rw [← hW6]
      clear hW6
      refine HMy.out.mono ?_
      rintro e w7 ⟨rfl, hb7⟩
      have H7 : Hid (Own W w7 p b T ∧ TreeAt w7 (.agg #[.slice a5 T.nodes.length c5, .int .i64 T.next]) T ∧ w7.heap[xb]? = some (.cells #[.slice a5 T.nodes.length c5, .int .i64 T.next] 41)) := ⟨H6.out.1.below hb7, H6.out.2.1.below hb7, below_block hb7 H6.out.2.2⟩
      clear HMy H6 hb7
      rw [← hxb]
      clear hxb
      have n60 : (T.nodes.length : Int) ≤ 60 := by have := HG.out.1.size; omega
      go_wp2_with fail
      go_loopw [6] (fun s6 wr => ∃ (k : Nat), k ≤ T.nodes.length ∧ s6 = .int .i64 (k : Int) ∧ Hid (Own W wr p b T ∧ TreeAt wr (.agg #[.slice a5 T.nodes.length c5, .int .i64 T.next]) T ∧ wr.heap[xb]? = some (.cells #[.slice a5 T.nodes.length c5, .int .i64 T.next] 41))) (fun s6 _ => T.nodes.length - (intOf s6).toNat)
      case atStart => exact ⟨0, Nat.zero_le _, rfl, H7⟩
      case round =>
        obtain ⟨k, hk, rfl, HRk⟩ := hrel
        clear H7
        have z0 := cell_of (j := 0) HRk.out.2.2 rfl
        have z1 := cell_of (j := 1) HRk.out.2.2 rfl
        have zl := cell_lt z0
        by_cases hkl : k < T.nodes.length
        · have kl : (k : Int) < (T.nodes.length : Int) := by omega
          have kz : (0 : Int) ≤ (k : Int) := by omega
          obtain ⟨ao2, cap2, fs, he, _, _, f3, _, f5⟩ := HRk.out.2.1.opened
          have hfl := fs_len f3
          obtain ⟨bb, off, hao, hbb, hc⟩ := f5 (by omega)
          injection he with he1
          have he2 : Value.slice a5 T.nodes.length c5 = Value.slice ao2 T.nodes.length cap2 := by
            have := congrArg (fun a : Array Value => a[0]?) he1
            simpa using this
          injection he2 with he3 _ he4
          subst he3 he4 hao
          have a5c := (hc k (by omega)).1
          have hnk := fs_at f3 (show k < fs.length by omega)
          rw [← hnk] at a5c
          obtain ⟨ino, hino⟩ : ∃ z, (nodeAt T k).ino = z := ⟨_, rfl⟩
          have hlk : linksB T ino = linksD T ino := by rw [← hino]; exact HG.out.1.fair.links (nodeAt_mem hkl)
          rw [hino] at a5c
          have hne := ownW_nonempty wr
          have HB7 : Hid (∀ n : OwnW wr, Own W n.1 p b T ∧ TreeAt n.1 (.agg #[.slice (some ⟨bb, off, none⟩) T.nodes.length c5, .int .i64 T.next]) T ∧ n.1.heap[xb]? = some (.cells #[.slice (some ⟨bb, off, none⟩) T.nodes.length c5, .int .i64 T.next] 41)) := fun n => ⟨HRk.out.1.below n.2, HRk.out.2.1.below n.2, below_block n.2 HRk.out.2.2⟩
          have t0 : ∀ n : OwnW wr, n.1.cell? ⟨xb, 0, none⟩ = some (.slice (some ⟨bb, off, none⟩) T.nodes.length c5) := fun n => cell_of (j := 0) (HB7.out n).2.2 rfl
          have t1 : ∀ n : OwnW wr, n.1.cell? ⟨xb, 1, none⟩ = some (.int .i64 T.next) := fun n => cell_of (j := 1) (HB7.out n).2.2 rfl
          have t2 : ∀ n : OwnW wr, n.1.cell? ⟨bb, off + k * 5, none⟩ = some (.int .i64 ino) := fun n => (n.2.cell (by exact hbb)).trans a5c
          have HL1 : Hid (∀ n : OwnW wr, Calls Tryz.prog 18 #[.pointer (some ⟨p, 0, none⟩), .int .i64 ino] n.1 fun e w' => e = .returned (.int .i64 (linksD T ino : Int)) ∧ ∃ m : OwnW wr, w' = m.1) := fun n => Calls.own_of ((llinks ino W n.1 p b T (HB7.out n).1).mono fun e w' h => ⟨h.1, h.2.out⟩)
          have HL2 : Hid (∀ n : OwnW wr, Calls Tryz.prog 19 #[.agg #[.slice (some ⟨bb, off, none⟩) T.nodes.length c5, .int .i64 T.next], .int .i64 ino] n.1 fun e w' => e = .returned (.int .i64 (linksD T ino : Int)) ∧ ∃ m : OwnW wr, w' = m.1) := fun n => Calls.own_of (by
            rw [← hlk]
            exact links_any _ T ino n.1 (HB7.out n).2.1 (by have := HG.out.1.size; omega) (by have := kids_le HG.out ino; omega))
          clear he1 hc f3 f5 hnk hino hlk a5c hfl
          go_wp2_with fail
          refine wp_region_own (by kernel_rfl) (by kernel_rfl) ?_
          repeat (go_big_quiet_step (first | exact HL1.out _ | exact HL2.out _))
          refine wpQuiet_nil ?_
          intro _ hw'
          obtain ⟨m, hw''⟩ := hw'
          subst hw''
          have H8 := HB7.out m
          have H8H : Hid _ := H8
          clear H8 HL1 HL2 t0 t1 t2
          go_wp2
          go_roundw
          case rel => exact ⟨k + 1, by omega, by simp, H8H⟩
          case measure => simp [intOf]; omega
        · obtain rfl : k = T.nodes.length := by omega
          have HOe : Hid (Own W wr p b T) := HRk.out.1
          clear HRk
          go_wp2
          exact ⟨⟨i + 1, T, by omega, by simp, HOe⟩, by simp [intOf]; omega⟩
    · have hii : ¬ (i : Int) < (os.length : Int) := by omega
      go_wp2_with fail
      go_at_call 11
      refine (HAW.out _ HOi.out.bel).mono ?_
      rintro e w4 ⟨rfl, hb4⟩
      have HBB : Hid (Below W.heap.size W w4) := bel2e HOi.out.bel hb4
      clear hb4
      go_wp2
      go_ret
      exact ⟨rfl, HBB.out⟩
end Go.Proofs.YtchajlaflehodaaGreatDoor
