/- slices.Replace of pieces by two at most, short of the end, in a row of the map's own. -/
import Derived.Test.YthdmclhccbjgoaaERep
import Derived.Test.YthdmclhccbjgoaaRJoined
namespace Go.Proofs.Ythdmclhccbjgoaa
open Go.RowKit Kit
set_option linter.unusedVariables false

theorem over_no2 (w : World) (g b o off lb cb m c2 : Nat) (cur : Array Value) (hg : w.heap[g]? = some (.cells cur 35)) (cu : Array Value) (hb : w.heap[b]? = some (.cells cu 35)) (h0 : cu.size ≠ 0) (hne : b ≠ g) :
    (callFunc 54 #[.slice (some ⟨g, o, none⟩) lb cb, .slice (some ⟨b, off, none⟩) m c2]).run Try.prog w = .ok (.value (.bool false)) w := by
  rw [run_callFunc_extern Try.func54 (by kernel_rfl) (by kernel_rfl) (by kernel_rfl) (e := Extern.SlicesOverlaps.overlaps #[41, 41] #[4]) (by kernel_rfl),
    Lib.run_overlaps_apart w 41 4 35 Try.underlying41 4 Try.sizeOf35 ⟨g, o, none⟩ ⟨b, off, none⟩ lb cb m c2 (fun e => hne e.symm) 35 35 cur.size cu.size (by simp [World.shape?, hg]) (by simp [World.shape?, hb]) h0 (by simp [World.frozen?, hg]) (by simp [World.frozen?, hg])]
  rfl
set_option maxRecDepth 4000 in
set_option maxHeartbeats 8000000 in
theorem srep_mid_grow (B g n cap i j m p t : Nat) (ao : Option Addr) (c2 : Nat) (xs ys : List Pc) (w : World) (h : RowE pcE w B 35 (.slice (some ⟨g, 0, none⟩) n cap) xs) (hB : B ≤ w.heap.size) (hl : n ≤ 1000) (hij : i < j) (hjn : j < n) (hy : SeesE pcE w (.slice ao m c2) ys) (hm : ys.length = m) (hm2 : m ≤ 2) (hp : p = i + m) (ht : t = p + (n - j)) (hne : (Value.slice ao m c2).ownBlock ≠ some g) (L : List Pc) (hL : L = xs.take i ++ ys ++ xs.drop j) (hroom : cap < t) :
    Calls Try.prog 53 #[.slice (some ⟨g, 0, none⟩) n cap, .int .i64 (i : Int), .int .i64 (j : Int), .slice ao m c2] w fun e w' => ∃ v', e = .returned v' ∧ RowE pcE w' B 35 v' L ∧ w.grownBy w' (some g) ∧ ∀ k, v'.ownBlock = some k → k = g ∨ w.heap.size ≤ k := by
  obtain ⟨u1, u2, u3, u4, u5, cur, u6, u7, u8⟩ := rowE_un h
  have hcm0 : cap ≤ 9223372036854775807 := u4
  have HY : Hid (SeesE pcE w (.slice ao m c2) ys) := hy
  have HM : Hid (ys.length = m) := hm
  have HX : Hid (n = xs.length) := u2
  have hi0 : (0 : Int) ≤ (i : Int) := by omega
  have hij2 : (i : Int) ≤ (j : Int) := by omega
  have hij3 : ¬ ((i : Int) = (j : Int)) := by omega
  have hjn2 : (j : Int) ≤ (n : Int) := by omega
  have hjc : (j : Int) ≤ (cap : Int) := by omega
  have hic : (i : Int) ≤ (cap : Int) := by omega
  have hin : (i : Int) ≤ (n : Int) := by omega
  have hnc : (n : Int) ≤ (cap : Int) := by omega
  have hm0 : (0 : Int) ≤ (m : Int) := by omega
  have hc1 : ¬ (cap = i) := by omega
  have HL9 : Hid (L = xs.take i ++ ys ++ xs.drop j) := hL
  clear hL
  have hq : ¬ ((j : Int) = (n : Int)) := by omega
  have HP : Hid (p = i + m ∧ t = p + (n - j)) := ⟨hp, ht⟩
  have HD : Hid ((xs.drop j).length = n - j) := by show _ = _; rw [List.length_drop]; omega
  have HN : Hid ((Value.slice ao m c2).ownBlock ≠ some g) := hne
  have HR : Hid (RowE pcE w B 35 (.slice (some ⟨g, 0, none⟩) n cap) xs) := h
  have e1 : (i : Int) + (m : Int) = (p : Int) := by omega
  have e2 : (p : Int) + ((n - j : Nat) : Int) = (t : Int) := by omega
  have hpw : IntKind.i64.wrap (p : Int) = (p : Int) := by rw [IntKind.wrap_i64]; omega
  have htw : IntKind.i64.wrap (t : Int) = (t : Int) := by rw [IntKind.wrap_i64]; omega
  have hp0 : (0 : Int) ≤ (p : Int) := by omega
  have ht0 : (0 : Int) ≤ (t : Int) := by omega
  have hpt : (p : Int) ≤ (t : Int) := by omega
  have hit : (i : Int) ≤ (t : Int) := by omega
  have htp : p < t := by omega
  have hti : i < t := by omega
  have hcj : ¬ (cap = j) := by omega
  have hro : (cap : Int) < (t : Int) := by omega
  have HZ0 : Hid ((t : Int) - (i : Int) = ((t - i : Nat) : Int)) := by show _ = _; omega
  have hw3 : IntKind.i64.wrap ((t : Int) - (i : Int)) = (t : Int) - (i : Int) := by rw [IntKind.wrap_i64]; omega
  have hpn : p ≤ 2000 := by omega
  have htn : t ≤ 4000 := by omega
  clear h u2 u4 u6 u7 u8 hy hm hp ht hne
  go_enter Try.func53, Try.ntmps53
  go_upto_region 9 with fail
  go_quiet (fail)
  obtain ⟨wq, hwq⟩ : ∃ z, z = w.drewN nq := ⟨_, rfl⟩
  rw [← hwq]
  have HQ : Hid (Below w.heap.size w wq ∧ wq.heap.size = w.heap.size) := by rw [hwq]; exact ⟨bel_drewN9 w nq, rfl⟩
  clear hwq
  have HT : Hid (RowE pcE wq B 35 (.slice (some ⟨g, 0, none⟩) i cap) (xs.take i)) := (HR.out.take i (by omega)).below HQ.out.1
  have hBq : B ≤ wq.heap.size := Nat.le_trans hB HQ.out.1.size
  go_upto_region 12 with (at_builtin; go_loud (refine wpList_zerosE (E := pcE) Try.underlying41 Try.underlying3 infoEp ⟨0, 0, 0, 0⟩ rfl rfl _ _ rfl HT.out rfl (t - i) _ HZ0.out rfl t (by omega) (by omega) (by omega) (by omega) (by unfold maxLen; omega) hBq ?_; intro c1 w1 k1 k2))
  rw [HQ.out.2] at k1 k2 ⊢
  have hcn : t ≤ c1 := (rowE_un k1).2.2.1
  have hcm : c1 ≤ 9223372036854775807 := (rowE_un k1).2.2.2.1
  have hd1 : ¬ (c1 = i) := by omega
  have hd2 : ¬ (c1 = p) := by omega
  have HB1 : Hid (Below w.heap.size w w1) := bel_tr HQ.out.1 (by rw [HQ.out.2]; exact k2)
  obtain ⟨w2, hcp, r1, r2⟩ := run_copyW (E := pcE) Try.underlying41 sizeEp k1 i (t - i) (c1 - i) (by omega) (by omega) ao m c2 ys (by rw [HM.out]; exact HY.out.below HB1.out) (by rw [HM.out]; exact Nat.min_eq_left (by omega)) t (by rw [HM.out]; omega)
  have hcp : ∀ ty, (Builtin.copy_ #[41, 41] ty #[.slice (some ⟨w.heap.size, i * 4, none⟩) (t - i) (c1 - i), .slice ao m c2]).run Try.prog w1 = .ok (goInt ys.length) w2 := hcp
  have HB2 : Hid (Below w.heap.size w w2) := ⟨r2.os.trans HB1.out.os, r2.tape.trans HB1.out.tape, r2.output.trans HB1.out.output, Nat.le_trans HB1.out.size r2.size, fun k hk => (r2.block k (Nat.lt_of_lt_of_le hk HB1.out.size) (by simp; omega)).trans (HB1.out.block k hk)⟩
  have HR2 : Hid (RowE pcE w2.drew B 35 (.slice (some ⟨w.heap.size, 0, none⟩) t c1) _) := r1.below (bel_drew w2)
  have HS2 : Hid (SeesE pcE w2.drew (.slice (some ⟨g, j * 4, none⟩) (n - j) (cap - j)) (xs.drop j)) := ((HR.out.from j (by omega)).below HB2.out).below (bel_drew w2)
  clear r1 r2 k1 k2
  go_upto_region 13 with fail
  clear hcp
  go_region_law (refine step_copyE (E := pcE) Try.underlying41 sizeEp (by rfl) (.tmp 78) (.tmp 81) (by rfl) HR2.out p (t - p) (c1 - p) (by omega) (by omega) (by simp [Act.eval, Act.put]; try rfl) (some ⟨g, j * 4, none⟩) (n - j) (cap - j) (by simp [Act.eval, Act.put]) (xs.drop j) (by rw [HD.out]; exact HS2.out) (by rw [HD.out]; have := HP.out; exact Nat.min_eq_left (by omega)) t (by rw [HD.out]; have := HP.out; omega) ?_; intro w3 k1 k2)
  have HB3 : Hid (Below w.heap.size w w3) := ⟨k2.os.trans HB2.out.os, k2.tape.trans HB2.out.tape, k2.output.trans HB2.out.output, Nat.le_trans HB2.out.size k2.size, fun k hk => (k2.block k (Nat.lt_of_lt_of_le hk HB2.out.size) (by simp; omega)).trans (HB2.out.block k hk)⟩
  have HK : Hid (RowE pcE w3 B 35 (.slice (some ⟨w.heap.size, 0, none⟩) t c1) _) := k1
  clear k1 k2
  go_wp2_with fail
  go_ret
  have k1 := HK.out
  have e3 := HP.out
  have e4 := HM.out
  have e5 := HX.out
  rw [show p = i + ys.length by omega, grow_list xs i (t - i) ys (xs.drop j) ⟨0, 0, 0, 0⟩ (by omega) (by rw [HD.out]; omega)] at k1
  exact ⟨_, rfl, by rw [HL9.out]; exact k1, grown_below _ HB3.out, fun k hk => .inr (by simp [Value.ownBlock] at hk; omega)⟩
set_option maxRecDepth 4000 in
set_option maxHeartbeats 8000000 in
theorem srep_mid_less (B g n cap i j m p t : Nat) (ao : Option Addr) (c2 : Nat) (xs ys : List Pc) (w : World) (h : RowE pcE w B 35 (.slice (some ⟨g, 0, none⟩) n cap) xs) (hB : B ≤ w.heap.size) (hl : n ≤ 1000) (hij : i < j) (hjn : j < n) (hy : SeesE pcE w (.slice ao m c2) ys) (hm : ys.length = m) (hm2 : m ≤ 2) (hp : p = i + m) (ht : t = p + (n - j)) (hne : (Value.slice ao m c2).ownBlock ≠ some g) (L : List Pc) (hL : L = xs.take i ++ ys ++ xs.drop j) (hroom : t ≤ cap) (hpj2 : p < j) :
    Calls Try.prog 53 #[.slice (some ⟨g, 0, none⟩) n cap, .int .i64 (i : Int), .int .i64 (j : Int), .slice ao m c2] w fun e w' => ∃ v', e = .returned v' ∧ RowE pcE w' B 35 v' L ∧ w.grownBy w' (some g) ∧ ∀ k, v'.ownBlock = some k → k = g ∨ w.heap.size ≤ k := by
  obtain ⟨u1, u2, u3, u4, u5, cur, u6, u7, u8⟩ := rowE_un h
  have hcm0 : cap ≤ 9223372036854775807 := u4
  have HY : Hid (SeesE pcE w (.slice ao m c2) ys) := hy
  have HM : Hid (ys.length = m) := hm
  have HX : Hid (n = xs.length) := u2
  have hi0 : (0 : Int) ≤ (i : Int) := by omega
  have hij2 : (i : Int) ≤ (j : Int) := by omega
  have hij3 : ¬ ((i : Int) = (j : Int)) := by omega
  have hjn2 : (j : Int) ≤ (n : Int) := by omega
  have hjc : (j : Int) ≤ (cap : Int) := by omega
  have hic : (i : Int) ≤ (cap : Int) := by omega
  have hin : (i : Int) ≤ (n : Int) := by omega
  have hnc : (n : Int) ≤ (cap : Int) := by omega
  have hm0 : (0 : Int) ≤ (m : Int) := by omega
  have hc1 : ¬ (cap = i) := by omega
  have HL9 : Hid (L = xs.take i ++ ys ++ xs.drop j) := hL
  clear hL
  have hq : ¬ ((j : Int) = (n : Int)) := by omega
  have HP : Hid (p = i + m ∧ t = p + (n - j)) := ⟨hp, ht⟩
  have HD : Hid ((xs.drop j).length = n - j) := by show _ = _; rw [List.length_drop]; omega
  have HN : Hid ((Value.slice ao m c2).ownBlock ≠ some g) := hne
  have HR : Hid (RowE pcE w B 35 (.slice (some ⟨g, 0, none⟩) n cap) xs) := h
  have e1 : (i : Int) + (m : Int) = (p : Int) := by omega
  have e2 : (p : Int) + ((n - j : Nat) : Int) = (t : Int) := by omega
  have hpw : IntKind.i64.wrap (p : Int) = (p : Int) := by rw [IntKind.wrap_i64]; omega
  have htw : IntKind.i64.wrap (t : Int) = (t : Int) := by rw [IntKind.wrap_i64]; omega
  have hp0 : (0 : Int) ≤ (p : Int) := by omega
  have ht0 : (0 : Int) ≤ (t : Int) := by omega
  have hpt : (p : Int) ≤ (t : Int) := by omega
  have hit : (i : Int) ≤ (t : Int) := by omega
  have htp : p < t := by omega
  have hti : i < t := by omega
  have hcj : ¬ (cap = j) := by omega
  have hro : ¬ ((cap : Int) < (t : Int)) := by omega
  have hpj : (p : Int) ≤ (j : Int) := by omega
  have htc : (t : Int) ≤ (cap : Int) := by omega
  have htn : (t : Int) ≤ (n : Int) := by omega
  have hcp1 : ¬ (cap = p) := by omega
  clear h u2 u4 u6 u7 u8 hy hm hp ht hne
  go_enter Try.func53, Try.ntmps53
  go_upto_region 9 with fail
  go_quiet (fail)
  obtain ⟨wq, hwq⟩ : ∃ z, z = w.drewN nq := ⟨_, rfl⟩
  rw [← hwq]
  have HQ : Hid (Below w.heap.size w wq ∧ wq.heap.size = w.heap.size) := by rw [hwq]; exact ⟨bel_drewN9 w nq, rfl⟩
  clear hwq
  have hyw : SeesE pcE wq (.slice ao ys.length c2) ys := by rw [HM.out]; exact HY.out.below HQ.out.1
  obtain ⟨w1, hcp, r1, r2⟩ := run_copyW (E := pcE) Try.underlying41 sizeEp (HR.out.below HQ.out.1) i (t - i) (cap - i) (by omega) (by omega) ao m c2 ys hyw (by rw [HM.out]; exact Nat.min_eq_left (by have := HP.out; omega)) n (by rw [HM.out]; have := HP.out; omega)
  have hcp : ∀ ty, (Builtin.copy_ #[41, 41] ty #[.slice (some ⟨g, i * 4, none⟩) (t - i) (cap - i), .slice ao m c2]).run Try.prog wq = .ok (goInt ys.length) w1 := hcp
  have HR1 : Hid (RowE pcE w1.drew B 35 (.slice (some ⟨g, 0, none⟩) n cap) (xs.take i ++ ys ++ xs.drop p)) := by
    have := r1.below (bel_drew w1)
    rw [HM.out, ← HP.out.1] at this
    exact this
  have HG1 : Hid (w.grownBy w1 (some g)) := grown_trans (grown_below _ HQ.out.1) r2
  have HS1 : Hid (SeesE pcE w1.drew (.slice (some ⟨g, j * 4, none⟩) (n - j) (cap - j)) (xs.drop j)) := by
    have := HR1.out.from j (by omega)
    rw [shrink_drop xs ys i j p n HX.out (by omega) (by omega) (by have := HM.out; have := HP.out; omega) (by omega)] at this
    exact this
  clear r1 r2 hyw
  go_upto_region 18 with fail
  clear hcp
  go_region_law (refine step_copyE (E := pcE) Try.underlying41 sizeEp (by rfl) (.tmp 103) (.tmp 106) (by rfl) HR1.out p (t - p) (cap - p) (by omega) (by omega) (by simp [Act.eval, Act.put]; try rfl) (some ⟨g, j * 4, none⟩) (n - j) (cap - j) (by simp [Act.eval, Act.put]) (xs.drop j) (by rw [HD.out]; exact HS1.out) (by rw [HD.out]; have := HP.out; exact Nat.min_eq_left (by omega)) n (by rw [HD.out]; have := HP.out; omega) ?_; intro w2 k1 k2)
  have HK : Hid (RowE pcE w2 B 35 (.slice (some ⟨g, 0, none⟩) t cap) (xs.take i ++ ys ++ xs.drop j) ∧ w.grownBy w2 (some g)) := by
    have k3 := k1.take t (by omega)
    have e3 := HP.out
    have e4 := HM.out
    rw [shrink_list xs ys i j p t n HX.out (by omega) (by omega) (by omega) (by omega) e3.2] at k3
    exact ⟨k3, grown_trans HG1.out ⟨k2.os, k2.tape, k2.output, k2.size, k2.block⟩⟩
  clear k1 k2
  have hct : ¬ (cap = t) := by omega
  obtain ⟨w3, hcl, k1, k2⟩ := run_clearE (E := pcE) Try.underlying41 Try.zeroValue35 zeroEp rfl HK.out.1 t (n - t) (cap - t) (by omega) (by omega)
  have hcl : ∀ ty, (Builtin.clear_ #[41] ty #[.slice (some ⟨g, t * 4, none⟩) (n - t) (cap - t)]).run Try.prog w2 = .ok (.tuple #[]) w3 := hcl
  have HZ : Hid (RowE pcE w3 B 35 (.slice (some ⟨g, 0, none⟩) t cap) (xs.take i ++ ys ++ xs.drop j) ∧ w.grownBy w3 (some g)) := ⟨k1, grown_trans HK.out.2 k2⟩
  clear k1 k2
  go_wp2_with fail
  go_ret
  exact ⟨_, rfl, by rw [HL9.out]; exact HZ.out.1, HZ.out.2, fun k hk => .inl (by simp [Value.ownBlock] at hk; omega)⟩
set_option maxRecDepth 4000 in
set_option maxHeartbeats 8000000 in
theorem srep_mid_same (B g n cap i j m p t : Nat) (ao : Option Addr) (c2 : Nat) (xs ys : List Pc) (w : World) (h : RowE pcE w B 35 (.slice (some ⟨g, 0, none⟩) n cap) xs) (hB : B ≤ w.heap.size) (hl : n ≤ 1000) (hij : i < j) (hjn : j < n) (hy : SeesE pcE w (.slice ao m c2) ys) (hm : ys.length = m) (hm2 : m ≤ 2) (hp : p = i + m) (ht : t = p + (n - j)) (hne : (Value.slice ao m c2).ownBlock ≠ some g) (L : List Pc) (hL : L = xs.take i ++ ys ++ xs.drop j) (hroom : t ≤ cap) (hpj2 : p = j) :
    Calls Try.prog 53 #[.slice (some ⟨g, 0, none⟩) n cap, .int .i64 (i : Int), .int .i64 (j : Int), .slice ao m c2] w fun e w' => ∃ v', e = .returned v' ∧ RowE pcE w' B 35 v' L ∧ w.grownBy w' (some g) ∧ ∀ k, v'.ownBlock = some k → k = g ∨ w.heap.size ≤ k := by
  obtain ⟨u1, u2, u3, u4, u5, cur, u6, u7, u8⟩ := rowE_un h
  have hcm0 : cap ≤ 9223372036854775807 := u4
  have HY : Hid (SeesE pcE w (.slice ao m c2) ys) := hy
  have HM : Hid (ys.length = m) := hm
  have HX : Hid (n = xs.length) := u2
  have hi0 : (0 : Int) ≤ (i : Int) := by omega
  have hij2 : (i : Int) ≤ (j : Int) := by omega
  have hij3 : ¬ ((i : Int) = (j : Int)) := by omega
  have hjn2 : (j : Int) ≤ (n : Int) := by omega
  have hjc : (j : Int) ≤ (cap : Int) := by omega
  have hic : (i : Int) ≤ (cap : Int) := by omega
  have hin : (i : Int) ≤ (n : Int) := by omega
  have hnc : (n : Int) ≤ (cap : Int) := by omega
  have hm0 : (0 : Int) ≤ (m : Int) := by omega
  have hc1 : ¬ (cap = i) := by omega
  have HL9 : Hid (L = xs.take i ++ ys ++ xs.drop j) := hL
  clear hL
  have hq : ¬ ((j : Int) = (n : Int)) := by omega
  have HP : Hid (p = i + m ∧ t = p + (n - j)) := ⟨hp, ht⟩
  have HD : Hid ((xs.drop j).length = n - j) := by show _ = _; rw [List.length_drop]; omega
  have HN : Hid ((Value.slice ao m c2).ownBlock ≠ some g) := hne
  have HR : Hid (RowE pcE w B 35 (.slice (some ⟨g, 0, none⟩) n cap) xs) := h
  have e1 : (i : Int) + (m : Int) = (p : Int) := by omega
  have e2 : (p : Int) + ((n - j : Nat) : Int) = (t : Int) := by omega
  have hpw : IntKind.i64.wrap (p : Int) = (p : Int) := by rw [IntKind.wrap_i64]; omega
  have htw : IntKind.i64.wrap (t : Int) = (t : Int) := by rw [IntKind.wrap_i64]; omega
  have hp0 : (0 : Int) ≤ (p : Int) := by omega
  have ht0 : (0 : Int) ≤ (t : Int) := by omega
  have hpt : (p : Int) ≤ (t : Int) := by omega
  have hit : (i : Int) ≤ (t : Int) := by omega
  have htp : p < t := by omega
  have hti : i < t := by omega
  have hcj : ¬ (cap = j) := by omega
  have hro : ¬ ((cap : Int) < (t : Int)) := by omega
  have hpj : (p : Int) ≤ (j : Int) := by omega
  have htc : (t : Int) ≤ (cap : Int) := by omega
  have htn : (t : Int) ≤ (n : Int) := by omega
  have hcp1 : ¬ (cap = p) := by omega
  have HPJ : Hid (p = j) := hpj2
  clear hpj2
  clear h u2 u4 u6 u7 u8 hy hm hp ht hne
  go_enter Try.func53, Try.ntmps53
  go_upto_region 9 with fail
  go_quiet (fail)
  obtain ⟨wq, hwq⟩ : ∃ z, z = w.drewN nq := ⟨_, rfl⟩
  rw [← hwq]
  have HQ : Hid (Below w.heap.size w wq ∧ wq.heap.size = w.heap.size) := by rw [hwq]; exact ⟨bel_drewN9 w nq, rfl⟩
  clear hwq
  have hyw : SeesE pcE wq (.slice ao ys.length c2) ys := by rw [HM.out]; exact HY.out.below HQ.out.1
  obtain ⟨w1, hcp, r1, r2⟩ := run_copyW (E := pcE) Try.underlying41 sizeEp (HR.out.below HQ.out.1) i (t - i) (cap - i) (by omega) (by omega) ao m c2 ys hyw (by rw [HM.out]; exact Nat.min_eq_left (by have := HP.out; omega)) n (by rw [HM.out]; have := HP.out; omega)
  have hcp : ∀ ty, (Builtin.copy_ #[41, 41] ty #[.slice (some ⟨g, i * 4, none⟩) (t - i) (cap - i), .slice ao m c2]).run Try.prog wq = .ok (goInt ys.length) w1 := hcp
  have HR1 : Hid (RowE pcE w1.drew B 35 (.slice (some ⟨g, 0, none⟩) n cap) (xs.take i ++ ys ++ xs.drop p)) := by
    have := r1.below (bel_drew w1)
    rw [HM.out, ← HP.out.1] at this
    exact this
  have HG1 : Hid (w.grownBy w1 (some g)) := grown_trans (grown_below _ HQ.out.1) r2
  have HS1 : Hid (SeesE pcE w1.drew (.slice (some ⟨g, j * 4, none⟩) (n - j) (cap - j)) (xs.drop j)) := by
    have := HR1.out.from j (by omega)
    rw [shrink_drop xs ys i j p n HX.out (by omega) (by omega) (by have := HM.out; have := HP.out; omega) (by omega)] at this
    exact this
  clear r1 r2 hyw
  go_upto_region 18 with fail
  clear hcp
  go_region_law (refine step_copyE (E := pcE) Try.underlying41 sizeEp (by rfl) (.tmp 103) (.tmp 106) (by rfl) HR1.out p (t - p) (cap - p) (by omega) (by omega) (by simp [Act.eval, Act.put]; try rfl) (some ⟨g, j * 4, none⟩) (n - j) (cap - j) (by simp [Act.eval, Act.put]) (xs.drop j) (by rw [HD.out]; exact HS1.out) (by rw [HD.out]; have := HP.out; exact Nat.min_eq_left (by omega)) n (by rw [HD.out]; have := HP.out; omega) ?_; intro w2 k1 k2)
  have HK : Hid (RowE pcE w2 B 35 (.slice (some ⟨g, 0, none⟩) t cap) (xs.take i ++ ys ++ xs.drop j) ∧ w.grownBy w2 (some g)) := by
    have k3 := k1.take t (by omega)
    have e3 := HP.out
    have e4 := HM.out
    rw [shrink_list xs ys i j p t n HX.out (by omega) (by omega) (by omega) (by omega) e3.2] at k3
    exact ⟨k3, grown_trans HG1.out ⟨k2.os, k2.tape, k2.output, k2.size, k2.block⟩⟩
  clear k1 k2
  obtain rfl : t = n := by have := HPJ.out; have := HP.out; omega
  have hcl : ∀ ty A c, (Builtin.clear_ #[41] ty #[.slice A 0 c]).run Try.prog w2 = .ok (.tuple #[]) w2 := fun ty A c => by cases A <;> simp [Builtin.clear_, run_underlying Try.underlying41]
  by_cases hct : cap = t
  · subst hct
    go_wp2_with fail
    go_ret
    exact ⟨_, rfl, by rw [HL9.out]; exact HK.out.1, HK.out.2, fun k hk => .inl (by simp [Value.ownBlock] at hk; omega)⟩
  · go_wp2_with fail
    go_ret
    exact ⟨_, rfl, by rw [HL9.out]; exact HK.out.1, HK.out.2, fun k hk => .inl (by simp [Value.ownBlock] at hk; omega)⟩
set_option maxRecDepth 4000 in
set_option maxHeartbeats 8000000 in
theorem srep_mid_more (B g n cap i j m p t : Nat) (ao : Option Addr) (c2 : Nat) (xs ys : List Pc) (w : World) (h : RowE pcE w B 35 (.slice (some ⟨g, 0, none⟩) n cap) xs) (hB : B ≤ w.heap.size) (hl : n ≤ 1000) (hij : i < j) (hjn : j < n) (hy : SeesE pcE w (.slice ao m c2) ys) (hm : ys.length = m) (hm2 : m ≤ 2) (hp : p = i + m) (ht : t = p + (n - j)) (hne : (Value.slice ao m c2).ownBlock ≠ some g) (hsh : ∀ b off, ao = some ⟨b, off, none⟩ → ∃ cu : Array Value, w.heap[b]? = some (.cells cu 35) ∧ cu.size ≠ 0) (L : List Pc) (hL : L = xs.take i ++ ys ++ xs.drop j) (hroom : t ≤ cap) (hpj2 : j < p) :
    Calls Try.prog 53 #[.slice (some ⟨g, 0, none⟩) n cap, .int .i64 (i : Int), .int .i64 (j : Int), .slice ao m c2] w fun e w' => ∃ v', e = .returned v' ∧ RowE pcE w' B 35 v' L ∧ w.grownBy w' (some g) ∧ ∀ k, v'.ownBlock = some k → k = g ∨ w.heap.size ≤ k := by
  obtain ⟨u1, u2, u3, u4, u5, cur, u6, u7, u8⟩ := rowE_un h
  have hcm0 : cap ≤ 9223372036854775807 := u4
  have HY : Hid (SeesE pcE w (.slice ao m c2) ys) := hy
  have HM : Hid (ys.length = m) := hm
  have HX : Hid (n = xs.length) := u2
  have hi0 : (0 : Int) ≤ (i : Int) := by omega
  have hij2 : (i : Int) ≤ (j : Int) := by omega
  have hij3 : ¬ ((i : Int) = (j : Int)) := by omega
  have hjn2 : (j : Int) ≤ (n : Int) := by omega
  have hjc : (j : Int) ≤ (cap : Int) := by omega
  have hic : (i : Int) ≤ (cap : Int) := by omega
  have hin : (i : Int) ≤ (n : Int) := by omega
  have hnc : (n : Int) ≤ (cap : Int) := by omega
  have hm0 : (0 : Int) ≤ (m : Int) := by omega
  have hc1 : ¬ (cap = i) := by omega
  have HL9 : Hid (L = xs.take i ++ ys ++ xs.drop j) := hL
  clear hL
  have hq : ¬ ((j : Int) = (n : Int)) := by omega
  have HP : Hid (p = i + m ∧ t = p + (n - j)) := ⟨hp, ht⟩
  have HD : Hid ((xs.drop j).length = n - j) := by show _ = _; rw [List.length_drop]; omega
  have HN : Hid ((Value.slice ao m c2).ownBlock ≠ some g) := hne
  have HR : Hid (RowE pcE w B 35 (.slice (some ⟨g, 0, none⟩) n cap) xs) := h
  have e1 : (i : Int) + (m : Int) = (p : Int) := by omega
  have e2 : (p : Int) + ((n - j : Nat) : Int) = (t : Int) := by omega
  have hpw : IntKind.i64.wrap (p : Int) = (p : Int) := by rw [IntKind.wrap_i64]; omega
  have htw : IntKind.i64.wrap (t : Int) = (t : Int) := by rw [IntKind.wrap_i64]; omega
  have hp0 : (0 : Int) ≤ (p : Int) := by omega
  have ht0 : (0 : Int) ≤ (t : Int) := by omega
  have hpt : (p : Int) ≤ (t : Int) := by omega
  have hit : (i : Int) ≤ (t : Int) := by omega
  have htp : p < t := by omega
  have hti : i < t := by omega
  have hcj : ¬ (cap = j) := by omega
  have hro : ¬ ((cap : Int) < (t : Int)) := by omega
  have hpj : ¬ ((p : Int) ≤ (j : Int)) := by omega
  have htc : (t : Int) ≤ (cap : Int) := by omega
  have hcp1 : ¬ (cap = p) := by omega
  have HG6 : Hid (w.heap[g]? = some (.cells cur 35) ∧ ∀ b off, ao = some ⟨b, off, none⟩ → ∃ cu : Array Value, w.heap[b]? = some (.cells cu 35) ∧ cu.size ≠ 0) := ⟨u6, hsh⟩
  clear hsh h u2 u4 u6 u7 u8 hy hm hp ht hne
  go_enter Try.func53, Try.ntmps53
  go_upto_region 9 with fail
  go_quiet (fail)
  obtain ⟨wq, hwq⟩ : ∃ z, z = w.drewN nq := ⟨_, rfl⟩
  rw [← hwq]
  have HQ : Hid (Below w.heap.size w wq ∧ wq.heap.size = w.heap.size) := by rw [hwq]; exact ⟨bel_drewN9 w nq, rfl⟩
  clear hwq
  have hov : ∀ lb cb, (callFunc 54 #[.slice (some ⟨g, p * 4, none⟩) lb cb, .slice ao m c2]).run Try.prog wq = .ok (.value (.bool false)) wq := by
    obtain ⟨b, off, e0, _, hb, hc⟩ := HY.out |> fun h => (by rw [← HM.out] at h; exact h.cells (by have := HM.out; have := HP.out; omega))
    subst e0
    obtain ⟨cu, s1, s2⟩ := HG6.out.2 b off rfl
    intro lb cb
    exact over_no2 wq g b _ off lb cb m c2 cur (blk_below HQ.out.1 HG6.out.1) cu (blk_below HQ.out.1 s1) s2 (fun e => HN.out (by rw [e]; rfl))
  have HR1 : Hid (RowE pcE wq.drew B 35 (.slice (some ⟨g, 0, none⟩) n cap) xs) := (HR.out.below HQ.out.1).below (bel_drew wq)
  have HS1 : Hid (SeesE pcE wq.drew (.slice (some ⟨g, j * 4, none⟩) (n - j) (cap - j)) (xs.drop j)) := HR1.out.from j (by omega)
  go_upto_region 22 with (simp only [hov])
  clear hov
  go_region_law (refine step_copyE (E := pcE) Try.underlying41 sizeEp (by rfl) (.tmp 126) (.tmp 129) (by rfl) HR1.out p (t - p) (cap - p) (by omega) (by omega) (by simp [Act.eval, Act.put]; try rfl) (some ⟨g, j * 4, none⟩) (n - j) (cap - j) (by simp [Act.eval, Act.put]) (xs.drop j) (by rw [HD.out]; exact HS1.out) (by rw [HD.out]; have := HP.out; exact Nat.min_eq_left (by omega)) t (by rw [HD.out]; have := HP.out; omega) ?_; intro w1 k1 k2)
  have HG1 : Hid (w.grownBy w1 (some g)) := grown_trans (grown_below _ HQ.out.1) ⟨k2.os, k2.tape, k2.output, k2.size, k2.block⟩
  have hyw : SeesE pcE w1 (.slice ao ys.length c2) ys := by rw [HM.out]; exact sees_grown HY.out HG1.out (.inr HN.out)
  obtain ⟨w2, hcp, r1, r2⟩ := run_copyW (E := pcE) Try.underlying41 sizeEp k1 i (t - i) (cap - i) (by omega) (by omega) ao m c2 ys hyw (by rw [HM.out]; exact Nat.min_eq_left (by have := HP.out; omega)) t (by rw [HM.out]; have := HP.out; omega)
  have hcp : ∀ ty, (Builtin.copy_ #[41, 41] ty #[.slice (some ⟨g, i * 4, none⟩) (t - i) (cap - i), .slice ao m c2]).run Try.prog w1 = .ok (goInt ys.length) w2 := hcp
  have HZ : Hid (RowE pcE w2 B 35 (.slice (some ⟨g, 0, none⟩) t cap) (xs.take i ++ ys ++ xs.drop j) ∧ w.grownBy w2 (some g)) := by
    have e3 := HP.out
    have e4 := HM.out
    rw [HD.out, HM.out, ← e3.1, ← e3.2] at r1
    rw [exp_list xs ys i j p t n HX.out (by omega) (by omega) (by omega) (by omega) (by omega)] at r1
    exact ⟨r1, grown_trans HG1.out r2⟩
  clear r1 r2 k1 k2 hyw
  go_wp2_with fail
  go_ret
  exact ⟨_, rfl, by rw [HL9.out]; exact HZ.out.1, HZ.out.2, fun k hk => .inl (by simp [Value.ownBlock] at hk; omega)⟩
end Go.Proofs.Ythdmclhccbjgoaa
