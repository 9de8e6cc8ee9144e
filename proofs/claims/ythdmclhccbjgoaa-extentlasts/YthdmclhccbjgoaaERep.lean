/- slices.Replace of pieces by two at most, in a row of the map's own. -/
import Derived.Test.YthdmclhccbjgoaaEIns
import Derived.BigQuiet
import Derived.Deep.QuietTactic
namespace Go.Proofs.Ythdmclhccbjgoaa
open Go.RowKit Kit
set_option linter.unusedVariables false

theorem shrink_list (xs ys : List Pc) (i j p t n : Nat) (hn : n = xs.length) (hij : i < j) (hj : j ≤ n) (hp : p = i + ys.length) (hpj : p ≤ j) (ht : t = p + (n - j)) :
    List.take t (List.take p (List.take i xs ++ ys ++ List.drop p xs) ++ List.drop j xs ++ List.drop (p + (List.drop j xs).length) (List.take i xs ++ ys ++ List.drop p xs)) = xs.take i ++ ys ++ xs.drop j := by
  have h1 : (List.take i xs).length = i := by rw [List.length_take]; omega
  have h2 : (List.take i xs ++ ys).length = p := by rw [List.length_append, h1]; omega
  rw [List.take_append_of_le_length (l₁ := List.take i xs ++ ys) (by omega), List.take_of_length_le (l := List.take i xs ++ ys) (by omega)]
  rw [List.take_append_of_le_length (by rw [List.length_append, h2, List.length_drop]; omega), List.take_of_length_le (by rw [List.length_append, h2, List.length_drop]; omega)]
theorem shrink_drop (xs ys : List Pc) (i j p n : Nat) (hn : n = xs.length) (hij : i < j) (hj : j ≤ n) (hp : p = i + ys.length) (hpj : p ≤ j) : List.drop j (List.take i xs ++ ys ++ List.drop p xs) = xs.drop j := by
  have h1 : (List.take i xs).length = i := by rw [List.length_take]; omega
  have h2 : (List.take i xs ++ ys).length = p := by rw [List.length_append, h1]; omega
  rw [List.drop_append, List.drop_of_length_le (by omega), List.nil_append, h2, List.drop_drop]
  congr 1
  omega
theorem exp_list (xs ys : List Pc) (i j p t n : Nat) (hn : n = xs.length) (hij : i < j) (hj : j ≤ n) (hp : p = i + ys.length) (hpn : p ≤ n) (ht : n ≤ t) :
    List.take i (List.take p xs ++ List.drop j xs ++ List.drop t xs) ++ ys ++ List.drop p (List.take p xs ++ List.drop j xs ++ List.drop t xs) = xs.take i ++ ys ++ xs.drop j := by
  have h1 : (List.take p xs).length = p := by rw [List.length_take]; omega
  rw [List.drop_of_length_le (l := xs) (i := t) (by omega), List.append_nil, List.take_append_of_le_length (by omega), List.take_take, Nat.min_eq_left (by omega), List.drop_append, List.drop_of_length_le (l := List.take p xs) (by omega), h1, Nat.sub_self, List.drop_zero, List.nil_append]
set_option maxRecDepth 4000 in
set_option maxHeartbeats 8000000 in
theorem srep_end_keep (B g n cap i m p : Nat) (ao : Option Addr) (c2 : Nat) (xs ys : List Pc) (w : World) (h : RowE pcE w B 35 (.slice (some ⟨g, 0, none⟩) n cap) xs) (hB : B ≤ w.heap.size) (hl : n ≤ 1000) (hij : i < n) (hy : SeesE pcE w (.slice ao m c2) ys) (hm : ys.length = m) (hm2 : m ≤ 2) (hp : p = i + m) (hne : (Value.slice ao m c2).ownBlock ≠ some g) (hroom : p ≤ cap) (hfull : ¬ p < n) :
    Calls Try.prog 53 #[.slice (some ⟨g, 0, none⟩) n cap, .int .i64 (i : Int), .int .i64 (n : Int), .slice ao m c2] w fun e w' => ∃ v', e = .returned v' ∧ RowE pcE w' B 35 v' (xs.take i ++ ys ++ xs.drop n) ∧ w.grownBy w' (some g) ∧ ∀ k, v'.ownBlock = some k → k = g ∨ w.heap.size ≤ k := by
  obtain ⟨u1, u2, u3, u4, u5, cur, u6, u7, u8⟩ := rowE_un h
  have hcm0 : cap ≤ 9223372036854775807 := u4
  have HY : Hid (SeesE pcE w (.slice ao m c2) ys) := hy
  have HM : Hid (ys.length = m) := hm
  have HX : Hid (n = xs.length) := u2
  have hi0 : (0 : Int) ≤ (i : Int) := by omega
  have hij2 : (i : Int) ≤ (n : Int) := by omega
  have hij3 : ¬ ((i : Int) = (n : Int)) := by omega
  have hjn2 : (n : Int) ≤ (n : Int) := by omega
  have hjc : (n : Int) ≤ (cap : Int) := by omega
  have hic : (i : Int) ≤ (cap : Int) := by omega
  have hin : (i : Int) ≤ (n : Int) := by omega
  have hnc : (n : Int) ≤ (cap : Int) := by omega
  have hm0 : (0 : Int) ≤ (m : Int) := by omega
  have hc1 : ¬ (cap = i) := by omega
  have HR : Hid (RowE pcE w B 35 (.slice (some ⟨g, 0, none⟩) i cap) (xs.take i)) := h.take i (by omega)
  have HP : Hid (p = i + m) := hp
  have HD : Hid (xs.drop n = []) := List.drop_eq_nil_of_le (by omega)
  have HC : Hid (i + ys.length ≤ cap) := by show _ ≤ _; omega
  have hpn : ¬ ((p : Int) < (n : Int)) := by omega
  clear h u2 u4 u6 u7 u8 hy hm hp hne
  go_enter Try.func53, Try.ntmps53
  go_upto_region 6 with (at_builtin; refine wpList_roomE (E := pcE) Try.underlying41 sizeEp rfl _ _ rfl HR.out rfl (.slice ao m c2) rfl ys HY.out HC.out ?_; rw [HM.out, ← HP.out]; intro w1 k1 k2)
  have HK : Hid (RowE pcE w1 B 35 (.slice (some ⟨g, 0, none⟩) p cap) (xs.take i ++ ys) ∧ w.grownBy w1 (some g)) := ⟨k1, k2⟩
  clear k1 k2
  go_wp2_with fail
  go_ret
  rw [HD.out, List.append_nil]
  exact ⟨_, rfl, HK.out.1, HK.out.2, fun k hk => .inl (by simp [Value.ownBlock] at hk; omega)⟩
set_option maxRecDepth 4000 in
set_option maxHeartbeats 8000000 in
theorem srep_end_clear (B g n cap i m p : Nat) (ao : Option Addr) (c2 : Nat) (xs ys : List Pc) (w : World) (h : RowE pcE w B 35 (.slice (some ⟨g, 0, none⟩) n cap) xs) (hB : B ≤ w.heap.size) (hl : n ≤ 1000) (hij : i < n) (hy : SeesE pcE w (.slice ao m c2) ys) (hm : ys.length = m) (hm2 : m ≤ 2) (hp : p = i + m) (hne : (Value.slice ao m c2).ownBlock ≠ some g) (hroom : p ≤ cap) (hfull : p < n) :
    Calls Try.prog 53 #[.slice (some ⟨g, 0, none⟩) n cap, .int .i64 (i : Int), .int .i64 (n : Int), .slice ao m c2] w fun e w' => ∃ v', e = .returned v' ∧ RowE pcE w' B 35 v' (xs.take i ++ ys ++ xs.drop n) ∧ w.grownBy w' (some g) ∧ ∀ k, v'.ownBlock = some k → k = g ∨ w.heap.size ≤ k := by
  obtain ⟨u1, u2, u3, u4, u5, cur, u6, u7, u8⟩ := rowE_un h
  have hcm0 : cap ≤ 9223372036854775807 := u4
  have HY : Hid (SeesE pcE w (.slice ao m c2) ys) := hy
  have HM : Hid (ys.length = m) := hm
  have HX : Hid (n = xs.length) := u2
  have hi0 : (0 : Int) ≤ (i : Int) := by omega
  have hij2 : (i : Int) ≤ (n : Int) := by omega
  have hij3 : ¬ ((i : Int) = (n : Int)) := by omega
  have hjn2 : (n : Int) ≤ (n : Int) := by omega
  have hjc : (n : Int) ≤ (cap : Int) := by omega
  have hic : (i : Int) ≤ (cap : Int) := by omega
  have hin : (i : Int) ≤ (n : Int) := by omega
  have hnc : (n : Int) ≤ (cap : Int) := by omega
  have hm0 : (0 : Int) ≤ (m : Int) := by omega
  have hc1 : ¬ (cap = i) := by omega
  have HR : Hid (RowE pcE w B 35 (.slice (some ⟨g, 0, none⟩) i cap) (xs.take i)) := h.take i (by omega)
  have HP : Hid (p = i + m) := hp
  have HD : Hid (xs.drop n = []) := List.drop_eq_nil_of_le (by omega)
  have HC : Hid (i + ys.length ≤ cap) := by show _ ≤ _; omega
  have hpn : (p : Int) < (n : Int) := by omega
  have hpn2 : (p : Int) ≤ (n : Int) := by omega
  have hp0 : (0 : Int) ≤ (p : Int) := by omega
  have hcp : ¬ (cap = p) := by omega
  clear h u2 u4 u6 u7 u8 hy hm hp hne
  go_enter Try.func53, Try.ntmps53
  go_upto_region 6 with (at_builtin; refine wpList_roomE (E := pcE) Try.underlying41 sizeEp rfl _ _ rfl HR.out rfl (.slice ao m c2) rfl ys HY.out HC.out ?_; rw [HM.out, ← HP.out]; intro w1 k1 k2)
  have HK : Hid (RowE pcE w1 B 35 (.slice (some ⟨g, 0, none⟩) p cap) (xs.take i ++ ys) ∧ w.grownBy w1 (some g)) := ⟨k1, k2⟩
  clear k1 k2
  obtain ⟨w2, hcl, k1, k2⟩ := run_clearE (E := pcE) Try.underlying41 Try.zeroValue35 zeroEp rfl HK.out.1 p (n - p) (cap - p) (by omega) (by omega)
  have hcl : ∀ ty, (Builtin.clear_ #[41] ty #[.slice (some ⟨g, p * 4, none⟩) (n - p) (cap - p)]).run Try.prog w1 = .ok (.tuple #[]) w2 := hcl
  have HZ : Hid (RowE pcE w2 B 35 (.slice (some ⟨g, 0, none⟩) p cap) (xs.take i ++ ys) ∧ w.grownBy w2 (some g)) := ⟨k1, grown_trans HK.out.2 k2⟩
  clear k1 k2
  go_wp2_with fail
  go_ret
  rw [HD.out, List.append_nil]
  exact ⟨_, rfl, HZ.out.1, HZ.out.2, fun k hk => .inl (by simp [Value.ownBlock] at hk; omega)⟩
set_option maxRecDepth 4000 in
set_option maxHeartbeats 8000000 in
theorem srep_end_grow (B g n cap i m p : Nat) (ao : Option Addr) (c2 : Nat) (xs ys : List Pc) (w : World) (h : RowE pcE w B 35 (.slice (some ⟨g, 0, none⟩) n cap) xs) (hB : B ≤ w.heap.size) (hl : n ≤ 1000) (hij : i < n) (hy : SeesE pcE w (.slice ao m c2) ys) (hm : ys.length = m) (hm2 : m ≤ 2) (hp : p = i + m) (hne : (Value.slice ao m c2).ownBlock ≠ some g) (hroom : cap < p) :
    Calls Try.prog 53 #[.slice (some ⟨g, 0, none⟩) n cap, .int .i64 (i : Int), .int .i64 (n : Int), .slice ao m c2] w fun e w' => ∃ v', e = .returned v' ∧ RowE pcE w' B 35 v' (xs.take i ++ ys ++ xs.drop n) ∧ w.grownBy w' (some g) ∧ ∀ k, v'.ownBlock = some k → k = g ∨ w.heap.size ≤ k := by
  obtain ⟨u1, u2, u3, u4, u5, cur, u6, u7, u8⟩ := rowE_un h
  have hcm0 : cap ≤ 9223372036854775807 := u4
  have HY : Hid (SeesE pcE w (.slice ao m c2) ys) := hy
  have HM : Hid (ys.length = m) := hm
  have HX : Hid (n = xs.length) := u2
  have hi0 : (0 : Int) ≤ (i : Int) := by omega
  have hij2 : (i : Int) ≤ (n : Int) := by omega
  have hij3 : ¬ ((i : Int) = (n : Int)) := by omega
  have hjn2 : (n : Int) ≤ (n : Int) := by omega
  have hjc : (n : Int) ≤ (cap : Int) := by omega
  have hic : (i : Int) ≤ (cap : Int) := by omega
  have hin : (i : Int) ≤ (n : Int) := by omega
  have hnc : (n : Int) ≤ (cap : Int) := by omega
  have hm0 : (0 : Int) ≤ (m : Int) := by omega
  have hc1 : ¬ (cap = i) := by omega
  have HR : Hid (RowE pcE w B 35 (.slice (some ⟨g, 0, none⟩) i cap) (xs.take i)) := h.take i (by omega)
  have HP : Hid (p = i + m) := hp
  have HD : Hid (xs.drop n = []) := List.drop_eq_nil_of_le (by omega)
  have HC : Hid ((xs.take i).length + ys.length ≤ maxLen ∧ ((xs.take i).length + ys.length) * 32 ≤ 140737488355328 ∧ (xs.take i).length + ys.length = p) := by
    have : (xs.take i).length = i := by rw [List.length_take]; omega
    exact ⟨by unfold maxLen; omega, by omega, by omega⟩
  have hpn : ¬ ((p : Int) < (n : Int)) := by omega
  clear h u2 u4 u6 u7 u8 hy hm hp hne
  go_enter Try.func53, Try.ntmps53
  go_upto_region 6 with (at_builtin; refine wpList_appF (E := pcE) Try.underlying41 infoEp rfl rfl _ _ rfl B _ (xs.take i) rfl HR.out (.slice ao m c2) ys rfl HY.out HC.out.1 HC.out.2.1 hB ?_; intro v1 w1 k1 k2 k3; have HK : Hid (RowE pcE w1 B 35 v1 (xs.take i ++ ys) ∧ w.grownBy w1 (some g) ∧ ∀ k, v1.ownBlock = some k → k = g ∨ w.heap.size ≤ k) := ⟨k1, k2, fun k hk => (k3 k hk).imp (fun e => by have e2 : some g = some k := e; injection e2 with e2; exact e2.symm) id⟩; obtain ⟨a1, c1, hv1⟩ := k1.sees.form; rw [List.length_append, HC.out.2.2] at hv1; subst hv1; clear k1 k2 k3)
  go_wp2_with fail
  go_ret
  rw [HD.out, List.append_nil]
  exact ⟨_, rfl, HK.out.1, HK.out.2.1, HK.out.2.2⟩
end Go.Proofs.Ythdmclhccbjgoaa
