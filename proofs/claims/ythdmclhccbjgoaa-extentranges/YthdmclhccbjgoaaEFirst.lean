/- package extent: firstPast and among. -/
import Derived.Test.YthdmclhccbjgoaaESearch
import Derived.Test.YthdmclhccbjgoaaMExt5
namespace Go.Proofs.Ythdmclhccbjgoaa
open Go.RowKit Kit
set_option linter.unusedVariables false

/-- How many pieces end at o or ahead of it. -/
def firstI (o : Int) (l : List Pc) : Nat := (l.takeWhile fun x => decide (x.off + x.len ≤ o)).length
theorem tw_len {q : Pc → Bool} : ∀ (l : List Pc) (r : Nat) (hr : r ≤ l.length), (∀ (j : Nat) (hj : j < l.length), j < r → q l[j] = true) → (∀ h : r < l.length, q l[r] = false) → (l.takeWhile q).length = r
  | [], r, hr, _, _ => by simp at hr; simp [hr]
  | x :: l, 0, _, _, h2 => by
    have := h2 (by simp)
    simp only [List.getElem_cons_zero] at this
    rw [List.takeWhile_cons_of_neg (by simp [this])]; rfl
  | x :: l, r + 1, hr, h1, h2 => by
    have h0 := h1 0 (by simp) (by omega)
    simp only [List.getElem_cons_zero] at h0
    rw [List.takeWhile_cons_of_pos h0, List.length_cons, tw_len l r (by simpa using hr) (fun j hj hjr => by have := h1 (j + 1) (by simpa using hj) (by omega); simpa using this) (fun h => by have := h2 (by simpa using h); simpa using this)]
theorem rise_le {l : List Pc} (h : Rise l) {i j : Nat} (hij : i < j) (hj : j < l.length) : (l[i]'(by omega)).off + (l[i]'(by omega)).len ≤ l[j].off := List.pairwise_iff_getElem.1 h.2 i j (by omega) hj hij
theorem rise_len {l : List Pc} (h : Rise l) {i : Nat} (hi : i < l.length) : 1 ≤ l[i].len := h.1 _ (List.getElem_mem _)
def pastP (o : Int) (l : List Pc) (i : Nat) : Bool := match l[i]? with | some x => decide (o < x.off + x.len) | none => false
def fromP (o : Int) (l : List Pc) (i : Nat) : Bool := match l[i]? with | some x => decide (o ≤ x.off) | none => false
theorem pastP_at {o : Int} {l : List Pc} {i : Nat} (h : i < l.length) : pastP o l i = decide (o < l[i].off + l[i].len) := by unfold pastP; rw [List.getElem?_eq_getElem h]
theorem fromP_at {o : Int} {l : List Pc} {i : Nat} (h : i < l.length) : fromP o l i = decide (o ≤ l[i].off) := by unfold fromP; rw [List.getElem?_eq_getElem h]
theorem first_is {o : Int} {l : List Pc} (h : Rise l) {r : Nat} (hr : r ≤ l.length) (h1 : 0 < r → pastP o l (r - 1) = false) (h2 : r < l.length → pastP o l r = true) : r = firstI o l := by
  refine (tw_len l r hr (fun j hj hjr => ?_) (fun hlt => ?_)).symm
  · have h3 := h1 (by omega)
    rw [pastP_at (by omega), decide_eq_false_iff_not] at h3
    rcases Nat.lt_or_ge j (r - 1) with h4 | h4
    · have h5 := rise_le h h4 (by omega)
      have h6 := rise_len h (i := r - 1) (by omega)
      simp; omega
    · have : j = r - 1 := by omega
      subst this
      simp; omega
  · have h3 := h2 hlt
    rw [pastP_at hlt, decide_eq_true_eq] at h3
    simp; omega
theorem from_is {o : Int} {l : List Pc} (h : Rise l) {r : Nat} (hr : r ≤ l.length) (h1 : 0 < r → fromP o l (r - 1) = false) (h2 : r < l.length → fromP o l r = true) : r = aheadB o l := by
  refine (tw_len l r hr (fun j hj hjr => ?_) (fun hlt => ?_)).symm
  · have h3 := h1 (by omega)
    rw [fromP_at (by omega), decide_eq_false_iff_not] at h3
    rcases Nat.lt_or_ge j (r - 1) with h4 | h4
    · have h5 := rise_le h h4 (by omega)
      have h6 := rise_len h (i := j) (by omega)
      simp; omega
    · have : j = r - 1 := by omega
      subst this
      simp; omega
  · have h3 := h2 hlt
    rw [fromP_at hlt, decide_eq_true_eq] at h3
    simp; omega
set_option maxRecDepth 4000 in
set_option maxHeartbeats 4000000 in
theorem eff_any (bl bo i : Nat) (o : Int) (v : Value) (ps : List Pc) (W : World) (hl : W.heap[bl]? = some (.cells #[v] 41)) (ho : W.heap[bo]? = some (.cells #[.int .i64 o] 3)) (hs : SeesE pcE W v ps) (hi : i < ps.length) (hf : Fits ps) (hn : ps.length ≤ 100000) :
    Calls Try.prog 48 #[.int .i64 (i : Int), .pointer (some ⟨bl, 0, none⟩), .pointer (some ⟨bo, 0, none⟩)] W fun e w' => e = .returned (.bool (pastP o ps i)) ∧ Below W.heap.size W w' := by
  obtain ⟨ao, cap, rfl⟩ := hs.form
  obtain ⟨k, hk⟩ : ∃ k, k = ps.length := ⟨_, rfl⟩
  rw [← hk] at hl hs
  obtain ⟨B, off, e, hkk, hB, hc⟩ := pc_cells hs (by omega)
  clear hkk
  subst e
  obtain ⟨c0, c1, c2, c3⟩ := hc i hi
  have HR : Hid (pastP o ps i = decide (o < ps[i].off + ps[i].len)) := pastP_at hi
  obtain ⟨p, hp⟩ : ∃ p, p = ps[i] := ⟨_, rfl⟩
  have hfp : Fit p := by rw [hp]; exact hf _ (List.getElem_mem _)
  rw [← hp] at c0 c1 c2 c3 HR
  clear hp hc
  obtain ⟨f0, f1, f2, f3, f4, f5, f6⟩ := hfp
  obtain ⟨po, pl, pg, pp⟩ := p
  simp only at c0 c1 c2 c3 f0 f1 f2 f3 f4 f5 f6 HR
  have hik : (i : Int) < (k : Int) := by omega
  have hi0 : (0 : Int) ≤ (i : Int) := by omega
  have hki : (k : Int) ≤ 100000 := by omega
  have hbl := blk_lt hl
  have hbo := blk_lt ho
  have t0 : ∀ n : OwnW W, n.1.cell? ⟨B, off + i * 4, none⟩ = some (.int .i64 po) := fun n => (n.2.cell (by exact hB)).trans c0
  have t1 : ∀ n : OwnW W, n.1.cell? ⟨B, off + i * 4 + 1, none⟩ = some (.int .i64 pl) := fun n => (n.2.cell (by exact hB)).trans c1
  have t2 : ∀ n : OwnW W, n.1.cell? ⟨B, off + i * 4 + 2, none⟩ = some (.int .i64 pg) := fun n => (n.2.cell (by exact hB)).trans c2
  have t3 : ∀ n : OwnW W, n.1.cell? ⟨B, off + i * 4 + 3, none⟩ = some (.int .i64 pp) := fun n => (n.2.cell (by exact hB)).trans c3
  have q0 : ∀ n : OwnW W, n.1.cell? ⟨bl, 0, none⟩ = some (.slice (some ⟨B, off, none⟩) k cap) := fun n => (n.2.cell (by exact hbl)).trans (blk_cell hl rfl)
  have q1 : ∀ n : OwnW W, n.1.cell? ⟨bo, 0, none⟩ = some (.int .i64 o) := fun n => (n.2.cell (by exact hbo)).trans (blk_cell ho rfl)
  have hne := ownW_nonempty W
  have HE : Hid (∀ n : OwnW W, Calls Try.prog 36 #[.agg #[.int .i64 po, .int .i64 pl, .int .i64 pg, .int .i64 pp]] n.1 fun e w'' => e = .returned (.int .i64 (po + pl)) ∧ ∃ m : OwnW W, w'' = m.1) := fun n => Calls.own_of (epend_any po pl pg pp n.1 f0 (by omega) (by omega) (by omega))
  clear c0 c1 c2 c3 hl ho hs hf hn hk hi
  go_enter Try.func48, Try.ntmps48
  go_wp2_with fail
  refine wp_region_own (by kernel_rfl) (by kernel_rfl) ?_
  repeat (go_big_quiet_step (exact HE.out _))
  refine wpQuiet_nil ?_
  rintro _ ⟨m, rfl⟩
  have HM : Hid (Below W.heap.size W m.1) := m.2
  go_wp2
  go_ret
  exact ⟨by rw [HR.out]; rfl, HM.out⟩
set_option maxRecDepth 4000 in
set_option maxHeartbeats 4000000 in
theorem eamf_any (bl bo i : Nat) (o : Int) (v : Value) (ps : List Pc) (W : World) (hl : W.heap[bl]? = some (.cells #[v] 41)) (ho : W.heap[bo]? = some (.cells #[.int .i64 o] 3)) (hs : SeesE pcE W v ps) (hi : i < ps.length) (hf : Fits ps) (hn : ps.length ≤ 100000) :
    Calls Try.prog 49 #[.int .i64 (i : Int), .pointer (some ⟨bl, 0, none⟩), .pointer (some ⟨bo, 0, none⟩)] W fun e w' => e = .returned (.bool (fromP o ps i)) ∧ Below W.heap.size W w' := by
  obtain ⟨ao, cap, rfl⟩ := hs.form
  obtain ⟨k, hk⟩ : ∃ k, k = ps.length := ⟨_, rfl⟩
  rw [← hk] at hl hs
  obtain ⟨B, off, e, hkk, hB, hc⟩ := pc_cells hs (by omega)
  clear hkk
  subst e
  obtain ⟨c0, c1, c2, c3⟩ := hc i hi
  have HR : Hid (fromP o ps i = decide (o ≤ ps[i].off)) := fromP_at hi
  obtain ⟨p, hp⟩ : ∃ p, p = ps[i] := ⟨_, rfl⟩
  rw [← hp] at c0 c1 c2 c3 HR
  clear hp hc
  obtain ⟨po, pl, pg, pp⟩ := p
  simp only at c0 c1 c2 c3 HR
  have hik : (i : Int) < (k : Int) := by omega
  have hi0 : (0 : Int) ≤ (i : Int) := by omega
  have hki : (k : Int) ≤ 100000 := by omega
  have q0 : W.cell? ⟨bl, 0, none⟩ = some (.slice (some ⟨B, off, none⟩) k cap) := blk_cell hl rfl
  have q1 : W.cell? ⟨bo, 0, none⟩ = some (.int .i64 o) := blk_cell ho rfl
  clear c1 c2 c3 hl ho hs hf hn hk hi
  go_enter Try.func49, Try.ntmps49
  go_wp2_with fail
  go_quiet (fail)
  have HM : Hid (Below W.heap.size W (W.drewN nq)) := bel_drewN9 _ _
  go_wp2
  go_ret
  exact ⟨by rw [HR.out]; rfl, HM.out⟩
theorem enter9 {f : FuncId} {fn : Func} {c : Code} (hf : Try.prog.funcs[f]? = some fn) (hname : (fn.name == "runtime.NumGoroutine") = false) (hb : fn.body = some c) (args : Array Value) (w : World) :
    (callFunc f args).run Try.prog w = .ok (.enter f args) w := by
  have h1 : fn.name ≠ "runtime.NumGoroutine" := by simpa using hname
  simp [callFunc, hf, h1, hb]
theorem alloc_at (w : World) (o : Obj) {k : Nat} (h : k = w.heap.size) : (w.alloc o).heap[k]? = some o := by subst h; exact (MapKept.heap_alloc w o).1
set_option maxRecDepth 4000 in
set_option maxHeartbeats 4000000 in
theorem efirst_any (p : Nat) (o : Int) (v : Value) (ps : List Pc) (w : World) (hp : w.heap[p]? = some (.cells #[v] 59)) (hs : SeesE pcE w v ps) (hr : Rise ps) (hf : Fits ps) (hn : ps.length ≤ 1000) :
    Calls Try.prog 32 #[.pointer (some ⟨p, 0, none⟩), .int .i64 o] w fun e w' => e = .returned (.int .i64 (firstI o ps : Nat)) ∧ Below w.heap.size w w' := by
  obtain ⟨ao, cap, rfl⟩ := hs.form
  obtain ⟨k, hk⟩ : ∃ k, k = ps.length := ⟨_, rfl⟩
  rw [← hk] at hp hs
  have HK : Hid (k = ps.length ∧ Rise ps ∧ Fits ps) := ⟨hk, hr, hf⟩
  have HP : Hid (w.heap[p]? = some (.cells #[.slice ao k cap] 59)) := hp
  have HS : Hid (SeesE pcE w (.slice ao k cap) ps) := hs
  have hki : (k : Int) ≤ 1000 := by omega
  have HC : Hid (∀ (W : World) (bl bo : Nat), Below w.heap.size w W → W.heap[bl]? = some (.cells #[.slice ao k cap] 41) → W.heap[bo]? = some (.cells #[.int .i64 o] 3) →
      Calls Try.prog 47 #[.int .i64 (k : Int), .func (.func 48) #[] #[.pointer (some ⟨bl, 0, none⟩), .pointer (some ⟨bo, 0, none⟩)]] W fun e w' => e = .returned (.int .i64 (firstI o ps : Nat)) ∧ Below W.heap.size W w') := by
    intro W bl bo hb h1 h2
    refine (ssearch_any 48 #[.pointer (some ⟨bl, 0, none⟩), .pointer (some ⟨bo, 0, none⟩)] k (pastP o ps) W (by omega) (enter9 Try.func48 (by kernel_rfl) rfl) (fun W2 i hb2 hi => ?_)).mono ?_
    · exact eff_any bl bo i o _ ps W2 (blk_below hb2 h1) (blk_below hb2 h2) ((HS.out.below hb).below hb2) (by omega) hf (by omega)
    · rintro e w' ⟨⟨r, rfl, r1, r2, r3⟩, hb3⟩
      exact ⟨by rw [first_is hr (by omega) r2 (fun h => r3 (by omega))], hb3⟩
  clear hp hs hr hf hn hk
  go_enter Try.func32, Try.ntmps32
  go_wp2_with (first
    | (go_at_call 31; refine (eall_any p (.slice ao k cap) _ (blk_below (bel_newG _ _) HP.out)).mono ?_; rintro e w1 ⟨rfl, rfl⟩)
    | (go_at_call 47; refine (HC.out _ _ _ (bel_tr (bel_newG _ _) (bel_newG _ _)) (by exact alloc_at _ _ (by simp)) (by exact blk_below (bel_newG _ _) (MapKept.heap_alloc w _).1)).mono ?_; rintro e w2 ⟨rfl, hb⟩))
  go_ret
  exact ⟨rfl, bel_tr (bel_tr (bel_newG _ _) (bel_newG _ _)) hb⟩
set_option maxRecDepth 4000 in
set_option maxHeartbeats 4000000 in
theorem eamong_none (p : Nat) (a b : Int) (w : World) (h : b ≤ a) :
    Calls Try.prog 34 #[.pointer (some ⟨p, 0, none⟩), .int .i64 a, .int .i64 b] w fun e w' => e = .returned (.tuple #[.int .i64 0, .int .i64 0]) ∧ Below w.heap.size w w' := by
  go_enter Try.func34, Try.ntmps34
  go_wp2
  go_ret2
  exact ⟨rfl, bel_newG _ _⟩
set_option maxRecDepth 4000 in
set_option maxHeartbeats 4000000 in
theorem eamong_any (p : Nat) (a b : Int) (v : Value) (ps : List Pc) (w : World) (hab : a < b) (hp : w.heap[p]? = some (.cells #[v] 59)) (hs : SeesE pcE w v ps) (hr : Rise ps) (hf : Fits ps) (hn : ps.length ≤ 1000) :
    Calls Try.prog 34 #[.pointer (some ⟨p, 0, none⟩), .int .i64 a, .int .i64 b] w fun e w' => e = .returned (.tuple #[.int .i64 (firstI a ps : Nat), .int .i64 (aheadB b ps : Nat)]) ∧ Below w.heap.size w w' := by
  obtain ⟨ao, cap, rfl⟩ := hs.form
  obtain ⟨k, hk⟩ : ∃ k, k = ps.length := ⟨_, rfl⟩
  rw [← hk] at hp hs
  have HP : Hid (w.heap[p]? = some (.cells #[.slice ao k cap] 59)) := hp
  have HS : Hid (SeesE pcE w (.slice ao k cap) ps) := hs
  have hki : (k : Int) ≤ 1000 := by omega
  obtain ⟨r1, hr1⟩ : ∃ z : Nat, z = firstI a ps := ⟨_, rfl⟩
  obtain ⟨r2, hr2⟩ : ∃ z : Nat, z = aheadB b ps := ⟨_, rfl⟩
  rw [← hr1, ← hr2]
  obtain ⟨W, hW⟩ : ∃ z, z = (w.alloc (.cells #[.int .i64 b] 3)).alloc (.cells #[.slice ao k cap] 41) := ⟨_, rfl⟩
  have HW : Hid (Below w.heap.size w W) := by rw [hW]; exact bel_tr (bel_newG _ _) (bel_newG _ _)
  have hb1 : W.heap[w.heap.size + 1]? = some (.cells #[.slice ao k cap] 41) := by rw [hW]; exact alloc_at _ _ (by simp)
  have hb2 : W.heap[w.heap.size]? = some (.cells #[.int .i64 b] 3) := by rw [hW]; exact blk_below (bel_newG _ _) (MapKept.heap_alloc w _).1
  have dl1 := blk_lt hb1
  have dl2 := blk_lt hb2
  have HF : Hid (∀ n : OwnW W, Calls Try.prog 32 #[.pointer (some ⟨p, 0, none⟩), .int .i64 a] n.1 fun e w'' => e = .returned (.int .i64 (r1 : Nat)) ∧ ∃ m : OwnW W, w'' = m.1) := fun n => Calls.own_of (by
    rw [hr1]
    exact efirst_any p a (.slice ao k cap) ps n.1 (blk_below (bel_tr HW.out n.2) hp) (hs.below (bel_tr HW.out n.2)) hr hf hn)
  have HC : Hid (∀ n : OwnW W, Calls Try.prog 47 #[.int .i64 (k : Int), .func (.func 49) #[] #[.pointer (some ⟨w.heap.size + 1, 0, none⟩), .pointer (some ⟨w.heap.size, 0, none⟩)]] n.1 fun e w'' => e = .returned (.int .i64 (r2 : Nat)) ∧ ∃ m : OwnW W, w'' = m.1) := fun n => Calls.own_of (by
    refine (ssearch_any 49 #[.pointer (some ⟨w.heap.size + 1, 0, none⟩), .pointer (some ⟨w.heap.size, 0, none⟩)] k (fromP b ps) n.1 (by omega) (enter9 Try.func49 (by kernel_rfl) rfl) (fun W2 i hb3 hi => ?_)).mono ?_
    · exact eamf_any _ _ i b _ ps W2 (blk_below hb3 (blk_below n.2 hb1)) (blk_below hb3 (blk_below n.2 hb2)) (hs.below (bel_tr (bel_tr HW.out n.2) hb3)) (by omega) hf (by omega)
    · rintro e w' ⟨⟨r, rfl, s1, s2, s3⟩, hb4⟩
      exact ⟨by rw [hr2, from_is hr (by omega) s2 (fun h => s3 (by omega))], hb4⟩)
  have q1 : ∀ n : OwnW W, n.1.cell? ⟨w.heap.size + 1, 0, none⟩ = some (.slice ao k cap) := fun n => (n.2.cell (by exact dl1)).trans (blk_cell hb1 rfl)
  have q2 : ∀ n : OwnW W, n.1.cell? ⟨w.heap.size, 0, none⟩ = some (.int .i64 b) := fun n => (n.2.cell (by exact dl2)).trans (blk_cell hb2 rfl)
  have hne := ownW_nonempty W
  clear hp hs hr hf hn hk hr1 hr2 hb1 hb2
  go_enter Try.func34, Try.ntmps34
  go_wp2_with (go_at_call 31; refine (eall_any p (.slice ao k cap) _ (blk_below (bel_newG _ _) HP.out)).mono ?_; rintro e w1 ⟨rfl, rfl⟩)
  rw [← hW]
  clear hW
  refine wp_region_own (by kernel_rfl) (by kernel_rfl) ?_
  repeat (go_big_quiet_step (first | exact HF.out _ | exact HC.out _))
  refine wpQuiet_nil ?_
  rintro _ ⟨m, rfl⟩
  have HM : Hid (Below W.heap.size W m.1) := m.2
  go_wp2
  go_ret2
  exact ⟨rfl, bel_tr HW.out HM.out⟩
end Go.Proofs.Ythdmclhccbjgoaa
