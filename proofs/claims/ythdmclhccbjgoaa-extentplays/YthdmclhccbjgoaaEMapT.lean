/- package extent: how a map lies, and how it turns; slices.Replace whole. -/
import Derived.Test.YthdmclhccbjgoaaERepM
namespace Go.Proofs.Ythdmclhccbjgoaa
open Go.RowKit Kit
set_option linter.unusedVariables false

/-- From w to w' the map in block p turned, its row from v to v', and nothing else. -/
structure Turn9 (p : Nat) (v v' : Value) (w w' : World) : Prop where
  os : w'.os = w.os
  tape : w'.tape = w.tape
  output : w'.output = w.output
  size : w.heap.size ≤ w'.heap.size
  block : ∀ k, k < w.heap.size → k ≠ p → v.ownBlock ≠ some k → w'.heap[k]? = w.heap[k]?
  fresh : ∀ k, v'.ownBlock = some k → v.ownBlock = some k ∨ w.heap.size ≤ k
theorem turn9_below {p : Nat} {v : Value} {w w' : World} (h : Below w.heap.size w w') : Turn9 p v v w w' := ⟨h.os, h.tape, h.output, h.size, fun k hk _ _ => h.block k hk, fun k hk => .inl hk⟩
theorem Turn9.trans {p : Nat} {v v1 v2 : Value} {w w1 w2 : World} (h : Turn9 p v v1 w w1) (k : Turn9 p v1 v2 w1 w2) : Turn9 p v v2 w w2 :=
  ⟨k.os.trans h.os, k.tape.trans h.tape, k.output.trans h.output, Nat.le_trans h.size k.size,
   fun i hi h1 h2 => (k.block i (Nat.lt_of_lt_of_le hi h.size) h1 (fun e => (h.fresh i e).elim h2 (by omega))).trans (h.block i hi h1 h2),
   fun i hi => (k.fresh i hi).elim (fun e => h.fresh i e) (fun e => .inr (Nat.le_trans h.size e))⟩
/-- The program's map: a variable in block p, its pieces in a row of its own. -/
structure EMap (w : World) (p B : Nat) (v : Value) (ps : List Pc) : Prop where
  cell : w.heap[p]? = some (.cells #[v] 59)
  row : RowE pcE w B 35 v ps
  off : v.ownBlock ≠ some p
  low : B ≤ w.heap.size
theorem EMap.below {w w' : World} {p B : Nat} {v : Value} {ps : List Pc} (h : EMap w p B v ps) (hb : Below w.heap.size w w') : EMap w' p B v ps := ⟨blk_below hb h.cell, h.row.below hb, h.off, Nat.le_trans h.low hb.size⟩
theorem row_lt {w : World} {B k : Nat} {e : TypeId} {v : Value} {ps : List Pc} (h : RowE pcE w B e v ps) (hk : v.ownBlock = some k) : k < w.heap.size := by
  obtain ⟨_, h2⟩ := h
  rcases h2 with ⟨rfl, _⟩ | ⟨g, cap, cur, rfl, _, hh, _⟩
  · simp [Value.ownBlock] at hk
  · have hk : some g = some k := hk
    injection hk with hk
    subst hk
    exact blk_lt hh
theorem rowE_setne {α : Type} {E : Enc α} {w : World} {base q : Nat} {e : TypeId} {v : Value} {xs : List α} (h : RowE E w base e v xs) (hq : v.ownBlock ≠ some q) (j : Nat) (x : Value) : RowE E (w.setCell ⟨q, j, none⟩ x) base e v xs := by
  obtain ⟨h1, h2⟩ := h
  refine ⟨h1, ?_⟩
  rcases h2 with h2 | ⟨g, cap, cur, hv, hg, hh, r⟩
  · exact .inl h2
  · exact .inr ⟨g, cap, cur, hv, hg, by rw [Below.heap_setCell _ _ _ g (by show g ≠ q; intro e2; exact hq (by rw [hv, e2]; rfl))]; exact hh, r⟩
/-- A new row is stored into the map. -/
theorem emap_store {w w1 : World} {p B : Nat} {v v' : Value} {ps qs : List Pc} (h0 : EMap w p B v ps) (hg : w.grownBy w1 v.ownBlock) (hr : RowE pcE w1 B 35 v' qs) (hf : ∀ k, v'.ownBlock = some k → v.ownBlock = some k ∨ w.heap.size ≤ k) :
    EMap (w1.setCell ⟨p, 0, none⟩ v') p B v' qs ∧ Turn9 p v v' w (w1.setCell ⟨p, 0, none⟩ v') := by
  have hp := blk_lt h0.cell
  have hc : w1.heap[p]? = some (.cells #[v] 59) := by rw [hg.block p hp (fun e => h0.off e.symm)]; exact h0.cell
  have ho : v'.ownBlock ≠ some p := fun e => (hf p e).elim h0.off (fun h => by omega)
  have hs : (w1.setCell ⟨p, 0, none⟩ v').heap.size = w1.heap.size := by simp [World.setCell]
  refine ⟨⟨?_, rowE_setne hr ho 0 v', ho, by rw [hs]; exact Nat.le_trans h0.low hg.size⟩, hg.os, hg.tape, hg.output, by rw [hs]; exact hg.size, fun k hk h1 h2 => ?_, hf⟩
  · rw [setCell_blk hc]; rfl
  · rw [Below.heap_setCell _ _ _ k h1]
    exact hg.block k hk (fun e => h2 e.symm)
set_option maxRecDepth 4000 in
set_option maxHeartbeats 4000000 in
theorem srep_zero (v : Value) (B i : Nat) (xs : List Pc) (w : World) (h : RowE pcE w B 35 v xs) (hi : i ≤ xs.length) :
    Calls Try.prog 53 #[v, .int .i64 (i : Int), .int .i64 (i : Int), .slice none 0 0] w fun e w' => e = .returned v ∧ w' = w := by
  have HC : Hid (Calls Try.prog 42 #[v, .int .i64 (i : Int), .slice none 0 0] w fun e w' => e = .returned v ∧ w' = w) := sins_nil v B i xs w h hi
  obtain ⟨h1, h2⟩ := h
  rcases h2 with ⟨rfl, h2⟩ | ⟨g, cap, cur, rfl, hg, hh, h3, h4, h5, h6⟩
  · obtain rfl : i = 0 := by omega
    clear h1 h2 hi
    go_enter Try.func53, Try.ntmps53
    go_wp2_with (go_at_call 42; refine HC.out.mono ?_; rintro e w1 ⟨rfl, rfl⟩)
    go_ret
    exact ⟨rfl, rfl⟩
  · obtain ⟨n, hn⟩ : ∃ n, n = xs.length := ⟨_, rfl⟩
    rw [← hn] at hi h3 HC ⊢
    have hm : cap ≤ 9223372036854775807 := h4
    have hin : (i : Int) ≤ (n : Int) := by omega
    have hi0 : (0 : Int) ≤ (i : Int) := by omega
    have hic : (i : Int) ≤ (cap : Int) := by omega
    clear h1 h6 h5 hn hh
    go_enter Try.func53, Try.ntmps53
    go_wp2_with (go_at_call 42; refine HC.out.mono ?_; rintro e w1 ⟨rfl, rfl⟩)
    all_goals (go_ret; exact ⟨rfl, rfl⟩)
theorem srep_any (B C i j : Nat) (v u : Value) (xs ys : List Pc) (w : World) (h : RowE pcE w B 35 v xs) (hB : B ≤ w.heap.size) (hl : xs.length ≤ 1000) (hij : i ≤ j) (hj : j ≤ xs.length) (hu : RowE pcE w C 35 u ys) (hy : ys.length ≤ 2) (h0 : i = j → u = .slice none 0 0 ∧ ys = [])
    (hne : ∀ k, v.ownBlock = some k → u.ownBlock ≠ some k) :
    Calls Try.prog 53 #[v, .int .i64 (i : Int), .int .i64 (j : Int), u] w fun e w' => ∃ v', e = .returned v' ∧ RowE pcE w' B 35 v' (xs.take i ++ ys ++ xs.drop j) ∧ w.grownBy w' v.ownBlock ∧ ∀ k, v'.ownBlock = some k → v.ownBlock = some k ∨ w.heap.size ≤ k := by
  by_cases he : i = j
  · subst he
    obtain ⟨rfl, rfl⟩ := h0 rfl
    refine (srep_zero v B i xs w h hj).mono ?_
    rintro e w' ⟨rfl, rfl⟩
    refine ⟨v, rfl, ?_, ⟨rfl, rfl, rfl, Nat.le_refl _, fun _ _ _ => rfl⟩, fun k hk => .inl hk⟩
    rw [List.append_nil, List.take_append_drop]
    exact h
  · obtain ⟨h1, h2⟩ := id h
    rcases h2 with ⟨_, h2⟩ | ⟨g, cap, cur, rfl, hg, hh, h3, h4, h5, h6⟩
    · omega
    · obtain ⟨ao, c2, rfl⟩ := hu.sees.form
      have hne2 : (Value.slice ao ys.length c2).ownBlock ≠ some g := hne g rfl
      have post : ∀ {e : Ending} {w' : World}, (∃ v', e = .returned v' ∧ RowE pcE w' B 35 v' (xs.take i ++ ys ++ xs.drop j) ∧ w.grownBy w' (some g) ∧ ∀ k, v'.ownBlock = some k → k = g ∨ w.heap.size ≤ k) →
          ∃ v', e = .returned v' ∧ RowE pcE w' B 35 v' (xs.take i ++ ys ++ xs.drop j) ∧ w.grownBy w' (Value.slice (some ⟨g, 0, none⟩) xs.length cap).ownBlock ∧ ∀ k, v'.ownBlock = some k → (Value.slice (some ⟨g, 0, none⟩) xs.length cap).ownBlock = some k ∨ w.heap.size ≤ k := by
        rintro e w' ⟨v', rfl, k1, k2, k3⟩
        exact ⟨v', rfl, k1, k2, fun k hk => (k3 k hk).imp (fun e => by rw [e]; rfl) id⟩
      have hs : SeesE pcE w (.slice ao ys.length c2) ys := hu.sees
      by_cases hend : j = xs.length
      · subst hend
        by_cases hroom : i + ys.length ≤ cap
        · by_cases hfull : i + ys.length < xs.length
          · exact (srep_end_clear B g _ cap i ys.length _ ao c2 xs ys w h hB hl (by omega) hs rfl hy rfl hne2 hroom hfull).mono fun _ _ => post
          · exact (srep_end_keep B g _ cap i ys.length _ ao c2 xs ys w h hB hl (by omega) hs rfl hy rfl hne2 hroom hfull).mono fun _ _ => post
        · exact (srep_end_grow B g _ cap i ys.length _ ao c2 xs ys w h hB hl (by omega) hs rfl hy rfl hne2 (by omega)).mono fun _ _ => post
      · by_cases hroom : i + ys.length + (xs.length - j) ≤ cap
        · rcases Nat.lt_trichotomy (i + ys.length) j with hlt | heq | hgt
          · exact (srep_mid_less B g _ cap i j ys.length _ _ ao c2 xs ys w h hB hl (by omega) (by omega) hs rfl hy rfl rfl hne2 _ rfl hroom hlt).mono fun _ _ => post
          · exact (srep_mid_same B g _ cap i j ys.length _ _ ao c2 xs ys w h hB hl (by omega) (by omega) hs rfl hy rfl rfl hne2 _ rfl hroom heq).mono fun _ _ => post
          · refine (srep_mid_more B g _ cap i j ys.length _ _ ao c2 xs ys w h hB hl (by omega) (by omega) hs rfl hy rfl rfl hne2 (fun b off e => ?_) _ rfl hroom hgt).mono fun _ _ => post
            subst e
            obtain ⟨_, k2⟩ := hu
            rcases k2 with ⟨k2, _⟩ | ⟨b', cap', cu, k3, _, k4, k5, _, k6, _⟩
            · cases k2
            · injection k3 with e1 _ _
              injection e1 with e1
              injection e1 with e1 _
              subst e1
              refine ⟨cu, k4, ?_⟩
              rw [k6]
              show cap' * 4 ≠ 0
              omega
        · exact (srep_mid_grow B g _ cap i j ys.length _ _ ao c2 xs ys w h hB hl (by omega) (by omega) hs rfl hy rfl rfl hne2 _ rfl (by omega)).mono fun _ _ => post
end Go.Proofs.Ythdmclhccbjgoaa
