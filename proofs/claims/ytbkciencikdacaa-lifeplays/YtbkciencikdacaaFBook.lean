/- package life: how a book lies; its small functions. -/
import Derived.Test.YtbkciencikdacaaKitFoot
import Derived.Test.YtbkciencikdacaaKitOwn9
import Derived.Test.YtbkciencikdacaaMLife
import Derived.Test.YtbkciencikdacaaKitStep
namespace Go.Proofs.Ytbkciencikdacaa
open Go.RowKit Kit
set_option linter.unusedVariables false

/-- How a thing lies: three cells; its span: two. -/
def thE : Enc Th where
  k := 3
  c t := [.int .i64 t.id, .int .i64 t.born, .int .i64 t.died]
  len _ := rfl
  pos := by decide
  one p u hu := by
    simp at hu
    rcases hu with rfl | rfl | rfl <;> rfl
def spE : Enc Th where
  k := 2
  c t := [.int .i64 t.born, .int .i64 t.died]
  len _ := rfl
  pos := by decide
  one p u hu := by
    simp at hu
    rcases hu with rfl | rfl <;> rfl
/-- The program's book: a variable in block p, its things in a row of its own. -/
structure BookAt (w : World) (p B : Nat) (v : Value) (ps : List Th) : Prop where
  cell : w.heap[p]? = some (.cells #[v] 57)
  row : RowE thE w B 67 v ps
  low : B ≤ w.heap.size
  hp : B ≤ p
def pfoot (p : Nat) (v : Value) (k : Nat) : Prop := k = p ∨ v.ownBlock = some k
theorem BookAt.below {w w' : World} {p B : Nat} {v : Value} {ps : List Th} (h : BookAt w p B v ps) (hb : Below w.heap.size w w') : BookAt w' p B v ps := ⟨blk_below hb h.cell, h.row.below hb, Nat.le_trans h.low hb.size, h.hp⟩
theorem BookAt.off {w : World} {p B : Nat} {v : Value} {ps : List Th} (h : BookAt w p B v ps) : v.ownBlock ≠ some p := by
  intro e
  obtain ⟨cur, hc⟩ := rowE_obj h.row e
  exact obj_ne hc h.cell (by decide) rfl
theorem BookAt.foot {w : World} {p B : Nat} {v : Value} {ps : List Th} (h : BookAt w p B v ps) : ∀ k, pfoot p v k → B ≤ k := by
  intro k hk
  rcases hk with rfl | hk
  · exact h.hp
  · exact h.row.block k hk
theorem BookAt.foot_lt {w : World} {p B : Nat} {v : Value} {ps : List Th} (h : BookAt w p B v ps) : ∀ k, pfoot p v k → k < w.heap.size := by
  intro k hk
  rcases hk with rfl | hk
  · exact blk_lt h.cell
  · obtain ⟨cur, hc⟩ := rowE_obj h.row hk
    exact blk_lt hc
theorem BookAt.stay {w w' : World} {p B : Nat} {v : Value} {ps : List Th} {F F' : Nat → Prop} (h : BookAt w p B v ps) (t : TurnF F F' w w') (hF : ∀ k, pfoot p v k → ¬ F k) : BookAt w' p B v ps :=
  ⟨t.kept h.cell (hF p (.inl rfl)), rowE_stay h.row (fun k hk => by
    obtain ⟨cur, hc⟩ := rowE_obj h.row hk
    exact t.block k (blk_lt hc) (hF k (.inr hk))), Nat.le_trans h.low t.size, h.hp⟩
/-- A new row is stored into the book. -/
theorem book_store {w w1 : World} {p B : Nat} {v v' : Value} {ps qs : List Th} (h0 : BookAt w p B v ps) (hg : w.grownBy w1 v.ownBlock) (hr : RowE thE w1 B 67 v' qs) (hf : ∀ k, v'.ownBlock = some k → v.ownBlock = some k ∨ w.heap.size ≤ k) :
    BookAt (w1.setCell ⟨p, 0, none⟩ v') p B v' qs ∧ TurnF (pfoot p v) (pfoot p v') w (w1.setCell ⟨p, 0, none⟩ v') := by
  have hp := blk_lt h0.cell
  have hc : w1.heap[p]? = some (.cells #[v] 57) := by rw [hg.block p hp (fun e => h0.off e.symm)]; exact h0.cell
  have ho : v'.ownBlock ≠ some p := fun e => (hf p e).elim h0.off (fun h => by omega)
  have hs : (w1.setCell ⟨p, 0, none⟩ v').heap.size = w1.heap.size := by simp [World.setCell]
  refine ⟨⟨?_, rowE_stay hr (fun k hk => Below.heap_setCell _ _ _ k (by show k ≠ p; intro e; exact ho (by rw [hk, e]))), by rw [hs]; exact Nat.le_trans h0.low hg.size, h0.hp⟩, hg.os, hg.tape, hg.output, by rw [hs]; exact hg.size, fun k hk h1 => ?_, fun k hk => ?_⟩
  · rw [setCell_blk hc]; rfl
  · rw [Below.heap_setCell _ _ _ k (fun e => h1 (.inl e))]
    exact hg.block k hk (fun e => h1 (.inr e.symm))
  · rcases hk with rfl | hk
    · exact .inl (.inl rfl)
    · exact (hf k hk).imp .inr id
/-- What a pointer to a book shows, none or one. -/
def SeesB (w : World) (pv : Value) (ps : List Th) : Prop := (pv = .pointer none ∧ ps = []) ∨ ∃ p v, pv = .pointer (some ⟨p, 0, none⟩) ∧ w.heap[p]? = some (.cells #[v] 57) ∧ SeesE thE w v ps
theorem SeesB.below {w w' : World} {pv : Value} {ps : List Th} (h : SeesB w pv ps) (hb : Below w.heap.size w w') : SeesB w' pv ps := by
  rcases h with h | ⟨p, v, h1, h2, h3⟩
  · exact .inl h
  · exact .inr ⟨p, v, h1, blk_below hb h2, h3.below hb⟩
theorem BookAt.sees {w : World} {p B : Nat} {v : Value} {ps : List Th} (h : BookAt w p B v ps) : SeesB w (.pointer (some ⟨p, 0, none⟩)) ps := .inr ⟨p, v, rfl, h.cell, h.row.sees⟩
theorem th_cells {w : World} {ao : Option Addr} {n cap : Nat} {xs : List Th} (h : SeesE thE w (.slice ao n cap) xs) (h0 : 0 < xs.length) : ∃ b off, ao = some ⟨b, off, none⟩ ∧ n = xs.length ∧ b < w.heap.size ∧ ∀ (i : Nat) (hi : i < xs.length), w.cell? ⟨b, off + i * 3, none⟩ = some (.int .i64 xs[i].id) ∧ w.cell? ⟨b, off + i * 3 + 1, none⟩ = some (.int .i64 xs[i].born) ∧ w.cell? ⟨b, off + i * 3 + 2, none⟩ = some (.int .i64 xs[i].died) := by
  obtain ⟨b, off, e, hn, hb, hc⟩ := h.cells h0
  exact ⟨b, off, e, hn, hb, fun i hi => ⟨hc i hi 0 _ rfl, hc i hi 1 _ rfl, hc i hi 2 _ rfl⟩⟩
theorem sp_cells {w : World} {ao : Option Addr} {n cap : Nat} {xs : List Th} (h : SeesE spE w (.slice ao n cap) xs) (h0 : 0 < xs.length) : ∃ b off, ao = some ⟨b, off, none⟩ ∧ n = xs.length ∧ b < w.heap.size ∧ ∀ (i : Nat) (hi : i < xs.length), w.cell? ⟨b, off + i * 2, none⟩ = some (.int .i64 xs[i].born) ∧ w.cell? ⟨b, off + i * 2 + 1, none⟩ = some (.int .i64 xs[i].died) := by
  obtain ⟨b, off, e, hn, hb, hc⟩ := h.cells h0
  exact ⟨b, off, e, hn, hb, fun i hi => ⟨hc i hi 0 _ rfl, hc i hi 1 _ rfl⟩⟩
theorem enter9 {f : FuncId} {fn : Func} {c : Code} (hf : Try.prog.funcs[f]? = some fn) (hname : (fn.name == "runtime.NumGoroutine") = false) (hb : fn.body = some c) (args : Array Value) (w : World) :
    (callFunc f args).run Try.prog w = .ok (.enter f args) w := by
  have h1 : fn.name ≠ "runtime.NumGoroutine" := by simpa using hname
  simp [callFunc, hf, h1, hb]

theorem fnew_any (w : World) : Calls Try.prog 9 #[] w fun e w' => e = .returned (.pointer (some ⟨w.heap.size, 0, none⟩)) ∧ w' = w.alloc (.cells #[.slice none 0 0] 57) := by
  go_enter Try.func9, Try.ntmps9
  go_wp2
  go_ret
  exact ⟨rfl, rfl⟩
theorem new_book (w : World) : BookAt (w.alloc (.cells #[.slice none 0 0] 57)) w.heap.size w.heap.size (.slice none 0 0) [] :=
  ⟨(MapKept.heap_alloc w _).1, rowE_nil thE _ _ _, (bel_newG _ _).size, Nat.le_refl _⟩
theorem fall_any (pv : Value) (ps : List Th) (w : World) (h : SeesB w pv ps) :
    Calls Try.prog 33 #[pv] w fun e w' => ∃ v, e = .returned v ∧ SeesE thE w v ps ∧ w' = w := by
  rcases h with ⟨rfl, rfl⟩ | ⟨p, v, rfl, hp, hs⟩
  · go_enter Try.func33, Try.ntmps33
    go_wp2
    go_ret
    exact ⟨_, rfl, seesE_nil thE w, rfl⟩
  · have q0 : w.cell? ⟨p, 0, none⟩ = some v := blk_cell hp rfl
    have HS : Hid (SeesE thE w v ps) := hs
    clear hp hs
    go_enter Try.func33, Try.ntmps33
    go_wp2
    go_ret
    exact ⟨_, rfl, HS.out, rfl⟩
theorem flen_any (pv : Value) (ps : List Th) (w : World) (h : SeesB w pv ps) :
    Calls Try.prog 12 #[pv] w fun e w' => e = .returned (.int .i64 (ps.length : Nat)) ∧ w' = w := by
  have HA : Hid (Calls Try.prog 33 #[pv] w fun e w' => ∃ v, e = .returned v ∧ SeesE thE w v ps ∧ w' = w) := fall_any pv ps w h
  clear h
  go_enter Try.func12, Try.ntmps12
  go_wp2_with fail
  go_at_call 33
  refine HA.out.mono ?_
  rintro e w1 ⟨v, rfl, hs, hw⟩
  subst w1
  obtain ⟨ao, cap, rfl⟩ := hs.form
  clear hs HA
  go_wp2
  go_ret
  exact ⟨rfl, rfl⟩
/-- What comparing says. -/
def cmpI (a b : Int) : Int := if a < b then -1 else if b < a then 1 else 0
theorem nan_any (x : Int) (w : World) : Calls Try.prog 56 #[.int .i64 x] w fun e w' => e = .returned (.bool false) ∧ w' = w := by
  go_enter Try.func56, Try.ntmps56
  go_wp2
  go_ret
  exact ⟨by simp, rfl⟩
theorem ccmp_any (a b : Int) (w : World) : Calls Try.prog 47 #[.int .i64 a, .int .i64 b] w fun e w' => e = .returned (.int .i64 (cmpI a b)) ∧ w' = w := by
  have HN : Hid (∀ x w, Calls Try.prog 56 #[.int .i64 x] w fun e w' => e = .returned (.bool false) ∧ w' = w) := nan_any
  unfold cmpI
  by_cases h1 : a < b
  · rw [if_pos h1]
    go_enter Try.func47, Try.ntmps47
    go_wp2_with (go_at_call 56; refine (HN.out _ _).mono ?_; rintro e w' ⟨rfl, rfl⟩)
    go_ret
    exact ⟨rfl, rfl⟩
  · rw [if_neg h1]
    by_cases h2 : b < a
    · rw [if_pos h2]
      go_enter Try.func47, Try.ntmps47
      go_wp2_with (go_at_call 56; refine (HN.out _ _).mono ?_; rintro e w' ⟨rfl, rfl⟩)
      go_ret
      exact ⟨rfl, rfl⟩
    · rw [if_neg h2]
      go_enter Try.func47, Try.ntmps47
      go_wp2_with (go_at_call 56; refine (HN.out _ _).mono ?_; rintro e w' ⟨rfl, rfl⟩)
      go_ret
      exact ⟨rfl, rfl⟩
theorem fcmp_any (a b c id : Int) (w : World) : Calls Try.prog 46 #[.agg #[.int .i64 a, .int .i64 b, .int .i64 c], .int .i64 id] w fun e w' => e = .returned (.int .i64 (cmpI a id)) ∧ Below w.heap.size w w' := by
  have HX : Hid (∀ w, Calls Try.prog 47 #[.int .i64 a, .int .i64 id] w fun e w' => e = .returned (.int .i64 (cmpI a id)) ∧ w' = w) := fun w => ccmp_any a id w
  go_enter Try.func46, Try.ntmps46
  go_wp2_with (go_at_call 47; refine (HX.out _).mono ?_; rintro e w' ⟨rfl, rfl⟩)
  go_ret
  exact ⟨rfl, bel_newG _ _⟩
theorem fended_any (b d : Int) (w : World) : Calls Try.prog 39 #[.agg #[.int .i64 b, .int .i64 d]] w fun e w' => e = .returned (.bool (!decide (d = 0))) ∧ Below w.heap.size w w' := by
  by_cases h : d = 0
  · subst h
    go_enter Try.func39, Try.ntmps39
    go_wp2
    go_ret
    exact ⟨rfl, bel_newG _ _⟩
  · have h2 : (d == 0) = false := by simpa using h
    go_enter Try.func39, Try.ntmps39
    go_wp2
    go_ret
    exact ⟨by simp [h], bel_newG _ _⟩
end Go.Proofs.Ytbkciencikdacaa
