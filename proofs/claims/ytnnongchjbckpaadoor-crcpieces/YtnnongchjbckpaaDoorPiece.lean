/- dolmenalike.Sum of one number; what a round of the law CrcPieces keeps; a slice of rows of bytes that came in. -/
import Derived.Test.YtnnongchjbckpaaDoorOver
import Derived.Deep.Matrix
namespace Go.Proofs.YtnnongchjbckpaaDoor
open Go.ChangeShapes Go.WideShapes Go.ChangeAt Go.RowKit Kit
set_option linter.unusedVariables false

set_option maxRecDepth 4000 in
set_option maxHeartbeats 1000000 in
theorem asum_any (n m g : Nat) (w : World) (hn : n ≤ 600) (hm : (m : Int) ≤ 9223372036854775807) (hc : w.cell? ⟨g, 0, none⟩ = some (.int .i64 (m : Int))) :
    Calls Tryd.prog 16 #[.int .i64 (n : Int), .slice (some ⟨g, 0, none⟩) 1 1] w fun e w' => (∃ r : Int, e = .returned (.int .i64 r) ∧ Hid ((n + m ≤ 600 → r = ((n + m : Nat) : Int)) ∧ (600 < n + m → 600 < r))) ∧ w' = w := by
  by_cases h : (m : Int) > 1099511627776 - (n : Int)
  · have HE : Hid ((n + m ≤ 600 → (1099511627776 : Int) = ((n + m : Nat) : Int)) ∧ (600 < n + m → (600 : Int) < 1099511627776)) := ⟨fun _ => by omega, fun _ => by omega⟩
    go_enter Tryd.func16, Tryd.ntmps16
    go_wp2
    go_loop [0, 5] (fun a i => a = .int .i64 (n : Int) ∧ i = .int .i64 0) (fun _ i => 0)
    case atStart => exact ⟨rfl, rfl⟩
    case round =>
      obtain ⟨rfl, rfl⟩ := hrel
      go_wp2
      go_ret
      exact ⟨⟨_, rfl, HE⟩, rfl⟩
  · have HE : Hid ((n + m ≤ 600 → ((n : Int) + (m : Int)) = ((n + m : Nat) : Int)) ∧ (600 < n + m → 600 < ((n : Int) + (m : Int)))) := ⟨fun _ => by omega, fun _ => by omega⟩
    go_enter Tryd.func16, Tryd.ntmps16
    go_wp2
    go_loop [0, 5] (fun a i => (a = .int .i64 (n : Int) ∧ i = .int .i64 0) ∨ (a = .int .i64 ((n : Int) + (m : Int)) ∧ i = .int .i64 1)) (fun _ i => 1 - (intOf i).toNat)
    case atStart => exact .inl ⟨rfl, rfl⟩
    case round =>
      rcases hrel with ⟨rfl, rfl⟩ | ⟨rfl, rfl⟩
      · go_wp2
        go_roundw
        case rel => exact .inr ⟨rfl, rfl⟩
        case measure => simp [intOf]
      · go_wp2
        go_ret
        exact ⟨⟨_, rfl, HE⟩, rfl⟩

theorem row_grown {w w' : World} {base p : Nat} {k : IntKind} {e : TypeId} {v : Value} {zs : List Int} (h : Row w base k e v zs) (hg : w.grownBy w' (some p)) (hp : p < base) : Row w' base k e v zs := by
  obtain ⟨h1, h2⟩ := h
  refine ⟨h1, ?_⟩
  rcases h2 with h2 | ⟨g, cap, cur, hv, hgb, hh, r⟩
  · exact .inl h2
  · refine .inr ⟨g, cap, cur, hv, hgb, ?_, r⟩
    rw [hg.block g (Array.getElem?_eq_some_iff.1 hh).1 (by simp; omega)]; exact hh

/-- What a round keeps: a Sum at S that holds g, one at S + 1, and the bytes al in a row of the call's own behind them. -/
def St (w wr : World) (S g : Nat) (v : Value) (al : List Int) : Prop :=
  SumIs wr S g ∧ (∃ t, t < 4294967296 ∧ SumIs wr (S + 1) t) ∧ Row wr (S + 2) .u8 5 v al ∧ Below S w wr ∧ S + 2 ≤ wr.heap.size
theorem St.grow {w wr wr' : World} {S g : Nat} {v : Value} {al : List Int} (h : St w wr S g v al) (hb : Below wr.heap.size wr wr') : St w wr' S g v al := by
  obtain ⟨h1, ⟨t, ht, h2⟩, h3, h4, h5⟩ := h
  exact ⟨h1.below hb (by omega), ⟨t, ht, h2.below hb (by omega)⟩, h3.below hb (fun j hj => h3.lt j hj), h4.trans (hb.mono (by omega)), Nat.le_trans h5 hb.size⟩
theorem St.sum {w wr wr' : World} {S g g' : Nat} {v : Value} {al : List Int} (h : St w wr S g v al) (hg : wr.grownBy wr' (some S)) (hs : SumIs wr' S g') : St w wr' S g' v al := by
  obtain ⟨h1, ⟨t, ht, h2⟩, h3, h4, h5⟩ := h
  exact ⟨hs, ⟨t, ht, h2.grown hg (by simp)⟩, row_grown h3 hg (by omega), h4.grown hg (by omega) (by simp), Nat.le_trans h5 hg.size⟩
theorem St.other {w wr wr' : World} {S g t' : Nat} {v : Value} {al : List Int} (h : St w wr S g v al) (hg : wr.grownBy wr' (some (S + 1))) (hs : SumIs wr' (S + 1) t') (ht' : t' < 4294967296) : St w wr' S g v al := by
  obtain ⟨h1, ⟨t, ht, h2⟩, h3, h4, h5⟩ := h
  exact ⟨h1.grown hg (by simp), ⟨t', ht', hs⟩, row_grown h3 hg (by omega), h4.grown hg (by omega) (by simp), Nat.le_trans h5 hg.size⟩
theorem St.app {w wr wr' : World} {S g : Nat} {v v' : Value} {al al' : List Int} (h : St w wr S g v al) (hr : Row wr' (S + 2) .u8 5 v' al') (hb : Below (S + 2) wr wr') : St w wr' S g v' al' := by
  obtain ⟨h1, ⟨t, ht, h2⟩, h3, h4, h5⟩ := h
  exact ⟨h1.below hb (by omega), ⟨t, ht, h2.below hb (by omega)⟩, hr, h4.trans (hb.mono (by omega)), Nat.le_trans h5 hb.size⟩
theorem set_grown (w : World) (p : Nat) (u : Value) : w.grownBy (w.setCell ⟨p, 0, none⟩ u) (some p) := grown_set (World.grownBy.refl w (some p)) _ rfl u

/-- A slice of rows of bytes that came in, as the walk sees it: row r's cell holds a slice that shows Z r. -/
def IsMat (w : World) (a : Option Addr) (len cap : Nat) (A : Nat → Option Addr) (L C : Nat → Nat) (Z : Nat → List Int) : Prop :=
  len ≤ cap ∧ cap ≤ maxLen ∧ (0 < len → ∃ b off, a = some ⟨b, off, none⟩ ∧ b < w.heap.size ∧ ∀ r, r < len → w.cell? ⟨b, off + r, none⟩ = some (.slice (A r) (L r) (C r))) ∧
  ∀ r, r < len → Vw w.heap.size w .u8 (.slice (A r) (L r) (C r)) (Z r) ∧ bytesIn (Z r) ∧ (Z r).length = L r ∧ L r ≤ C r ∧ C r ≤ maxLen
theorem isMat_of {H : Type} {enc : TypeId × Value → H} {P : Program} {w : World} {held : Bool} {t e q : TypeId} {fuel : Nat} {a : Option Addr} {len cap : Nat} {x : DataW H × List MemPlace} (ht : P.underlying t = some (.slice e)) (he : P.underlying e = some (.slice q)) (hq : P.underlying q = some (.int .u8))
    (ce : P.cellsOf e = 1) (cq : P.cellsOf q = 1) (h : DataW.trod enc P w 0 (fun _ => true) held fuel t [.slice a len cap] = some x) : ∃ A L C Z, IsMat w a len cap A L C Z := by
  rcases Deep.open_int_rows ht he hq ce cq h with ⟨hcs, _⟩ | ⟨a', len', cap', A, L, C, Z, hcs, _, hl, hm, _, hr⟩
  · simp only [List.cons.injEq, Value.slice.injEq, and_true] at hcs
    obtain ⟨rfl, rfl, rfl⟩ := hcs
    exact ⟨fun _ => none, fun _ => 0, fun _ => 0, fun _ => [], Nat.le_refl _, by simp, fun h => absurd h (by omega), fun r h => absurd h (by omega)⟩
  · simp only [List.cons.injEq, Value.slice.injEq, and_true] at hcs
    obtain ⟨rfl, rfl, rfl⟩ := hcs
    refine ⟨A, L, C, fun r => (Z r).take (L r), hl, hm, fun h0 => ?_, fun r h0 => ?_⟩
    · obtain ⟨b, off, spot⟩ := a'
      have h1 := (hr 0 (by omega)).1
      have hs : spot = none := by simpa [Addr.add] using World.cell?_spot h1
      subst hs
      refine ⟨b, off, rfl, cell_lt h1, fun r h2 => ?_⟩
      have := (hr r (by omega)).1
      rw [Addr.add_lit] at this
      exact this
    · obtain ⟨h1, h2, h3, h4, h5, h6, h7⟩ := hr r (by omega)
      have hrow : IsRow .u8 w (A r) (L r) (C r) (Z r) := by
        cases hA : A r with
        | none =>
          have hc := h6 hA
          refine .inl ⟨rfl, by omega, hc, List.eq_nil_of_length_eq_zero (by omega)⟩
        | some a1 => exact .inr ⟨a1, rfl, h2, h3, h4, fun i hi => (h7 a1 hA).2 i (by omega), h5⟩
      exact ⟨isRow_view hrow, isRow_bytes hrow, (isRow_len hrow).1, h2, h3⟩
end Go.Proofs.YtnnongchjbckpaaDoor
