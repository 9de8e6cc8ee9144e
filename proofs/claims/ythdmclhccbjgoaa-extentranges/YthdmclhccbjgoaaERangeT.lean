/- package extent: Range. -/
import Derived.Test.YthdmclhccbjgoaaEReads
import Derived.Test.YthdmclhccbjgoaaEPart
import Derived.Deep.RegionHeld3
import Derived.Deep.RegionLaw
namespace Go.Proofs.Ythdmclhccbjgoaa
open Go.RowKit Kit
set_option linter.unusedVariables false

/-- One piece in its box. -/
def One9 (w0 W : World) (a : Nat) (po pl pg pp : Int) : Prop :=
  W.cell? ⟨a, 0, none⟩ = some (.int .i64 po) ∧ W.cell? ⟨a, 1, none⟩ = some (.int .i64 pl) ∧ W.cell? ⟨a, 2, none⟩ = some (.int .i64 pg) ∧ W.cell? ⟨a, 3, none⟩ = some (.int .i64 pp) ∧ Hid (Below w0.heap.size w0 W ∧ a < W.heap.size)
theorem one_keep {w0 W W' : World} {a : Nat} {po pl pg pp : Int} (h : One9 w0 W a po pl pg pp) (hb : Below W.heap.size W W') : One9 w0 W' a po pl pg pp := by
  obtain ⟨a0, a1, a2, a3, h1, h2⟩ := h
  have k : ∀ {x : Addr} {v : Value}, x.block < W.heap.size → W.cell? x = some v → W'.cell? x = some v := fun hx hv => (hb.cell hx).trans hv
  exact ⟨k h2 a0, k h2 a1, k h2 a2, k h2 a3, bel_tr h1 hb, Nat.lt_of_lt_of_le h2 hb.size⟩
theorem one_bel {w0 W : World} {a : Nat} {po pl pg pp : Int} (h : One9 w0 W a po pl pg pp) : Below w0.heap.size w0 W := h.2.2.2.2.out.1
theorem one_row {w0 wr W' w' : World} {a : Nat} {po pl pg pp : Int} {e : TypeId} {v : Value} {xs : List Pc} (h : One9 w0 W' a po pl pg pp) (hr : RowE pcE wr w0.heap.size e v xs) (h0 : Below w0.heap.size w0 wr) (ha : wr.heap.size ≤ a) (hb : Below wr.heap.size wr W') (hg : W'.grownBy w' v.ownBlock) : One9 w0 w' a po pl pg pp := by
  obtain ⟨k1, k2⟩ := row_kept hr hb hg
  obtain ⟨a0, a1, a2, a3, h3, h4⟩ := h
  have hl : ∀ j, v.ownBlock = some j → j < wr.heap.size := fun j hj => row_lt hr hj
  have k : ∀ {x : Addr} {u : Value}, x.block = a → W'.cell? x = some u → w'.cell? x = some u := fun {x u} hx hu => hg.cell hu (fun e => by have := hl _ e.symm; omega)
  exact ⟨k rfl a0, k rfl a1, k rfl a2, k rfl a3, k2 h0 h0.size, Nat.lt_of_lt_of_le h4 hg.size⟩
def rng1 (a b : Int) (p : Pc) : List Pc := if max p.off a < min (p.off + p.len) b then [p.sub (max p.off a) (min (p.off + p.len) b)] else []
theorem rangeB_rng (l : List Pc) (a b : Int) : rangeB l a b = l.flatMap (rng1 a b) := rfl
theorem rng_none {l : List Pc} {a b : Int} (h : ∀ x ∈ l, ¬ max x.off a < min (x.off + x.len) b) : rangeB l a b = [] := by
  unfold rangeB
  rw [List.flatMap_eq_nil_iff]
  intro x hx
  rw [if_neg (h x hx)]
theorem range_mid {a b : Int} (hab : a < b) {l : List Pc} (hr : Rise l) : rangeB l a b = rangeB ((l.take (aheadB b l)).drop (firstI a l)) a b := by
  have hij := first_le_ahead hab hr
  have e : l = l.take (firstI a l) ++ ((l.take (aheadB b l)).drop (firstI a l) ++ l.drop (aheadB b l)) := by
    rw [← List.append_assoc]
    have h1 : l.take (firstI a l) = (l.take (aheadB b l)).take (firstI a l) := by rw [List.take_take, Nat.min_eq_left hij]
    rw [h1, List.take_append_drop, List.take_append_drop]
  have app : ∀ x y : List Pc, rangeB (x ++ y) a b = rangeB x a b ++ rangeB y a b := fun x y => by unfold rangeB; rw [List.flatMap_append]
  conv => lhs; rw [e, app, app]
  rw [rng_none (l := l.take (firstI a l)) fun x hx => by have := to_first x hx; omega, rng_none (l := l.drop (aheadB b l)) fun x hx => by have := from_ahead hr x hx; omega]
  simp
theorem rng_snoc (a b : Int) (mid : List Pc) (k : Nat) (hk : k < mid.length) : rangeB (mid.take (k + 1)) a b = rangeB (mid.take k) a b ++ rng1 a b mid[k] := by
  rw [List.take_succ_eq_append_getElem hk]
  unfold rangeB rng1
  rw [List.flatMap_append]
  simp
theorem rng_len (l : List Pc) (a b : Int) : (rangeB l a b).length ≤ l.length := by
  induction l with
  | nil => simp [rangeB]
  | cons x l ih =>
    show (rng1 a b x ++ rangeB l a b).length ≤ _
    rw [List.length_append, List.length_cons]
    have : (rng1 a b x).length ≤ 1 := by unfold rng1; split <;> simp
    omega
set_option maxRecDepth 4000 in
set_option maxHeartbeats 8000000 in
theorem erange_none (p B : Nat) (a b : Int) (v : Value) (ps : List Pc) (w : World) (hm : EMap w p B v ps) (hab : b ≤ a) :
    Calls Try.prog 16 #[.pointer (some ⟨p, 0, none⟩), .int .i64 a, .int .i64 b] w fun e w' => e = .returned (.slice none 0 0) ∧ Below w.heap.size w w' := by
  obtain ⟨ao, cap, rfl⟩ := hm.row.sees.form
  obtain ⟨n, hn⟩ : ∃ n, n = ps.length := ⟨_, rfl⟩
  rw [← hn] at hm
  have HM : Hid (EMap w p B (.slice ao n cap) ps) := hm
  have hcap : cap ≤ 9223372036854775807 := by
    obtain ⟨ao', cap', h1, h2, h3, _⟩ := hm.row.sees
    injection h1 with _ _ h1
    subst h1
    exact h3
  have hnc : n ≤ cap := by
    obtain ⟨ao', cap', h1, h2, h3, _⟩ := hm.row.sees
    injection h1 with _ _ h1
    omega
  have hni : (0 : Int) ≤ (n : Int) := by omega
  have hci : (0 : Int) ≤ (cap : Int) := by omega
  clear hm hn
  go_enter Try.func16, Try.ntmps16
  go_wp2_with (first
    | (go_at_call 34; refine (eamong_none p a b _ hab).mono ?_; rintro e w1 ⟨rfl, hb1⟩; have HB1 : Hid (Below w.heap.size w w1) := hb1; clear hb1)
    | (go_at_call 31; refine (eall_any p _ _ (HM.out.below HB1.out).cell).mono ?_; rintro e w2 ⟨rfl, rfl⟩)
    | fail)
  go_loopw [9, 25] (fun s9 s25 wr => s9 = .slice none 0 0 ∧ s25 = .int .i64 0 ∧ Hid (Below w.heap.size w wr)) (fun _ _ _ => 0)
  case atStart => exact ⟨rfl, rfl, HB1.out⟩
  case round =>
    obtain ⟨rfl, rfl, HI⟩ := hrel
    go_wp2
    go_ret
    exact ⟨rfl, HI.out⟩
end Go.Proofs.Ythdmclhccbjgoaa
