/- dolmenlaw3.Mold in memory: a tree by its first two kids; kid, none: what one call answers. -/
import Derived.Test.YtlandjnhhcnbeaaDoorProg
import Derived.WalkKit
import Derived.ProofKit
import Derived.OpenShut
import Derived.Below
import Derived.Deep.Slices
import Derived.Deep.LoopGhost
import Derived.ChangeArms
namespace Go.Proofs.YtlandjnhhcnbeaaDoor
open Go.ChangeShapes Go.WideShapes Go.ChangeAt Go.RowKit
set_option linter.unusedVariables false

/-- What stands at a node. -/
structure Lab where
  kind : Int
  num : Int
  op : ByteArray
  path : ByteArray
/-- Trees of some depth: nothing; or a node and its first two kids. -/
def Tr : Nat → Type
  | 0 => Unit
  | n + 1 => Option (Lab × Tr n × Tr n)
def Tr.zero : (n : Nat) → Tr n
  | 0 => ()
  | _ + 1 => none
/-- The zero Mold. -/
def zeroM : Value := .agg #[.int .i64 0, .int .i64 0, .string ⟨#[]⟩, .string ⟨#[]⟩, .slice none 0 0]
def moldV (l : Lab) (a : Option Addr) (len cap : Nat) : Value := .agg #[.int .i64 l.kind, .int .i64 l.num, .string l.op, .string l.path, .slice a len cap]
/-- Five cells in a row hold a Mold's parts. -/
def At5 (w : World) (b off : Nat) (l : Lab) (a : Option Addr) (len cap : Nat) : Prop :=
  w.cell? ⟨b, off, none⟩ = some (.int .i64 l.kind) ∧ w.cell? ⟨b, off + 1, none⟩ = some (.int .i64 l.num) ∧ w.cell? ⟨b, off + 2, none⟩ = some (.string l.op) ∧ w.cell? ⟨b, off + 3, none⟩ = some (.string l.path) ∧ w.cell? ⟨b, off + 4, none⟩ = some (.slice a len cap)
/-- The Mold v reads as the tree t. -/
def MoldAt (w : World) : (n : Nat) → Value → Tr n → Prop
  | 0, v, _ => v = zeroM
  | n + 1, v, none => v = zeroM
  | n + 1, v, some (l, x, y) => ∃ (a : Option Addr) (len cap : Nat), v = moldV l a len cap ∧ l.op.size ≤ maxLen ∧ l.path.size ≤ maxLen ∧ len ≤ cap ∧ cap ≤ maxLen ∧
      (len = 0 → x = Tr.zero n) ∧ (len ≤ 1 → y = Tr.zero n) ∧
      (0 < len → ∃ b off, a = some ⟨b, off, none⟩ ∧ ∀ i, i < len → ∃ (m : Lab) (c : Option Addr) (k q : Nat) (z : Tr n), At5 w b (off + i * 5) m c k q ∧ MoldAt w n (moldV m c k q) z ∧ (i = 0 → z = x) ∧ (i = 1 → z = y))
theorem moldAt_zero (w : World) : ∀ n, MoldAt w n zeroM (Tr.zero n)
  | 0 => rfl
  | n + 1 => rfl
/-- A kid's tree. -/
def Tr.kid0 : {n : Nat} → Tr (n + 1) → Tr n
  | n, none => Tr.zero n
  | n, some (_, x, _) => x
def Tr.kid1 : {n : Nat} → Tr (n + 1) → Tr n
  | n, none => Tr.zero n
  | n, some (_, _, y) => y

theorem cell_same {w w' : World} {a : Addr} {v : Value} (hb : Below w.heap.size w w') (h : w.cell? a = some v) : w'.cell? a = some v := by
  have hlt : a.block < w.heap.size := by
    rcases Nat.lt_or_ge a.block w.heap.size with h' | h'
    · exact h'
    · simp [World.cell?, Array.getElem?_eq_none h'] at h
  exact (hb.cell hlt).trans h
theorem At5.below {w w' : World} {b off : Nat} {l : Lab} {a : Option Addr} {len cap : Nat} (h : At5 w b off l a len cap) (hb : Below w.heap.size w w') : At5 w' b off l a len cap :=
  ⟨cell_same hb h.1, cell_same hb h.2.1, cell_same hb h.2.2.1, cell_same hb h.2.2.2.1, cell_same hb h.2.2.2.2⟩
theorem MoldAt.below {w w' : World} (hb : Below w.heap.size w w') : ∀ {n : Nat} {v : Value} {t : Tr n}, MoldAt w n v t → MoldAt w' n v t
  | 0, v, t, h => h
  | n + 1, v, none, h => h
  | n + 1, v, some (l, x, y), ⟨a, len, cap, h1, h2, h3, h4, h5, h6, h7, h8⟩ => ⟨a, len, cap, h1, h2, h3, h4, h5, h6, h7, fun h0 => by
      obtain ⟨b, off, e, hh⟩ := h8 h0
      refine ⟨b, off, e, fun i hi => ?_⟩
      obtain ⟨m, c, k, q, z, g1, g2, g3, g4⟩ := hh i hi
      exact ⟨m, c, k, q, z, g1.below hb, MoldAt.below hb g2, g3, g4⟩⟩
theorem box5 (w : World) (l : Lab) (a : Option Addr) (len cap : Nat) (t : TypeId) : At5 (w.alloc (.cells #[.int .i64 l.kind, .int .i64 l.num, .string l.op, .string l.path, .slice a len cap] t)) w.heap.size 0 l a len cap :=
  ⟨by simp, by simp, by simp, by simp, by simp⟩

set_option maxRecDepth 4000 in
set_option maxHeartbeats 1000000 in
theorem kid_out (l : Lab) (a : Option Addr) (len cap : Nat) (k : Int) (w : World) (hk : 0 ≤ k) (h : (len : Int) ≤ k) :
    Calls Tryd.prog 27 #[moldV l a len cap, .int .i64 k] w fun e w' => e = .returned zeroM ∧ Below w.heap.size w w' := by
  obtain ⟨kd, nm, op, pa⟩ := l
  have hd : decide (k < (len : Int)) = false := by simp; omega
  unfold moldV zeroM
  go_enter Tryd.func27, Tryd.ntmps27
  go_wp2
  refine bodyPost_ret (v := zeroM) (by simp [results, Tryd.results27, go_sem, zeroM]) rfl ⟨rfl, ?_⟩
  exact ((Below.refl _ _).alloc (Nat.le_refl _) _).alloc (by simp) _

set_option maxRecDepth 4000 in
set_option maxHeartbeats 1000000 in
theorem kid_in (l : Lab) (b off len cap : Nat) (k : Nat) (m : Lab) (c : Option Addr) (p q : Nat) (w : World) (hk : k < len) (hc : At5 w b (off + k * 5) m c p q) :
    Calls Tryd.prog 27 #[moldV l (some ⟨b, off, none⟩) len cap, .int .i64 (k : Int)] w fun e w' => e = .returned (moldV m c p q) ∧ Below w.heap.size w w' := by
  obtain ⟨kd, nm, op, pa⟩ := l
  obtain ⟨kd', nm', op', pa'⟩ := m
  have hB : Hid (Below w.heap.size w ((w.alloc (.cells #[.int .i64 kd, .int .i64 nm, .string op, .string pa, .slice (some ⟨b, off, none⟩) len cap] 24)).alloc (.cells #[.int .i64 0, .int .i64 0, .string ⟨#[]⟩, .string ⟨#[]⟩, .slice none 0 0] 24))) := ((Below.refl _ _).alloc (Nat.le_refl _) _).alloc (by simp) _
  obtain ⟨c0, c1, c2, c3, c4⟩ := hc.below hB.out
  clear hc
  have hd : (k : Int) < (len : Int) := by omega
  have hd0 : (0 : Int) ≤ (k : Int) := by omega
  unfold moldV
  go_enter Tryd.func27, Tryd.ntmps27
  go_wp2
  refine bodyPost_ret (v := .agg #[.int .i64 kd', .int .i64 nm', .string op', .string pa', .slice c p q]) (by simp [results, Tryd.results27, go_sem]) rfl ⟨rfl, ?_⟩
  exact ((Below.refl _ _).alloc (Nat.le_refl _) _).alloc (by simp) _

/-- kid of a Mold: its tree. -/
theorem kid_any (n : Nat) (v : Value) (t : Tr (n + 1)) (w : World) (h : MoldAt w (n + 1) v t) :
    (Calls Tryd.prog 27 #[v, .int .i64 0] w fun e w' => ∃ v', e = .returned v' ∧ MoldAt w n v' t.kid0 ∧ Below w.heap.size w w') ∧
    (Calls Tryd.prog 27 #[v, .int .i64 1] w fun e w' => ∃ v', e = .returned v' ∧ MoldAt w n v' t.kid1 ∧ Below w.heap.size w w') := by
  match t, h with
  | none, h =>
    have hz : v = moldV ⟨0, 0, ⟨#[]⟩, ⟨#[]⟩⟩ none 0 0 := h
    subst hz
    constructor
    · refine (kid_out _ none 0 0 0 w (by omega) (by omega)).mono ?_
      rintro e w' ⟨rfl, hb⟩
      exact ⟨_, rfl, moldAt_zero w n, hb⟩
    · refine (kid_out _ none 0 0 1 w (by omega) (by omega)).mono ?_
      rintro e w' ⟨rfl, hb⟩
      exact ⟨_, rfl, moldAt_zero w n, hb⟩
  | some (l, x, y), ⟨a, len, cap, h1, h2, h3, h4, h5, h6, h7, h8⟩ =>
    subst h1
    constructor
    · by_cases h0 : 0 < len
      · obtain ⟨b, off, rfl, hh⟩ := h8 h0
        obtain ⟨m, c, k, q, z, g1, g2, g3, g4⟩ := hh 0 h0
        have := g3 rfl
        subst this
        refine (kid_in l b off len cap 0 m c k q w h0 g1).mono ?_
        rintro e w' ⟨rfl, hb⟩
        exact ⟨_, rfl, g2, hb⟩
      · refine (kid_out l a len cap 0 w (by omega) (by omega)).mono ?_
        rintro e w' ⟨rfl, hb⟩
        refine ⟨_, rfl, ?_, hb⟩
        show MoldAt w n zeroM x
        rw [h6 (by omega)]
        exact moldAt_zero w n
    · by_cases h0 : 1 < len
      · obtain ⟨b, off, rfl, hh⟩ := h8 (by omega)
        obtain ⟨m, c, k, q, z, g1, g2, g3, g4⟩ := hh 1 h0
        have := g4 rfl
        subst this
        refine (kid_in l b off len cap 1 m c k q w h0 g1).mono ?_
        rintro e w' ⟨rfl, hb⟩
        exact ⟨_, rfl, g2, hb⟩
      · refine (kid_out l a len cap 1 w (by omega) (by omega)).mono ?_
        rintro e w' ⟨rfl, hb⟩
        refine ⟨_, rfl, ?_, hb⟩
        show MoldAt w n zeroM y
        rw [h7 (by omega)]
        exact moldAt_zero w n
/-- kid of a Mold that lay there earlier. -/
theorem kid_any0 (n : Nat) (v : Value) (t : Tr (n + 1)) (w0 w : World) (hb0 : Below w0.heap.size w0 w) (h : MoldAt w0 (n + 1) v t) :
    (Calls Tryd.prog 27 #[v, .int .i64 0] w fun e w' => ∃ v', e = .returned v' ∧ MoldAt w0 n v' t.kid0 ∧ Below w.heap.size w w') ∧
    (Calls Tryd.prog 27 #[v, .int .i64 1] w fun e w' => ∃ v', e = .returned v' ∧ MoldAt w0 n v' t.kid1 ∧ Below w.heap.size w w') := by
  match t, h with
  | none, h =>
    have hz : v = moldV ⟨0, 0, ⟨#[]⟩, ⟨#[]⟩⟩ none 0 0 := h
    subst hz
    constructor
    · refine (kid_out _ none 0 0 0 w (by omega) (by omega)).mono ?_
      rintro e w' ⟨rfl, hb⟩
      exact ⟨_, rfl, moldAt_zero w0 n, hb⟩
    · refine (kid_out _ none 0 0 1 w (by omega) (by omega)).mono ?_
      rintro e w' ⟨rfl, hb⟩
      exact ⟨_, rfl, moldAt_zero w0 n, hb⟩
  | some (l, x, y), ⟨a, len, cap, h1, h2, h3, h4, h5, h6, h7, h8⟩ =>
    subst h1
    constructor
    · by_cases h0 : 0 < len
      · obtain ⟨b, off, rfl, hh⟩ := h8 h0
        obtain ⟨m, c, k, q, z, g1, g2, g3, g4⟩ := hh 0 h0
        have := g3 rfl
        subst this
        refine (kid_in l b off len cap 0 m c k q w h0 (g1.below hb0)).mono ?_
        rintro e w' ⟨rfl, hb⟩
        exact ⟨_, rfl, g2, hb⟩
      · refine (kid_out l a len cap 0 w (by omega) (by omega)).mono ?_
        rintro e w' ⟨rfl, hb⟩
        refine ⟨_, rfl, ?_, hb⟩
        show MoldAt w0 n zeroM x
        rw [h6 (by omega)]
        exact moldAt_zero w0 n
    · by_cases h0 : 1 < len
      · obtain ⟨b, off, rfl, hh⟩ := h8 (by omega)
        obtain ⟨m, c, k, q, z, g1, g2, g3, g4⟩ := hh 1 h0
        have := g4 rfl
        subst this
        refine (kid_in l b off len cap 1 m c k q w h0 (g1.below hb0)).mono ?_
        rintro e w' ⟨rfl, hb⟩
        exact ⟨_, rfl, g2, hb⟩
      · refine (kid_out l a len cap 1 w (by omega) (by omega)).mono ?_
        rintro e w' ⟨rfl, hb⟩
        refine ⟨_, rfl, ?_, hb⟩
        show MoldAt w0 n zeroM y
        rw [h7 (by omega)]
        exact moldAt_zero w0 n
end Go.Proofs.YtlandjnhhcnbeaaDoor
