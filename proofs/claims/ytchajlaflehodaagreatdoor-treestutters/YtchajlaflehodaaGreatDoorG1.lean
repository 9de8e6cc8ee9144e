/- Several texts in one: Errs KitMap KitRows KitVals KitApp Pre. -/
import Derived.Test.YtchajlaflehodaaGreatDoorProg
import Derived.WalkKit
import Derived.LaidEql
import Derived.Lib.IfaceEq
import Derived.Stop.Asserts
import Derived.RowKitTokens
import Derived.Below
import Derived.ProofKit
import Derived.Maps.RangeWalk
import Derived.OpenShut
import Derived.Laws.IdiomStrings
import Derived.Laws.StructEq
import Derived.Laws.AppendOwnNone
import Derived.Lib.AppendStr
import Derived.Deep.AppendLies
import Derived.Deep.LoopGhost
import Derived.Deep.Quiet
/- Closed facts on the errors of this program: their types, their methods, what is held against a number. -/
namespace Go.Proofs.YtchajlaflehodaaGreatDoor
open Go.RowKit Go.Extern.Stop Go.Stop Go.Extern
set_option linter.unusedVariables false

theorem lacks141_68 (v : Value) (xT : TypeId) (w : World) : (Instr.typeAssert (.iface 68 v) xT 141 true).run Tryz.prog w = .ok (.tuple #[.nilIface, .bool false]) w := run_typeAssert_lacksB Tryz.underlying141 (by kernel_rfl) (by kernel_rfl) v xT w
theorem lacks144_68 (v : Value) (xT : TypeId) (w : World) : (Instr.typeAssert (.iface 68 v) xT 144 true).run Tryz.prog w = .ok (.tuple #[.nilIface, .bool false]) w := run_typeAssert_lacksB Tryz.underlying144 (by kernel_rfl) (by kernel_rfl) v xT w
theorem lacks146_68 (v : Value) (xT : TypeId) (w : World) : (Instr.typeAssert (.iface 68 v) xT 146 true).run Tryz.prog w = .ok (.tuple #[.nilIface, .bool false]) w := run_typeAssert_lacksB Tryz.underlying146 (by kernel_rfl) (by kernel_rfl) v xT w
theorem lacks141_86 (v : Value) (xT : TypeId) (w : World) : (Instr.typeAssert (.iface 86 v) xT 141 true).run Tryz.prog w = .ok (.tuple #[.nilIface, .bool false]) w := run_typeAssert_lacksB Tryz.underlying141 (by kernel_rfl) (by kernel_rfl) v xT w
theorem has144_86 (v : Value) (xT : TypeId) (w : World) : (Instr.typeAssert (.iface 86 v) xT 144 true).run Tryz.prog w = .ok (.tuple #[.iface 86 v, .bool true]) w := run_typeAssert_hasB Tryz.underlying144 (by kernel_rfl) v xT w
theorem meth_fault (v : Value) (w : World) : (Go.method 331 86 v "Unwrap").run Tryz.prog w = .ok (162, v) w := by kernel_rfl
theorem comp_num : (Tryz.prog.info? 68).map (·.comparable) = some true := by kernel_rfl
theorem eql_num (a b : Int) (w : World) : (binOp .eql 36 (.iface 68 (.int .i64 a)) (.iface 68 (.int .i64 b))).run Tryz.prog w = .ok (.bool (a == b)) w := Lib.run_eql_iface_int (P := Tryz.prog) w (t := 36) (tx := 68) (k := .i64) a b Tryz.underlying36 comp_num Tryz.underlying68
theorem eql_86 (v u : Value) (w : World) : (binOp .eql 36 (.iface 86 v) (.iface 68 u)).run Tryz.prog w = .ok (.bool false) w := run_eql_iface_types 86 68 v u Tryz.underlying36 (by decide) w
end Go.Proofs.YtchajlaflehodaaGreatDoor
/- Maps from numbers to values of whatever shape, of whatever program: what a map holds, as a rising list. (No program in it: the types' numbers and facts are handed in.) -/
namespace Go.Proofs.YtchajlaflehodaaGreatDoor.Kit
open Go.RowKit Go.Maps
set_option linter.unusedVariables false

/-- An element is told by itself. -/
def heldR (v : Value) : Option (DataW Value × List MemPlace) := some (.held v, [])
def entP (e : Int × Value) : Lit × DataW Value := (.int .i64 e.1, .held e.2)
def entD (es : List (Int × Value)) : DataW Value := .map (es.map entP)
def RiseK (es : List (Int × Value)) : Prop := es.Pairwise fun a b => a.1 < b.1
/-- Block b is a map that holds just es. -/
def MapIs (P : Program) (k : TypeId) (w : World) (b : Nat) (es : List (Int × Value)) : Prop := w.ownsMap P k heldR b es.length (entD es) ∧ RiseK es
def getK (es : List (Int × Value)) (i : Int) : Option Value := (es.find? fun e => e.1 == i).map (·.2)
def putK : List (Int × Value) → Int → Value → List (Int × Value)
  | [], i, v => [(i, v)]
  | (a, x) :: r, i, v => if i < a then (i, v) :: (a, x) :: r else if i = a then (i, v) :: r else (a, x) :: putK r i v
def delK (es : List (Int × Value)) (i : Int) : List (Int × Value) := es.filter fun e => !(e.1 == i)
section
variable {P : Program} {k : TypeId} {w : World} {b n : Nat} {es : List (Int × Value)}

theorem owns_tight {D : DataW Value} (h : w.ownsMap P k heldR b n D) : w.ownsMap P k heldR b (Maps.size D) D := by
  obtain ⟨es, clock, hb, F, hs, rfl⟩ := h
  exact ⟨es, clock, hb, F, by simp [Maps.size, length_sorted], rfl⟩
theorem size_entD (es : List (Int × Value)) : Maps.size (entD es) = es.length := by simp [entD, Maps.size]
theorem same_int (a i : Int) : (Lit.int .i64 a).sameKey (.int .i64 i) = (a == i) := by
  simp [Lit.sameKey]
  by_cases h : a = i <;> simp [h]
theorem find_entD (es : List (Int × Value)) (i : Int) : (es.map entP).find? (fun p => p.1.sameKey (.int .i64 i)) = (es.find? fun e => e.1 == i).map entP := by
  induction es with
  | nil => rfl
  | cons e r ih =>
    rw [List.map_cons, List.find?_cons, List.find?_cons]
    have : (entP e).1.sameKey (.int .i64 i) = (e.1 == i) := same_int _ _
    rw [this]
    cases e.1 == i
    · exact ih
    · rfl
theorem atKey_entD (es : List (Int × Value)) (i : Int) (z : Value) : (entD es).atKey (.int .i64 i) (.held z) = .held ((getK es i).getD z) := by
  unfold entD DataW.atKey getK
  simp only [find_entD]
  cases es.find? fun e => e.1 == i <;> rfl
theorem has_entD (es : List (Int × Value)) (i : Int) : Maps.has (entD es) (.int .i64 i) = (getK es i).isSome := by
  unfold entD getK
  rw [Maps.has_eq]
  induction es with
  | nil => rfl
  | cons e r ih =>
    rw [List.map_cons, List.any_cons, List.find?_cons]
    have : (entP e).1.sameKey (.int .i64 i) = (e.1 == i) := same_int _ _
    rw [this]
    cases e.1 == i
    · simpa using ih
    · simp
theorem filter_entD (es : List (Int × Value)) (i : Int) : (es.map entP).filter (fun p => !p.1.sameKey (.int .i64 i)) = (delK es i).map entP := by
  unfold delK
  induction es with
  | nil => rfl
  | cons e r ih =>
    have : (entP e).1.sameKey (.int .i64 i) = (e.1 == i) := same_int _ _
    rw [List.map_cons, List.filter_cons, List.filter_cons, this]
    cases e.1 == i
    · simpa using ih
    · simpa using ih
theorem del_entD (es : List (Int × Value)) (i : Int) : (entD es).del (.int .i64 i) = entD (delK es i) := by
  unfold entD DataW.del
  simp only [filter_entD]
theorem delK_all {r : List (Int × Value)} {i : Int} (h : ∀ e ∈ r, i ≠ e.1) : delK r i = r := by
  unfold delK
  rw [List.filter_eq_self]
  intro e he
  have := h e he
  simp
  exact fun e2 => this e2.symm
theorem insert_low {r : List (Int × Value)} {i : Int} (v : Value) (h : ∀ e ∈ r, i < e.1) : DataW.insert (.int .i64 i, .held v) (r.map entP) = ((i, v) :: r).map entP := by
  cases r with
  | nil => rfl
  | cons e r =>
    have := h e (by simp)
    simp [DataW.insert, entP, Lit.before, this]
theorem put_list : ∀ (es : List (Int × Value)) (i : Int) (v : Value), RiseK es → DataW.insert (.int .i64 i, .held v) ((delK es i).map entP) = (putK es i v).map entP
  | [], i, v, _ => rfl
  | (a, x) :: r, i, v, h => by
    obtain ⟨h1, h2⟩ := List.pairwise_cons.1 h
    unfold putK
    by_cases c1 : i < a
    · rw [if_pos c1, delK_all (fun e he => by
        rcases List.mem_cons.1 he with e2 | e2
        · subst e2; simp; omega
        · have := h1 e e2; simp at this; omega)]
      exact insert_low v (fun e he => by
        rcases List.mem_cons.1 he with e2 | e2
        · subst e2; exact c1
        · have := h1 e e2; simp at this; omega)
    · rw [if_neg c1]
      by_cases c2 : i = a
      · rw [if_pos c2]
        subst c2
        have : delK ((i, x) :: r) i = r := by
          unfold delK
          rw [List.filter_cons]
          simp
          intro e he
          have := h1 (e, he)
          intro hm e2
          have := this hm
          simp at this
          omega
        rw [this]
        exact insert_low v (fun e he => by have := h1 e he; simpa using this)
      · rw [if_neg c2]
        have : delK ((a, x) :: r) i = (a, x) :: delK r i := by
          unfold delK
          rw [List.filter_cons]
          have : (a == i) = false := beq_eq_false_iff_ne.2 (fun e => c2 e.symm)
          simp [this]
        rw [this, List.map_cons, List.map_cons]
        have ih := put_list r i v h2
        rw [← ih]
        have : ((Lit.int IntKind.i64 i, DataW.held v).1.before (entP (a, x)).1) = false := by simp [entP, Lit.before]; omega
        rw [DataW.insert, this]
        rfl
theorem put_entD (es : List (Int × Value)) (i : Int) (v : Value) (h : RiseK es) : (entD es).put (.int .i64 i) (.held v) = entD (putK es i v) := by
  unfold entD DataW.put
  simp only [filter_entD, put_list es i v h]
theorem putK_keys : ∀ (es : List (Int × Value)) (i : Int) (v : Value), ∀ e ∈ putK es i v, e.1 = i ∨ e ∈ es
  | [], i, v, e, he => by simp [putK] at he; subst he; exact .inl rfl
  | (a, x) :: r, i, v, e, he => by
    unfold putK at he
    split at he
    · rcases List.mem_cons.1 he with h | h
      · subst h; exact .inl rfl
      · exact .inr h
    · split at he
      · rcases List.mem_cons.1 he with h | h
        · subst h; exact .inl rfl
        · exact .inr (by simp [h])
      · rcases List.mem_cons.1 he with h | h
        · subst h; exact .inr (by simp)
        · rcases putK_keys r i v e h with h | h
          · exact .inl h
          · exact .inr (by simp [h])
theorem putK_rise : ∀ (es : List (Int × Value)) (i : Int) (v : Value), RiseK es → RiseK (putK es i v)
  | [], i, v, _ => List.pairwise_singleton _ _
  | (a, x) :: r, i, v, h => by
    obtain ⟨h1, h2⟩ := List.pairwise_cons.1 h
    unfold putK
    split
    · rename_i c
      refine List.pairwise_cons.2 ⟨fun e he => ?_, h⟩
      rcases List.mem_cons.1 he with e2 | e2
      · subst e2; exact c
      · have := h1 e e2; simp at *; omega
    · split
      · rename_i c1 c
        refine List.pairwise_cons.2 ⟨fun e he => ?_, h2⟩
        have := h1 e he; simp at *; omega
      · rename_i c1 c2
        refine List.pairwise_cons.2 ⟨fun e he => ?_, putK_rise r i v h2⟩
        rcases putK_keys r i v e he with e2 | e2
        · simp; omega
        · exact h1 e e2
theorem delK_rise {es : List (Int × Value)} (i : Int) (h : RiseK es) : RiseK (delK es i) := h.filter _
/-- A new map. -/
theorem mapIs_made (P : Program) (k : TypeId) (w : World) : MapIs P k (w.alloc (.map #[] 0)) w.heap.size [] := ⟨World.ownsMap_made w P k heldR, List.Pairwise.nil⟩
theorem MapIs.lt (h : MapIs P k w b es) : b < w.heap.size := h.1.lt
theorem MapIs.block {w' : World} (h : MapIs P k w b es) (e : w'.heap[b]? = w.heap[b]?) : MapIs P k w' b es := by
  obtain ⟨⟨xs, clock, hb, r⟩, h2⟩ := h
  exact ⟨⟨xs, clock, e.trans hb, r⟩, h2⟩
theorem MapIs.isMap (h : MapIs P k w b es) : ∃ xs c, w.heap[b]? = some (.map xs c) := by
  obtain ⟨⟨xs, clock, hb, r⟩, h2⟩ := h
  exact ⟨_, _, hb⟩
theorem MapIs.nocell (h : MapIs P k w b es) (o : Nat) : w.cell? ⟨b, o, none⟩ = none := by
  obtain ⟨xs, c, hb⟩ := h.isMap
  simp [World.cell?, hb]
theorem MapIs.below {w' : World} (h : MapIs P k w b es) (hb : Below w.heap.size w w') : MapIs P k w' b es := h.block (hb.block b h.lt)
theorem key64 {i : Int} (hk : P.underlying k = some (.int .i64)) (h : -9223372036854775808 ≤ i ∧ i ≤ 9223372036854775807) : keyOf P k (.int .i64 i) = some (.int .i64 i) := by
  refine keyOf_int_mk hk ?_
  have h1 : IntKind.i64.min = -9223372036854775808 := by decide
  have h2 : IntKind.i64.max = 9223372036854775807 := by decide
  show (decide (IntKind.i64.min ≤ i) && decide (i ≤ IntKind.i64.max)) = true
  rw [h1, h2]
  simp [h.1, h.2]
/-- m[i]. -/
theorem MapIs.look {t e : TypeId} (h : MapIs P k w b es) (hk : P.underlying k = some (.int .i64)) (ht : P.underlying t = some (.map k e)) {z : Value} (hz : (zeroValue e).run P w = .ok z w) {i : Int} (hi : -9223372036854775808 ≤ i ∧ i ≤ 9223372036854775807) :
    (Instr.lookup t (.map (some b)) (.int .i64 i) false).run P w = .ok ((getK es i).getD z) w := by
  obtain ⟨v, ps, h1, h2⟩ := h.1.lookup (int_keyed hk) ht hz (zd := .held z) (zp := []) rfl (key64 hk hi)
  rw [atKey_entD] at h2
  have : v = (getK es i).getD z := by
    unfold heldR at h2
    injection h2 with h2
    injection h2 with h2 _
    injection h2
  rw [← this]; exact h1
/-- x, ok := m[i]. -/
theorem MapIs.lookOk {t e : TypeId} (h : MapIs P k w b es) (hk : P.underlying k = some (.int .i64)) (ht : P.underlying t = some (.map k e)) {z : Value} (hz : (zeroValue e).run P w = .ok z w) {i : Int} (hi : -9223372036854775808 ≤ i ∧ i ≤ 9223372036854775807) :
    (Instr.lookup t (.map (some b)) (.int .i64 i) true).run P w = .ok (.tuple #[(getK es i).getD z, .bool (getK es i).isSome]) w := by
  obtain ⟨v, ps, h1, h2⟩ := h.1.look_ok (int_keyed hk) ht hz (zd := .held z) (zp := []) rfl (key64 hk hi)
  rw [atKey_entD] at h2
  have : v = (getK es i).getD z := by
    unfold heldR at h2
    injection h2 with h2
    injection h2 with h2 _
    injection h2
  rw [has_entD, this] at h1
  exact h1
/-- m[i] = v. -/
theorem wpList_putK {ops : Array Oper} {rest : List Oper} {o : Oper} {a : Act} {Q : Exit → Act → World → Prop} (hg : o.guard = none) (m x u : Operand) (t : TypeId) (hop : o.op = Op.mapUpdate t m x u)
    (k e : TypeId) (hk : P.underlying k = some (.int .i64)) (ht : P.underlying t = some (.map k e)) (b : Nat) (es : List (Int × Value)) (hm : a.eval m = .map (some b)) (h : MapIs P k w b es) (hn : es.length < maxLen) (i : Int) (v : Value) (hx : a.eval x = .int .i64 i) (hu : a.eval u = v) (hi : -9223372036854775808 ≤ i ∧ i ≤ 9223372036854775807)
    (hK : ∀ w', MapIs P k w' b (putK es i v) → w.grownBy w' (some b) → w'.heap.size = w.heap.size → wpList P ops Q rest (a.put o.dst undef) w') : wpList P ops Q (o :: rest) a w :=
  wpList_mapUpdate_in w hg m x u t hop k e (int_keyed hk) ht heldR b _ _ hm h.1 hn _ _ _ hx hu (key64 hk hi) (.held v) [] rfl (fun w' h1 h2 => hK w' ⟨by
    have := owns_tight h1
    rw [put_entD es i v h.2, size_entD] at this
    exact this, putK_rise es i v h.2⟩ h2.grown (by obtain ⟨_, _, _, _, _, rfl⟩ := h2; simp [ChangeMaps.setBlock]))
/-- m[i] = v, as an equation. -/
theorem MapIs.put {t e : TypeId} (h : MapIs P k w b es) (hk : P.underlying k = some (.int .i64)) (ht : P.underlying t = some (.map k e)) (hn : es.length < maxLen) {i : Int} (hi : -9223372036854775808 ≤ i ∧ i ≤ 9223372036854775807) (v : Value) :
    ∃ w', (Instr.mapUpdate t (.map (some b)) (.int .i64 i) v).run P w = .ok () w' ∧ MapIs P k w' b (putK es i v) ∧ w.grownBy w' (some b) ∧ w'.heap.size = w.heap.size := by
  obtain ⟨w', hrun, r1, r2⟩ := h.1.store (int_keyed hk) ht hn (key64 hk hi) (d := .held v) (ps := []) rfl
  refine ⟨w', hrun, ⟨?_, putK_rise es i v h.2⟩, r2.grown, by obtain ⟨_, _, _, _, _, rfl⟩ := r2; simp [ChangeMaps.setBlock]⟩
  have := owns_tight r1
  rw [put_entD es i v h.2, size_entD] at this
  exact this
/-- delete(m, i), as an equation. -/
theorem MapIs.del {t e : TypeId} (h : MapIs P k w b es) (hk : P.underlying k = some (.int .i64)) (ht : P.underlying t = some (.map k e)) {i : Int} (hi : -9223372036854775808 ≤ i ∧ i ≤ 9223372036854775807) (ty : TypeId) :
    ∃ w', (Builtin.delete_ #[t, k] ty #[.map (some b), .int .i64 i]).run P w = .ok (.tuple #[]) w' ∧ MapIs P k w' b (delK es i) ∧ w.grownBy w' (some b) ∧ w'.heap.size = w.heap.size := by
  obtain ⟨w', hrun, r1, r2⟩ := h.1.drop (int_keyed hk) ht (key64 hk hi) ty
  refine ⟨w', hrun, ⟨?_, delK_rise i h.2⟩, r2.grown, by obtain ⟨_, _, _, _, _, rfl⟩ := r2; simp [ChangeMaps.setBlock]⟩
  have := owns_tight r1
  rw [del_entD es i, size_entD] at this
  exact this
/-- delete(m, i). -/
theorem wpList_delK {ops : Array Oper} {rest : List Oper} {o : Oper} {a : Act} {Q : Exit → Act → World → Prop} (hg : o.guard = none) (m x : Operand) (t k : TypeId) (hop : o.op = Op.call { callee := Callee.builtin Builtin.delete, args := #[m, x], argTypes := #[t, k] })
    (e : TypeId) (hk : P.underlying k = some (.int .i64)) (ht : P.underlying t = some (.map k e)) (b : Nat) (es : List (Int × Value)) (hm : a.eval m = .map (some b)) (h : MapIs P k w b es) (i : Int) (hx : a.eval x = .int .i64 i) (hi : -9223372036854775808 ≤ i ∧ i ≤ 9223372036854775807)
    (hK : ∀ w', MapIs P k w' b (delK es i) → w.grownBy w' (some b) → w'.heap.size = w.heap.size → wpList P ops Q rest (a.put o.dst (.tuple #[])) w') : wpList P ops Q (o :: rest) a w :=
  wpList_delete_own w hg m x t k hop e (int_keyed hk) ht heldR b _ _ hm h.1 _ _ hx (key64 hk hi) (fun w' h1 h2 => hK w' ⟨by
    have := owns_tight h1
    rw [del_entD es i, size_entD] at this
    exact this, delK_rise i h.2⟩ h2.grown (by obtain ⟨_, _, _, _, _, rfl⟩ := h2; simp [ChangeMaps.setBlock]))
/-- len(m). -/
theorem MapIs.len {t e : TypeId} (h : MapIs P k w b es) (ht : P.underlying t = some (.map k e)) (ty : TypeId) : (Builtin.len_ #[t] ty #[.map (some b)]).run P w = .ok (.int .i64 es.length) w := by
  have := h.1.len ht ty
  rw [size_entD] at this
  exact this
/-- A range over it, under way. -/
def RangeIs (P : Program) (k : TypeId) (w : World) (b r : Nat) (es : List (Int × Value)) (left : Lit → Bool) (cnt : Nat) : Prop := w.ranges P k heldR b r es.length (entD es) left cnt ∧ RiseK es
theorem RangeIs.map {r cnt : Nat} {left : Lit → Bool} (h : RangeIs P k w b r es left cnt) : MapIs P k w b es := ⟨h.1.owns, h.2⟩
theorem RangeIs.below {w' : World} {r cnt : Nat} {left : Lit → Bool} (h : RangeIs P k w b r es left cnt) (hb : Below w.heap.size w w') : RangeIs P k w' b r es left cnt := by
  have h1 := h.1.owns.lt
  have h2 := h.1.lt
  obtain ⟨⟨xs, clock, since, seen, c0, hb1, F, hs, hD, hr, rest⟩, hk⟩ := h
  exact ⟨⟨xs, clock, since, seen, c0, (hb.block b h1).trans hb1, F, hs, hD, (hb.block r h2).trans hr, rest⟩, hk⟩
theorem MapIs.range {t e : TypeId} (h : MapIs P k w b es) (hk : P.underlying k = some (.int .i64)) (ht : P.underlying t = some (.map k e)) :
    ∃ w', (Instr.range t (.map (some b))).run P w = .ok (.pointer (some ⟨w.heap.size, 0, none⟩)) w' ∧ RangeIs P k w' b w.heap.size es (Maps.has (entD es)) es.length ∧ w.grownBy w' none ∧ w'.heap.size = w.heap.size + 1 := by
  obtain ⟨w', h1, h2, h3, h4⟩ := h.1.range (int_keyed hk) ht
  rw [size_entD] at h2
  exact ⟨w', h1, ⟨h2, h.2⟩, h3, h4⟩
theorem get_mem {i : Int} {v : Value} (h : getK es i = some v) : (i, v) ∈ es := by
  unfold getK at h
  obtain ⟨e, he, rfl⟩ := Option.map_eq_some_iff.1 h
  have h1 := List.mem_of_find?_eq_some he
  have h2 := List.find?_some he
  simp at h2
  rw [← h2]; exact h1
theorem wpList_nextK {β : Type} {ops : Array Oper} {rest : List Oper} {o : Oper} {a : Act} {Q : Exit → Act → World → Prop} (hg : o.guard = none) (it : Operand) (hop : o.op = Op.next it false) (k : TypeId) (hk : P.underlying k = some (.int .i64))
    (b r : Nat) (es : List (Int × Value)) (left : Lit → Bool) (cnt : Nat) (hit : a.eval it = .pointer (some ⟨r, 0, none⟩)) (h : RangeIs P k w b r es left cnt) (mkV : β → Value) (inv : ∀ e ∈ es, ∃ c, e.2 = mkV c)
    (hDone : (∀ i : Int, left (.int .i64 i) = false) → wpList P ops Q rest (a.put o.dst (.tuple #[.bool false])) w)
    (hMore : ∀ (x : Int) (c : β) (w' : World) (cnt' : Nat), (x, mkV c) ∈ es → left (.int .i64 x) = true → RangeIs P k w' b r es (fun z => left z && !z.sameKey (.int .i64 x)) cnt' → cnt' < cnt → w.grownBy w' (some r) → w'.heap.size = w.heap.size →
      (Instr.entry (.pointer (some ⟨r, 0, none⟩))).run P w' = .ok (.tuple #[.int .i64 x, mkV c]) w' → wpList P ops Q rest (a.put o.dst (.tuple #[.bool true, .int .i64 x, mkV c])) w') :
    wpList P ops Q (o :: rest) a w := by
  refine wpList_plain hg fun K' hK' => ?_
  unfold Oper.wp
  rcases h.1.next (int_keyed hk) o.type with ⟨h0, hl, hrun⟩ | ⟨key, v, kl, y, w', cnt', hkey, hlk, hv, hat, hrun, hrg, hlt, hgr, hsz, hen⟩
  · simp [execOp, hop, hit, hrun, Result.andThen]
    exact hK' _ _ (hDone fun i => hl _)
  · obtain ⟨x, rfl, rfl, _⟩ := Maps.keyOf_int_inv hk hkey
    have hy : y.1 = .held v := by
      unfold heldR at hv
      injection hv with hv
      rw [← hv]
    have hmem : (x, v) ∈ es := by
      apply get_mem
      have h1 := hat (.held v)
      have h2 := hat (.held (.tuple #[]))
      have h3 := hat (.held .nilFunc)
      rw [atKey_entD, hy] at h1 h2 h3
      injection h2 with h2
      injection h3 with h3
      cases e : getK es x with
      | none =>
        rw [e] at h2 h3
        simp only [Option.getD_none] at h2 h3
        rw [← h3] at h2
        cases h2
      | some u =>
        rw [e] at h2
        simp only [Option.getD_some] at h2
        rw [h2]
    obtain ⟨c, hc⟩ := inv _ hmem
    simp only at hc
    subst hc
    simp [execOp, hop, hit, hrun, Result.andThen]
    exact hK' _ _ (hMore x c w' cnt' hmem hlk ⟨hrg, h.2⟩ hlt hgr hsz hen)
end
end Go.Proofs.YtchajlaflehodaaGreatDoor.Kit
/- Slices of integers, of whatever program: a row of the call's own, what a slice shows, bytes as a string, append. (No program in it: the types' numbers and facts are handed in.) -/
namespace Go.Proofs.YtchajlaflehodaaGreatDoor.Kit
open Go.ChangeShapes Go.WideShapes Go.ChangeAt Go.RowKit
set_option linter.unusedVariables false

/-- Each number is a byte; a word. -/
def bytesIn (zs : List Int) : Prop := ∀ z ∈ zs, 0 ≤ z ∧ z < 256
def wordsIn (zs : List Int) : Prop := ∀ z ∈ zs, 0 ≤ z ∧ z < 18446744073709551616
theorem bytesIn_get {zs : List Int} (h : bytesIn zs) {i : Nat} (hi : i < zs.length) : 0 ≤ zs.getD i 0 ∧ zs.getD i 0 < 256 := by
  have := h zs[i] (List.getElem_mem hi); simpa [List.getD, hi] using this
theorem wordsIn_get {zs : List Int} (h : wordsIn zs) {i : Nat} (hi : i < zs.length) : 0 ≤ zs.getD i 0 ∧ zs.getD i 0 < 18446744073709551616 := by
  have := h zs[i] (List.getElem_mem hi); simpa [List.getD, hi] using this
theorem bytesIn_drop {zs : List Int} (h : bytesIn zs) (k : Nat) : bytesIn (zs.drop k) := fun z hz => h z (List.mem_of_mem_drop hz)
theorem bytesIn_take {zs : List Int} (h : bytesIn zs) (k : Nat) : bytesIn (zs.take k) := fun z hz => h z (List.mem_of_mem_take hz)
theorem bytesIn_append {xs ys : List Int} (hx : bytesIn xs) (hy : bytesIn ys) : bytesIn (xs ++ ys) := fun z hz => by
  rcases List.mem_append.1 hz with h | h
  · exact hx z h
  · exact hy z h
theorem bytesIn_set {xs : List Int} (hx : bytesIn xs) (i : Nat) {z : Int} (h0 : 0 ≤ z) (h1 : z < 256) : bytesIn (xs.set i z) := fun y hy => by
  rcases List.mem_or_eq_of_mem_set hy with h | rfl
  · exact hx y h
  · exact ⟨h0, h1⟩

/-- The slice value v is a row of the call's own (blocks from 'base' on), and holds the numbers zs. -/
def Row (w : World) (base : Nat) (k : IntKind) (e : TypeId) (v : Value) (zs : List Int) : Prop := w.ownsRow base e 1 v zs.length (zs.map (Value.int k))
/-- What a slice value shows; where it shows something it lies below block B. -/
def Vw (B : Nat) (w : World) (k : IntKind) (v : Value) (zs : List Int) : Prop :=
  (zs = [] ∧ ∃ ao cap, v = .slice ao 0 cap ∧ (ao = none → cap = 0) ∧ cap ≤ maxLen) ∨
  (0 < zs.length ∧ ∃ b off cap, v = .slice (some ⟨b, off, none⟩) zs.length cap ∧ zs.length ≤ cap ∧ cap ≤ maxLen ∧ b < B ∧ ∀ i, i < zs.length → w.cell? ⟨b, off + i, none⟩ = some (.int k (zs.getD i 0)))

theorem row_form {w : World} {base : Nat} {k : IntKind} {e : TypeId} {v : Value} {zs : List Int} (h : Row w base k e v zs) (hz : 0 < zs.length) :
    ∃ g cap, v = .slice (some ⟨g, 0, none⟩) zs.length cap ∧ base ≤ g ∧ g < w.heap.size ∧ zs.length ≤ cap ∧ cap ≤ maxLen ∧ ∀ i, i < zs.length → w.cell? ⟨g, i, none⟩ = some (.int k (zs.getD i 0)) := by
  have h0 := h
  unfold Row at h
  obtain ⟨h1, h2⟩ := h
  rcases h2 with ⟨_, h2⟩ | ⟨g, cap, cur, hv, hg, hh, hn, hm, _, _⟩
  · omega
  · refine ⟨g, cap, hv, hg, ?_, hn, hm, ?_⟩
    · exact (Array.getElem?_eq_some_iff.1 hh).1
    · intro i hi
      subst hv
      unfold Row at h0
      rw [h0.cellAt i (by omega)]
      simp [hi]
theorem row_shape {w : World} {base : Nat} {k : IntKind} {e : TypeId} {v : Value} {zs : List Int} (h : Row w base k e v zs) : ∃ ao cap, v = .slice ao zs.length cap := by
  unfold Row at h
  obtain ⟨h1, h2⟩ := h
  rcases h2 with ⟨h2, h3⟩ | ⟨g, cap, cur, hv, _⟩
  · exact ⟨none, 0, by rw [h3]; exact h2⟩
  · exact ⟨_, cap, hv⟩
theorem row_view {w : World} {base : Nat} {k : IntKind} {e : TypeId} {v : Value} {zs : List Int} (h : Row w base k e v zs) : Vw w.heap.size w k v zs := by
  by_cases hz : 0 < zs.length
  · obtain ⟨g, cap, hv, _, h1, h2, h3, h4⟩ := row_form h hz
    exact .inr ⟨hz, g, 0, cap, hv, h2, h3, h1, by simpa using h4⟩
  · have e0 : zs = [] := List.eq_nil_of_length_eq_zero (by omega)
    subst e0
    refine .inl ⟨rfl, ?_⟩
    obtain ⟨h1, h2⟩ := h
    rcases h2 with ⟨h2, _⟩ | ⟨g, cap, cur, hv, hg, hh, hn, hm, _, _⟩
    · exact ⟨none, 0, h2, fun _ => rfl, by simp⟩
    · exact ⟨_, cap, hv, by simp, hm⟩
theorem Vw.below {B : Nat} {w w' : World} {k : IntKind} {v : Value} {zs : List Int} (h : Vw B w k v zs) (hb : Below B w w') : Vw B w' k v zs := by
  rcases h with h | ⟨hz, b, off, cap, hv, h1, h2, h3, h4⟩
  · exact .inl h
  · exact .inr ⟨hz, b, off, cap, hv, h1, h2, h3, fun i hi => (hb.cell (by exact h3)).trans (h4 i hi)⟩
theorem Vw.mono {B B' : Nat} {w : World} {k : IntKind} {v : Value} {zs : List Int} (h : Vw B w k v zs) (hB : B ≤ B') : Vw B' w k v zs := by
  rcases h with h | ⟨hz, b, off, cap, hv, h1, h2, h3, h4⟩
  · exact .inl h
  · exact .inr ⟨hz, b, off, cap, hv, h1, h2, by omega, h4⟩
theorem Vw.cut {B : Nat} {w : World} {k : IntKind} {b off n cap : Nat} {zs : List Int} (h : Vw B w k (.slice (some ⟨b, off, none⟩) n cap) zs) (j : Nat) (hj : j ≤ zs.length) : Vw B w k (.slice (some ⟨b, off, none⟩) j cap) (zs.take j) := by
  have hl : (zs.take j).length = j := by rw [List.length_take]; omega
  rcases h with ⟨rfl, ao, c, he, hn, hm⟩ | ⟨hz, b', off', c, he, h1, h2, h3, h4⟩
  · simp at hj
    subst hj
    simp only [Value.slice.injEq] at he
    exact .inl ⟨by simp, _, cap, rfl, by simp, by rw [he.2.2]; exact hm⟩
  · simp only [Value.slice.injEq, Option.some.injEq, Addr.mk.injEq, and_true] at he
    obtain ⟨⟨rfl, rfl⟩, rfl, rfl⟩ := he
    by_cases h0 : j = 0
    · subst h0; exact .inl ⟨by simp, _, cap, rfl, by simp, h2⟩
    · refine .inr ⟨by omega, b, off, cap, by rw [hl], by omega, h2, h3, ?_⟩
      intro i hi
      rw [h4 i (by omega)]
      simp [List.getD, show i < j by omega]
/-- Bytes as a string. -/
def strOf (zs : List Int) : ByteArray := ⟨(zs.map fun n => UInt8.ofNat n.toNat).toArray⟩
theorem strOf_inj {xs ys : List Int} (hx : bytesIn xs) (hy : bytesIn ys) (h : strOf xs = strOf ys) : xs = ys := by
  have h1 : (xs.map fun n => UInt8.ofNat n.toNat) = ys.map fun n => UInt8.ofNat n.toNat := by
    have := congrArg (fun b : ByteArray => b.data.toList) h; simpa [strOf] using this
  have key : ∀ n : Int, 0 ≤ n → n < 256 → ((UInt8.ofNat n.toNat).toNat : Int) = n := fun n a b => by
    rw [UInt8.toNat_ofNat', Nat.mod_eq_of_lt (by omega)]; omega
  have h2 := congrArg (List.map fun u : UInt8 => (u.toNat : Int)) h1
  simp only [List.map_map] at h2
  have ex : ∀ zs : List Int, bytesIn zs → zs.map ((fun u : UInt8 => (u.toNat : Int)) ∘ fun n => UInt8.ofNat n.toNat) = zs := fun zs hz => by
    conv => rhs; rw [← List.map_id zs]
    exact List.map_congr_left fun z hz' => key z (hz z hz').1 (hz z hz').2
  rwa [ex xs hx, ex ys hy] at h2
theorem str_eq {xs ys : List Int} (hx : bytesIn xs) (hy : bytesIn ys) : ((strOf xs).toList == (strOf ys).toList) = decide (xs = ys) := by
  by_cases h : xs = ys
  · subst h; simp
  · have k : ¬ (strOf xs).toList = (strOf ys).toList := fun k => by
      rw [ByteArray.toList_eq, ByteArray.toList_eq] at k
      exact h (strOf_inj hx hy (WideShapes.bytes_inj k))
    rw [beq_eq_false_iff_ne.2 k]; simp [h]
theorem strOf_fold : ∀ (l : List Int) (r : ByteArray), l.foldl (fun r n => r.push (UInt8.ofNat n.toNat)) r = ⟨r.data ++ (l.map fun n => UInt8.ofNat n.toNat).toArray⟩
  | [], r => by simp
  | b :: l, r => by
    simp only [List.map_cons, List.foldl_cons]
    rw [strOf_fold l]
    simp [ByteArray.push]
/-- 'string(b)' of a slice of bytes. -/
theorem conv_view {P : Program} {T S E : TypeId} (hT : P.underlying T = some (.slice E)) (hE : P.underlying E = some (.int .u8)) (hS : P.underlying S = some .string) {B : Nat} {w : World} {v : Value} {zs : List Int} (h : Vw B w .u8 v zs) : (convert T S v).run P w = .ok (.string (strOf zs)) w := by
  have fin : ∀ l : List Int, l.foldl (fun r n => r.push (UInt8.ofNat n.toNat)) ByteArray.empty = strOf l := fun l => by
    rw [strOf_fold]; unfold strOf; rw [show ByteArray.empty.data = #[] from rfl]; simp
  rcases h with ⟨rfl, ao, cap, rfl, hn, _⟩ | ⟨hz, b, off, cap, rfl, h1, h2, h3, h4⟩
  · rw [run_convert_bytes_string w T S E ao 0 cap hT hE hS]
    cases ao with
    | none => rw [hn rfl]; rfl
    | some a =>
      have hl := run_loadCells_list (P := P) w a (([] : List Int).map (Value.int .u8)) (fun j v hj => by simp at hj)
      rw [run_bytesToString w a 0 cap [] hl, fin]
  · rw [run_convert_bytes_string w T S E _ _ cap hT hE hS]
    have hl := run_loadCells_list (P := P) w ⟨b, off, none⟩ (zs.map (Value.int .u8)) (fun j v hj => by
      have hj' : j < zs.length := by have := (List.getElem?_eq_some_iff.1 hj).1; simpa using this
      rw [Addr.add_lit, h4 j hj']
      rw [← hj]; simp [hj'])
    rw [List.length_map] at hl
    rw [run_bytesToString w _ _ cap zs hl, fin]
theorem conv_empty {P : Program} {T S E : TypeId} (hT : P.underlying T = some (.slice E)) (hE : P.underlying E = some (.int .u8)) (hS : P.underlying S = some .string) (ao : Option Addr) (cap : Nat) (w : World) : (convert T S (.slice ao 0 cap)).run P w = .ok (.string ⟨#[]⟩) w := by
  rw [run_convert_bytes_string w T S E ao 0 cap hT hE hS]
  cases ao with
  | none => rfl
  | some a =>
    have hl := run_loadCells_list (P := P) w a (([] : List Int).map (Value.int .u8)) (fun j v hj => by simp at hj)
    rw [run_bytesToString w a 0 cap [] hl]; rfl
/-- The bytes at a..b of what a slice shows. -/
theorem conv_part {P : Program} {T S E : TypeId} (hT : P.underlying T = some (.slice E)) (hE : P.underlying E = some (.int .u8)) (hS : P.underlying S = some .string) (b off cap c at' m : Nat) (zs : List Int) (w : World) (hm : at' + m ≤ zs.length)
    (hc : ∀ i, i < zs.length → w.cell? ⟨b, off + i, none⟩ = some (.int .u8 (zs.getD i 0))) (hcap : (c : Int) ≤ 9223372036854775807) (hmc : m ≤ c) :
    (convert T S (.slice (some ⟨b, off + at', none⟩) m c)).run P w = .ok (.string (strOf ((zs.drop at').take m))) w := by
  have hl : ((zs.drop at').take m).length = m := by rw [List.length_take, List.length_drop]; omega
  by_cases h0 : 0 < m
  · refine conv_view hT hE hS (B := b + 1) (.inr ⟨by omega, b, off + at', c, by rw [hl], by omega, by unfold maxLen; omega, by omega, ?_⟩)
    intro i hi
    rw [Nat.add_assoc, hc (at' + i) (by omega)]
    simp [List.getD, show i < m by omega]
  · have e : m = 0 := by omega
    subst e
    rw [conv_empty hT hE hS]; rfl
theorem row_block {w : World} {base : Nat} {k : IntKind} {e : TypeId} {v : Value} {zs : List Int} (h : Row w base k e v zs) : ∀ j, v.ownBlock = some j → base ≤ j := by
  intro j hj
  unfold Row at h
  exact (h.lt j hj).1
theorem size_ok {n bytes : Nat} (hb : bytes ≤ 8) (h : n * 8 ≤ 140737488355328) : n * bytes ≤ 140737488355328 := Nat.le_trans (Nat.mul_le_mul_left n hb) h
theorem wpList_app {P : Program} {T E : TypeId} {k : IntKind} {bytes : Nat} (hT : P.underlying T = some (.slice E)) (hI : (P.info? E).map (fun i => (i.zero, i.size, i.bytes)) = some (some (.int k 0), 1, bytes)) (hby : bytes ≤ 8) {ops : Array Oper} {rest : List Oper} {o : Oper} {a : Act} {Q : Exit → Act → World → Prop} {w : World} (hgd : o.guard = none) (s x : Operand)
    (ho : o.op = .call { callee := .builtin .append, args := #[s, x], argTypes := #[T, T] }) (base : Nat) (v : Value) (xs : List Int) (hs : a.eval s = v) (hown : Row w base k E v xs)
    (B : Nat) (y : Value) (news : List Int) (hx : a.eval x = y) (hv : Vw B w k y news) (hlen : (xs.length + news.length) * 8 ≤ 140737488355328) (hbase : base ≤ w.heap.size)
    (h : ∀ v' w', Row w' base k E v' (xs ++ news) → Below base w w' → wpList P ops Q rest (a.put o.dst v') w') : wpList P ops Q (o :: rest) a w := by
  obtain ⟨i0, hi, hz0, hz1, hz2⟩ := info_parts hI
  have fin : ∀ v' w', w'.ownsRow base E 1 v' (xs.length + news.length) (xs.map (Value.int k) ++ news.map (Value.int k)) → w.grownBy w' v.ownBlock → wpList P ops Q rest (a.put o.dst v') w' := by
    intro v' w' h1 h2
    refine h v' w' ?_ ((Below.refl _ _).grown h2 hbase (row_block hown))
    unfold Row
    rw [List.map_append, List.length_append]; exact h1
  rcases hv with ⟨rfl, ao, cap, rfl, hn, hcm⟩ | ⟨hz, b, off, cap, rfl, h1, h2, h3, h4⟩
  · cases ao with
    | none =>
      rw [hn rfl] at hx
      refine wpList_append_own_none hgd s x T ho base E i0 1 hT hi v xs.length (xs.map (Value.int k)) hs hown hx (h v w ?_ (Below.refl _ _))
      rw [List.append_nil]; exact hown
    | some ad =>
      refine wpList_append_own _ hgd s x T ho base E i0 (.int k 0) 1 bytes hT hi hz0 hz1 hz2 rfl (by omega) v xs.length (xs.map (Value.int k)) hs hown ad 0 cap [] hx rfl (by intro j u hj; simp at hj) (by intro u hu; simp at hu) (by unfold maxLen; simp at hlen; omega) (size_ok hby (by simp at hlen ⊢; omega)) hbase ?_
      intro v' w' k1 k2 _
      exact fin v' w' (by simpa using k1) k2
  · refine wpList_append_own _ hgd s x T ho base E i0 (.int k 0) 1 bytes hT hi hz0 hz1 hz2 rfl (by omega) v xs.length (xs.map (Value.int k)) hs hown ⟨b, off, none⟩ news.length cap (news.map (Value.int k)) hx (by simp) ?_ (ints_oneCell _ _) (by unfold maxLen; omega) (size_ok hby hlen) hbase ?_
    · intro j u hj
      have hj' : j < news.length := by have := (List.getElem?_eq_some_iff.1 hj).1; simpa using this
      rw [Addr.add_lit, h4 j hj', ← hj]; simp [hj']
    · intro v' w' k1 k2 _
      exact fin v' w' k1 k2
/-- A new row with nothing in it: '[]byte{}'. -/
theorem row_empty (w : World) (k : IntKind) (e : TypeId) (base : Nat) (hb : base ≤ w.heap.size) : Row (w.alloc (.cells #[] e)) base k e (.slice (some ⟨w.heap.size, 0, none⟩) 0 0) [] :=
  World.ownsRow_lit (size := 1) w #[] 0 hb (by simp) rfl
/-- A new row with one byte in it: what 'append(b, x)' lays first. -/
theorem view_one (w : World) (k : IntKind) (e : TypeId) (z : Int) (H : Nat) (hH : w.heap.size = H) : Vw (H + 1) (w.alloc (.cells #[.int k z] e)) k (.slice (some ⟨H, 0, none⟩) 1 1) [z] := by
  subst hH
  refine .inr ⟨by simp, w.heap.size, 0, 1, rfl, by simp, by unfold maxLen; omega, by omega, ?_⟩
  intro i hi
  match i, hi with
  | 0, _ => simp
theorem Row.mono {w : World} {base base' : Nat} {k : IntKind} {e : TypeId} {v : Value} {zs : List Int} (h : Row w base k e v zs) (hb : base' ≤ base) : Row w base' k e v zs := by
  obtain ⟨h1, h2⟩ := h
  refine ⟨h1, ?_⟩
  rcases h2 with h2 | ⟨g, cap, cur, hv, hg, r⟩
  · exact .inl h2
  · exact .inr ⟨g, cap, cur, hv, by omega, r⟩
theorem Row.alloc {w : World} {base : Nat} {k : IntKind} {e : TypeId} {v : Value} {zs : List Int} (h : Row w base k e v zs) (o : Obj) : Row (w.alloc o) base k e v zs := World.ownsRow.alloc h o
/-- A row stands where nothing below some block has turned, and its own block is below it. -/
theorem Row.below {w w' : World} {base B : Nat} {k : IntKind} {e : TypeId} {v : Value} {zs : List Int} (h : Row w base k e v zs) (hb : Below B w w') (hB : ∀ j, v.ownBlock = some j → j < B) : Row w' base k e v zs := by
  obtain ⟨h1, h2⟩ := h
  refine ⟨h1, ?_⟩
  rcases h2 with h2 | ⟨g, cap, cur, hv, hg, hh, r⟩
  · exact .inl h2
  · exact .inr ⟨g, cap, cur, hv, hg, by rw [hb.block g (hB g (by rw [hv]; rfl))]; exact hh, r⟩
theorem Row.lt {w : World} {base : Nat} {k : IntKind} {e : TypeId} {v : Value} {zs : List Int} (h : Row w base k e v zs) : ∀ j, v.ownBlock = some j → j < w.heap.size := fun j hj => (World.ownsRow.lt h j hj).2
theorem Row.stored {w : World} {base g cap n : Nat} {k : IntKind} {e : TypeId} {zs : List Int} (h : Row w base k e (.slice (some ⟨g, 0, none⟩) n cap) zs) (hn : zs.length = n) (j : Nat) (z : Int) : Row (w.setCell ⟨g, j, none⟩ (.int k z)) base k e (.slice (some ⟨g, 0, none⟩) n cap) (zs.set j z) := by
  unfold Row at *
  subst hn
  have := h.stored j (.int k z)
  rw [List.length_set, List.map_set]; exact this.1
theorem Row.frozen {w : World} {base g cap n : Nat} {k : IntKind} {e : TypeId} {zs : List Int} (h : Row w base k e (.slice (some ⟨g, 0, none⟩) n cap) zs) (hn : zs.length = n) (j : Nat) : w.frozen? ⟨g, j, none⟩ = false := by
  unfold Row at h; subst hn; exact h.frozenAt j
theorem row_cell {w : World} {base g cap n : Nat} {k : IntKind} {e : TypeId} {zs : List Int} (h : Row w base k e (.slice (some ⟨g, 0, none⟩) n cap) zs) (hn : zs.length = n) (j : Nat) (hj : j < n) : w.cell? ⟨g, j, none⟩ = some (.int k (zs.getD j 0)) := by
  unfold Row at h
  subst hn
  rw [h.cellAt j (by omega)]
  simp [hj]
/-- WHAT THE WALK IS TOLD OF A SLICE OF INTEGERS THAT CAME IN. -/
def IsRow (k : IntKind) (w : World) (a : Option Addr) (len cap : Nat) (zs : List Int) : Prop :=
  (a = none ∧ len = 0 ∧ cap = 0 ∧ zs = []) ∨
  ∃ x, a = some x ∧ len ≤ cap ∧ cap ≤ maxLen ∧ zs.length = cap ∧ (∀ i, i < zs.length → w.cell? (x.add i) = some (.int k (zs.getD i 0))) ∧ ∀ n ∈ zs, (Lit.int k n).wf = true
theorem cell_lt {w : World} {a : Addr} {v : Value} (h : w.cell? a = some v) : a.block < w.heap.size := by
  by_cases hb : a.block < w.heap.size
  · exact hb
  · have : w.heap[a.block]? = none := Array.getElem?_eq_none (by omega)
    simp [World.cell?, this] at h
theorem isRow_len {k : IntKind} {w : World} {a : Option Addr} {len cap : Nat} {zs : List Int} (h : IsRow k w a len cap zs) : (zs.take len).length = len ∧ len ≤ cap ∧ cap ≤ maxLen := by
  rcases h with ⟨rfl, rfl, rfl, rfl⟩ | ⟨x, rfl, h1, h2, h3, h4, h5⟩
  · simp
  · rw [List.length_take]; omega
theorem isRow_view {k : IntKind} {w : World} {a : Option Addr} {len cap : Nat} {zs : List Int} (h : IsRow k w a len cap zs) : Vw w.heap.size w k (.slice a len cap) (zs.take len) := by
  have hl := isRow_len h
  rcases h with ⟨rfl, rfl, rfl, rfl⟩ | ⟨x, rfl, h1, h2, h3, h4, h5⟩
  · exact .inl ⟨rfl, none, 0, rfl, fun _ => rfl, by simp⟩
  · by_cases h0 : len = 0
    · subst h0; exact .inl ⟨by simp, _, cap, rfl, by simp, h2⟩
    · obtain ⟨b, off, spot⟩ := x
      have hc := h4 0 (by omega)
      have hspot : spot = none := by simpa [Addr.add] using World.cell?_spot hc
      subst hspot
      refine .inr ⟨by omega, b, off, cap, by rw [hl.1], by omega, h2, cell_lt (h4 0 (by omega)), ?_⟩
      intro i hi
      have := h4 i (by omega)
      rw [Addr.add_lit] at this
      rw [this]
      simp [List.getD, show i < len by omega]
theorem isRow_bytes {w : World} {a : Option Addr} {len cap : Nat} {zs : List Int} (h : IsRow .u8 w a len cap zs) : bytesIn (zs.take len) := by
  rcases h with ⟨rfl, rfl, rfl, rfl⟩ | ⟨x, rfl, h1, h2, h3, h4, h5⟩
  · intro z hz; simp at hz
  · intro z hz
    have := bounds_u8 (h5 z (List.mem_of_mem_take hz)); omega
theorem isRow_words {w : World} {a : Option Addr} {len cap : Nat} {zs : List Int} (h : IsRow .u64 w a len cap zs) : wordsIn (zs.take len) := by
  rcases h with ⟨rfl, rfl, rfl, rfl⟩ | ⟨x, rfl, h1, h2, h3, h4, h5⟩
  · intro z hz; simp at hz
  · intro z hz
    have := bounds_u64 (h5 z (List.mem_of_mem_take hz)); omega

/-- The ways of a drawn region meet again: 'apply tailcut (F := ..)' ahead of the branch; P is found at the first way's end. -/
theorem tailcut {F : Value → Value → World → Prop} {P : Value → Value → World → Prop} {G : Prop} (h : (∀ a b c, F a b c → P a b c) → G) (t : ∀ a b c, F a b c → P a b c) : G := h t

/-- A string's bytes. -/
def bytesOf (s : ByteArray) : List Int := s.data.toList.map fun b => (b.toNat : Int)
theorem bytesOf_len (s : ByteArray) : (bytesOf s).length = s.size := by rw [bytesOf, List.length_map, Array.length_toList]; rfl
theorem bytesOf_in (s : ByteArray) : bytesIn (bytesOf s) := by
  intro z hz
  simp only [bytesOf, List.mem_map] at hz
  obtain ⟨b, _, rfl⟩ := hz
  have := b.toNat_lt
  omega
theorem strCells_is (s : ByteArray) : Lib.strCells s = (bytesOf s).map (Value.int .u8) := by
  unfold Lib.strCells bytesOf; rw [List.map_map]; rfl
theorem strOf_bytesOf (s : ByteArray) : strOf (bytesOf s) = s := by
  apply WideShapes.bytes_inj
  unfold strOf bytesOf
  rw [List.map_map]
  show (List.toArray _).toList = _
  rw [show ((fun n : Int => UInt8.ofNat n.toNat) ∘ fun b : UInt8 => (b.toNat : Int)) = id from funext fun b => by simp]
  simp
/-- 'append(b, s...)', b a row of bytes of the call's own, s a string. -/
theorem wpList_appStr {P : Program} {T S E : TypeId} (hT : P.underlying T = some (.slice E)) (hS : P.underlying S = some .string) (hI : (P.info? E).map (fun i => (i.zero, i.size, i.bytes)) = some (some (.int .u8 0), 1, 1)) {ops : Array Oper} {rest : List Oper} {o : Oper} {a : Act} {Q : Exit → Act → World → Prop} {w : World} (hgd : o.guard = none) (s x : Operand)
    (ho : o.op = .call { callee := .builtin .append, args := #[s, x], argTypes := #[T, S] }) (base : Nat) (v : Value) (xs : List Int) (hs : a.eval s = v) (hown : Row w base .u8 E v xs)
    (t : ByteArray) (hx : a.eval x = .string t) (hlen : xs.length + t.size ≤ 140737488355328) (hbase : base ≤ w.heap.size)
    (h : ∀ v' w', Row w' base .u8 E v' (xs ++ bytesOf t) → Below base w w' → wpList P ops Q rest (a.put o.dst v') w') : wpList P ops Q (o :: rest) a w := by
  obtain ⟨i0, hi, hz0, hz1, hz2⟩ := info_parts hI
  refine Lib.wpList_append_own_string _ hgd s x T S ho base E i0 hT hS hi hz0 hz1 hz2 v xs.length (xs.map (Value.int .u8)) hs hown t hx (by unfold maxLen; omega) hlen hbase ?_
  intro v' w' k1 k2 _
  refine h v' w' ?_ ((Below.refl _ _).grown k2 hbase (row_block hown))
  unfold Row
  rw [List.map_append, List.length_append, bytesOf_len, ← strCells_is]; exact k1

end Go.Proofs.YtchajlaflehodaaGreatDoor.Kit
/- Slices of values of one cell each, of whatever program: a row of the call's own, what a slice shows, append. (No program in it: the types' numbers and facts are handed in.) -/
namespace Go.Proofs.YtchajlaflehodaaGreatDoor.Kit
open Go.ChangeShapes Go.WideShapes Go.ChangeAt Go.RowKit
set_option linter.unusedVariables false

/-- The slice value v is a row of the call's own (blocks from 'base' on), and holds xs. -/
def RowV (w : World) (base : Nat) (e : TypeId) (v : Value) (xs : List Value) : Prop := w.ownsRow base e 1 v xs.length xs
/-- What a slice value shows. -/
def Sees (w : World) (v : Value) (xs : List Value) : Prop :=
  ∃ ao cap, v = .slice ao xs.length cap ∧ xs.length ≤ cap ∧ cap ≤ maxLen ∧ (ao = none → cap = 0) ∧ (0 < xs.length → ∃ b off, ao = some ⟨b, off, none⟩ ∧ b < w.heap.size ∧ ∀ i x, xs[i]? = some x → w.cell? ⟨b, off + i, none⟩ = some x)
theorem Sees.below {w w' : World} {v : Value} {xs : List Value} (h : Sees w v xs) (hb : Below w.heap.size w w') : Sees w' v xs := by
  obtain ⟨ao, cap, h1, h2, h3, h4, h5⟩ := h
  refine ⟨ao, cap, h1, h2, h3, h4, fun h0 => ?_⟩
  obtain ⟨b, off, e, hl, hh⟩ := h5 h0
  exact ⟨b, off, e, Nat.lt_of_lt_of_le hl hb.size, fun i x hx => (hb.cell (by exact hl)).trans (hh i x hx)⟩
theorem RowV.sees {w : World} {base : Nat} {e : TypeId} {v : Value} {xs : List Value} (h : RowV w base e v xs) : Sees w v xs := by
  have h0 := h
  unfold RowV at h
  obtain ⟨h1, h2⟩ := h
  rcases h2 with ⟨h2, h3⟩ | ⟨g, cap, cur, hv, hg, hh, hn, hm, _, _⟩
  · exact ⟨none, 0, by rw [h3]; exact h2, by omega, by simp, fun _ => rfl, fun h => absurd h (by omega)⟩
  · refine ⟨_, cap, hv, hn, hm, by simp, fun _ => ⟨g, 0, rfl, (Array.getElem?_eq_some_iff.1 hh).1, fun i x hx => ?_⟩⟩
    subst hv
    unfold RowV at h0
    have hi := (List.getElem?_eq_some_iff.1 hx).1
    rw [Nat.zero_add, h0.cellAt i (by omega)]
    exact hx
theorem rowV_nil (w : World) (base : Nat) (e : TypeId) : RowV w base e (.slice none 0 0) [] := World.ownsRow_nil w base e 1
theorem rowV_lit (w : World) (base : Nat) (e : TypeId) (xs : List Value) (hb : base ≤ w.heap.size) (hm : xs.length ≤ maxLen) : RowV (w.alloc (.cells xs.toArray e)) base e (.slice (some ⟨w.heap.size, 0, none⟩) xs.length xs.length) xs := by
  have := World.ownsRow_lit (size := 1) (e := e) (base := base) w xs.toArray xs.length hb hm (by simp)
  simpa [RowV] using this
theorem RowV.mono {w : World} {base base' : Nat} {e : TypeId} {v : Value} {xs : List Value} (h : RowV w base e v xs) (hb : base' ≤ base) : RowV w base' e v xs := by
  obtain ⟨h1, h2⟩ := h
  refine ⟨h1, ?_⟩
  rcases h2 with h2 | ⟨g, cap, cur, hv, hg, r⟩
  · exact .inl h2
  · exact .inr ⟨g, cap, cur, hv, by omega, r⟩
theorem RowV.below {w w' : World} {base : Nat} {e : TypeId} {v : Value} {xs : List Value} (h : RowV w base e v xs) (hb : Below w.heap.size w w') : RowV w' base e v xs := by
  obtain ⟨h1, h2⟩ := h
  refine ⟨h1, ?_⟩
  rcases h2 with h2 | ⟨g, cap, cur, hv, hg, hh, r⟩
  · exact .inl h2
  · exact .inr ⟨g, cap, cur, hv, hg, by rw [hb.block g (Array.getElem?_eq_some_iff.1 hh).1]; exact hh, r⟩
theorem RowV.block {w : World} {base : Nat} {e : TypeId} {v : Value} {xs : List Value} (h : RowV w base e v xs) : ∀ j, v.ownBlock = some j → base ≤ j := by
  intro j hj
  unfold RowV at h
  exact (h.lt j hj).1
theorem info_partsV {P : Program} {E : TypeId} {z : Value} {s b : Nat} (h : (P.info? E).map (fun i => (i.zero, i.size, i.bytes)) = some (some z, s, b)) : ∃ i, P.info? E = some i ∧ i.zero = some z ∧ i.size = s ∧ i.bytes = b := by
  obtain ⟨i, hi, he⟩ := Option.map_eq_some_iff.1 h
  simp only [Prod.mk.injEq] at he
  exact ⟨i, hi, he.1, he.2.1, he.2.2⟩
theorem size_okV {n bytes : Nat} (hb : bytes ≤ 16) (h : n * 16 ≤ 140737488355328) : n * bytes ≤ 140737488355328 := Nat.le_trans (Nat.mul_le_mul_left n hb) h
theorem wpList_appV {P : Program} {T E : TypeId} {z : Value} {bytes : Nat} (hT : P.underlying T = some (.slice E)) (hI : (P.info? E).map (fun i => (i.zero, i.size, i.bytes)) = some (some z, 1, bytes)) (hzc : z.cells.size = 1) (hby : bytes ≤ 16) {ops : Array Oper} {rest : List Oper} {o : Oper} {a : Act} {Q : Exit → Act → World → Prop} {w : World} (hgd : o.guard = none) (s x : Operand)
    (ho : o.op = .call { callee := .builtin .append, args := #[s, x], argTypes := #[T, T] }) (base : Nat) (v : Value) (xs : List Value) (hs : a.eval s = v) (hown : RowV w base E v xs)
    (y : Value) (news : List Value) (hx : a.eval x = y) (hv : Sees w y news) (h1c : ∀ u ∈ news, u.oneCell' = true) (hlen : (xs.length + news.length) * 16 ≤ 140737488355328) (hbase : base ≤ w.heap.size)
    (h : ∀ v' w', RowV w' base E v' (xs ++ news) → Below base w w' → wpList P ops Q rest (a.put o.dst v') w') : wpList P ops Q (o :: rest) a w := by
  obtain ⟨i0, hi, hz0, hz1, hz2⟩ := info_partsV hI
  have fin : ∀ v' w', w'.ownsRow base E 1 v' (xs.length + news.length) (xs ++ news) → w.grownBy w' v.ownBlock → wpList P ops Q rest (a.put o.dst v') w' := by
    intro v' w' h1 h2
    refine h v' w' ?_ ((Below.refl _ _).grown h2 hbase hown.block)
    unfold RowV
    rw [List.length_append]; exact h1
  obtain ⟨ao, cap, rfl, h1, h2, h3, h4⟩ := hv
  cases ao with
  | none =>
    have hc := h3 rfl
    have hn : news = [] := List.eq_nil_of_length_eq_zero (by omega)
    subst hn
    subst hc
    refine wpList_append_own_none hgd s x T ho base E i0 1 hT hi v xs.length xs hs hown hx (h v w ?_ (Below.refl _ _))
    rw [List.append_nil]; exact hown
  | some ad =>
    refine wpList_append_own _ hgd s x T ho base E i0 z 1 bytes hT hi hz0 hz1 hz2 hzc (by omega) v xs.length xs hs hown ad news.length cap news hx (by simp) ?_ h1c (by unfold maxLen; omega) (size_okV hby hlen) hbase ?_
    · intro j u hj
      have hj' : j < news.length := (List.getElem?_eq_some_iff.1 hj).1
      obtain ⟨b, off, e, _, hh⟩ := h4 (by omega)
      cases e
      rw [Addr.add_lit]
      exact hh j u hj
    · intro v' w' k1 k2 _
      exact fin v' w' k1 k2
/-- A new row with one value in it: what 'append(b, x)' lays first. -/
theorem sees_one (w : World) (e : TypeId) (x : Value) (H : Nat) (hH : w.heap.size = H) : Sees (w.alloc (.cells #[x] e)) (.slice (some ⟨H, 0, none⟩) 1 1) [x] := by
  subst hH
  refine ⟨_, 1, rfl, by simp, by unfold maxLen; omega, by simp, fun _ => ⟨w.heap.size, 0, rfl, by simp, ?_⟩⟩
  intro i y hy
  match i, hy with
  | 0, hy => simp at hy; subst hy; simp
end Go.Proofs.YtchajlaflehodaaGreatDoor.Kit
/- append in a region that draws its order, of elements of some cells each, and which blocks stay. (No program in it.) -/
namespace Go.Proofs.YtchajlaflehodaaGreatDoor.Kit
open Go.ChangeShapes Go.WideShapes Go.ChangeAt Go.RowKit
set_option linter.unusedVariables false

theorem step_appS {P : Program} {T E : TypeId} {z : Value} {sz bytes : Nat} (hT : P.underlying T = some (.slice E)) (hI : (P.info? E).map (fun i => (i.zero, i.size, i.bytes)) = some (some z, sz, bytes)) (hzc : z.cells.size = sz) (hsz : 0 < sz) {ops : Array Oper} {o : Oper} {a : Act} {K : Act → World → Prop} {Q : Exit → Act → World → Prop} {F : Prop} {w : World} (hgd : o.guard = none) (s x : Operand)
    (ho : o.op = .call { callee := .builtin .append, args := #[s, x], argTypes := #[T, T] }) (base : Nat) (v : Value) (n : Nat) (xs : List Value) (hs : a.eval s = v) (hown : w.ownsRow base E sz v n xs)
    (ad : Addr) (m cap : Nat) (news : List Value) (hx : a.eval x = .slice (some ad) m cap) (hl : news.length = m * sz) (hc : ∀ (j : Nat) u, news[j]? = some u → w.cell? (ad.add j) = some u) (h1c : ∀ u ∈ news, u.oneCell' = true) (hm : n + m ≤ maxLen) (hlen : (n + m) * bytes ≤ 140737488355328) (hbase : base ≤ w.heap.size)
    (h : ∀ v' w', w'.ownsRow base E sz v' (n + m) (xs ++ news) → w.grownBy w' v.ownBlock → K (a.put o.dst v') w') : if Region.wanted o (yielded ops a.tmps) = true then Oper.wp P o a w K Q else F := by
  have hw : Region.wanted o (yielded ops a.tmps) = true := by simp [Region.wanted, hgd]
  rw [if_pos hw]
  obtain ⟨i0, hi, hz0, hz1, hz2⟩ := info_partsV hI
  exact wp_append_own w s x T ho base E i0 z sz bytes hT hi hz0 hz1 hz2 hzc hsz v n xs hs hown ad m cap news hx hl hc h1c hm hlen hbase (fun v' w' k1 k2 _ => h v' w' k1 k2)
theorem wpList_appS {P : Program} {T E : TypeId} {z : Value} {sz bytes : Nat} (hT : P.underlying T = some (.slice E)) (hI : (P.info? E).map (fun i => (i.zero, i.size, i.bytes)) = some (some z, sz, bytes)) (hzc : z.cells.size = sz) (hsz : 0 < sz) {ops : Array Oper} {rest : List Oper} {o : Oper} {a : Act} {Q : Exit → Act → World → Prop} {w : World} (hgd : o.guard = none) (s x : Operand)
    (ho : o.op = .call { callee := .builtin .append, args := #[s, x], argTypes := #[T, T] }) (base : Nat) (v : Value) (n : Nat) (xs : List Value) (hs : a.eval s = v) (hown : w.ownsRow base E sz v n xs)
    (ad : Addr) (m cap : Nat) (news : List Value) (hx : a.eval x = .slice (some ad) m cap) (hl : news.length = m * sz) (hc : ∀ (j : Nat) u, news[j]? = some u → w.cell? (ad.add j) = some u) (h1c : ∀ u ∈ news, u.oneCell' = true) (hm : n + m ≤ maxLen) (hlen : (n + m) * bytes ≤ 140737488355328) (hbase : base ≤ w.heap.size)
    (h : ∀ v' w', w'.ownsRow base E sz v' (n + m) (xs ++ news) → w.grownBy w' v.ownBlock → wpList P ops Q rest (a.put o.dst v') w') : wpList P ops Q (o :: rest) a w := by
  obtain ⟨i0, hi, hz0, hz1, hz2⟩ := info_partsV hI
  exact wpList_append_own _ hgd s x T ho base E i0 z sz bytes hT hi hz0 hz1 hz2 hzc hsz v n xs hs hown ad m cap news hx hl hc h1c hm hlen hbase (fun v' w' k1 k2 _ => h v' w' k1 k2)
end Go.Proofs.YtchajlaflehodaaGreatDoor.Kit
/- What is within an error, in memory: each by its type, its value and what it says, in order. -/
namespace Go.Proofs.YtchajlaflehodaaGreatDoor
open Go.RowKit Go.Extern.Stop Go.Stop Go.Extern
set_option linter.unusedVariables false

/-- One that is within: its type's number, its value; of a Fault the chain of what was done, and where, from itself on; of a plain error its words. -/
abbrev Nd := Nat × Value × List (ByteArray × ByteArray)
/-- The first Fault's chain. -/
def chainOf (ns : List Nd) : List (ByteArray × ByteArray) := ((ns.find? fun x => x.1 == 86).map fun x => x.2.2).getD []
/-- The error v has just these within it, in order. -/
def Pre (w : World) : Nat → Value → List Nd → Prop
  | 0, v, ns => v = .nilIface ∧ ns = []
  | f + 1, v, ns =>
    (v = .nilIface ∧ ns = []) ∨
    (∃ n : Int, v = .iface 68 (.int .i64 n) ∧ ns = [(68, .int .i64 n, [])]) ∨
    (∃ (b : Nat) (op path : ByteArray) (e : Value) (ms : List Nd), v = .iface 86 (.pointer (some ⟨b, 0, none⟩)) ∧ w.cell? ⟨b, 0, none⟩ = some (.string op) ∧ w.cell? ⟨b, 1, none⟩ = some (.string path) ∧ w.cell? ⟨b, 2, none⟩ = some e ∧ (op.size ≤ 1000 ∧ path.size ≤ 1000) ∧ e ≠ .nilIface ∧ Pre w f e ms ∧ ns = (86, .pointer (some ⟨b, 0, none⟩), (op, path) :: chainOf ms) :: ms)
/-- The numbers within. -/
def nums (ns : List Nd) : List Int := (ns.filter fun x => x.1 == 68).map fun x => intOf x.2.1
theorem nums_append (a b : List Nd) : nums (a ++ b) = nums a ++ nums b := by unfold nums; rw [List.filter_append, List.map_append]
theorem Pre.up {w : World} : ∀ {f : Nat} {v : Value} {ns : List Nd}, Pre w f v ns → Pre w (f + 1) v ns
  | 0, v, ns, h => .inl h
  | f + 1, v, ns, h => by
    rcases h with h | ⟨m, h, hm⟩ | ⟨b, op, path, e, ms', h, h2, h3, h4, h9, h5, h6, hm⟩
    · exact .inl (h)
    · exact .inr (.inl (⟨m, h, hm⟩))
    · exact .inr (.inr (⟨b, op, path, e, ms', h, h2, h3, h4, h9, h5, Pre.up h6, hm⟩))
theorem cell_old {w w' : World} {a : Addr} {v : Value} (hb : Below w.heap.size w w') (h : w.cell? a = some v) : w'.cell? a = some v := by
  have hlt : a.block < w.heap.size := by
    rcases Nat.lt_or_ge a.block w.heap.size with h' | h'
    · exact h'
    · simp [World.cell?, Array.getElem?_eq_none h'] at h
  exact (hb.cell hlt).trans h
theorem bel2e {w w1 w2 : World} (h : Below w.heap.size w w1) (k : Below w1.heap.size w1 w2) : Below w.heap.size w w2 := h.trans (k.mono h.size)
theorem Pre.below {w w' : World} (hb : Below w.heap.size w w') : ∀ {f : Nat} {v : Value} {ns : List Nd}, Pre w f v ns → Pre w' f v ns
  | 0, v, ns, h => h
  | f + 1, v, ns, h => by
    rcases h with h | ⟨m, h, hm⟩ | ⟨b, op, path, e, ms', h, h2, h3, h4, h9, h5, h6, hm⟩
    · exact .inl (h)
    · exact .inr (.inl (⟨m, h, hm⟩))
    · exact .inr (.inr (⟨b, op, path, e, ms', h, cell_old hb h2, cell_old hb h3, cell_old hb h4, h9, h5, Pre.below hb h6, hm⟩))

theorem unwrap_any (b : Nat) (e : Value) (w : World) (h : w.cell? ⟨b, 2, none⟩ = some e) : Calls Tryz.prog 162 #[.pointer (some ⟨b, 0, none⟩)] w fun r w' => r = .returned e ∧ w' = w := by
  go_enter Tryz.func162, Tryz.ntmps162
  go_wp2
  go_ret
  exact ⟨rfl, rfl⟩
theorem Pre.mono {w : World} {f g : Nat} {v : Value} {ns : List Nd} (h : Pre w f v ns) (hg : f ≤ g) : Pre w g v ns := by
  induction g with
  | zero => have : f = 0 := by omega
            subst this; exact h
  | succ g ih =>
    by_cases e : f = g + 1
    · subst e; exact h
    · exact (ih (by omega)).up
theorem Pre.form {w : World} : ∀ {f : Nat} {v : Value} {ns : List Nd}, Pre w f v ns → v = .nilIface ∨ ∃ u x, v = .iface u x
  | 0, v, ns, h => .inl h.1
  | f + 1, v, ns, h => by
    rcases h with h | ⟨m, h, hm⟩ | ⟨b, op, path, e, ms', h, h2, h3, h4, h9, h5, h6, hm⟩
    · exact .inl h.1
    · exact .inr ⟨_, _, h⟩
    · exact .inr ⟨_, _, h⟩
theorem Pre.nil {w : World} : ∀ {f : Nat} {ns : List Nd}, Pre w f .nilIface ns → ns = []
  | 0, ns, h => h.2
  | f + 1, ns, h => by
    rcases h with h | ⟨m, h, hm⟩ | ⟨b, op, path, e, ms', h, h2, h3, h4, h9, h5, h6, hm⟩
    · exact h.2
    · cases h
    · cases h
theorem Pre.empty {w : World} : ∀ {f : Nat} {v : Value}, Pre w f v [] → v = .nilIface
  | 0, v, h => h.1
  | f + 1, v, h => by
    rcases h with h | ⟨m, h, hm⟩ | ⟨b, op, path, e, ms', h, h2, h3, h4, h9, h5, h6, hm⟩
    · exact h.1
    · cases hm
    · cases hm
end Go.Proofs.YtchajlaflehodaaGreatDoor
