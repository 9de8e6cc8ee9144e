/- Several texts in one: Errs KitMap KitRows KitVals KitApp KitStep Pre Is First AsF0 As0 More RCode RLetter RCut RJoin RSplit MSplit NFns0 RSum RUnder KitOwnW MBack RSorted MSets RTexts TDefs TList TGood TSet TEdge TWalk TDo TAt DMem DNew. -/
import Derived.Test.YtbebgobboccjcaaGreatDoorProg
import Derived.WalkKit
import Derived.LaidEql
import Derived.Lib.IfaceEq
import Derived.Stop.Asserts
import Derived.RowKitTokens
import Derived.Below
import Derived.ProofKit
import Derived.Maps.RangeWalk
import Derived.OpenShut
import Derived.Laws.IdiomStrings
import Derived.Laws.StructEq
import Derived.Laws.AppendOwnNone
import Derived.Lib.AppendStr
import Derived.Deep.AppendLies
import Derived.Deep.LoopGhost
import Derived.Deep.Quiet
import Derived.Lib.SplitLaws
import Derived.Lib.Join
import Derived.Deep.RegionHeld3
import Derived.Deep.QuietTactic
import Derived.BigQuiet
import Derived.Laws.OwnMore
import Derived.Laws.Cover1
import Derived.Deep.Slices
import Derived.WalkSpells
namespace Go.Proofs.YtbebgobboccjcaaGreatDoor
open Go.RowKit Go.Extern.Stop Go.Stop Go.Extern
set_option linter.unusedVariables false

theorem lacks174_80 (v : Value) (xT : TypeId) (w : World) : (Instr.typeAssert (.iface 80 v) xT 174 true).run Tryz.prog w = .ok (.tuple #[.nilIface, .bool false]) w := run_typeAssert_lacksB Tryz.underlying174 (by kernel_rfl) (by kernel_rfl) v xT w
theorem lacks166_80 (v : Value) (xT : TypeId) (w : World) : (Instr.typeAssert (.iface 80 v) xT 166 true).run Tryz.prog w = .ok (.tuple #[.nilIface, .bool false]) w := run_typeAssert_lacksB Tryz.underlying166 (by kernel_rfl) (by kernel_rfl) v xT w
theorem lacks168_80 (v : Value) (xT : TypeId) (w : World) : (Instr.typeAssert (.iface 80 v) xT 168 true).run Tryz.prog w = .ok (.tuple #[.nilIface, .bool false]) w := run_typeAssert_lacksB Tryz.underlying168 (by kernel_rfl) (by kernel_rfl) v xT w
theorem lacks174_85 (v : Value) (xT : TypeId) (w : World) : (Instr.typeAssert (.iface 85 v) xT 174 true).run Tryz.prog w = .ok (.tuple #[.nilIface, .bool false]) w := run_typeAssert_lacksB Tryz.underlying174 (by kernel_rfl) (by kernel_rfl) v xT w
theorem has166_85 (v : Value) (xT : TypeId) (w : World) : (Instr.typeAssert (.iface 85 v) xT 166 true).run Tryz.prog w = .ok (.tuple #[.iface 85 v, .bool true]) w := run_typeAssert_hasB Tryz.underlying166 (by kernel_rfl) v xT w
theorem meth_fault (v : Value) (w : World) : (Go.method 354 85 v "Unwrap").run Tryz.prog w = .ok (192, v) w := by kernel_rfl
theorem comp_num : (Tryz.prog.info? 80).map (·.comparable) = some true := by kernel_rfl
theorem eql_num (a b : Int) (w : World) : (binOp .eql 42 (.iface 80 (.int .i64 a)) (.iface 80 (.int .i64 b))).run Tryz.prog w = .ok (.bool (a == b)) w := Lib.run_eql_iface_int (P := Tryz.prog) w (t := 42) (tx := 80) (k := .i64) a b Tryz.underlying42 comp_num Tryz.underlying80
theorem eql_85 (v u : Value) (w : World) : (binOp .eql 42 (.iface 85 v) (.iface 80 u)).run Tryz.prog w = .ok (.bool false) w := run_eql_iface_types 85 80 v u Tryz.underlying42 (by decide) w
end Go.Proofs.YtbebgobboccjcaaGreatDoor
namespace Go.Proofs.YtbebgobboccjcaaGreatDoor.Kit
open Go.RowKit Go.Maps
set_option linter.unusedVariables false

def heldR (v : Value) : Option (DataW Value × List MemPlace) := some (.held v, [])
def entP (e : Int × Value) : Lit × DataW Value := (.int .i64 e.1, .held e.2)
def entD (es : List (Int × Value)) : DataW Value := .map (es.map entP)
def RiseK (es : List (Int × Value)) : Prop := es.Pairwise fun a b => a.1 < b.1
def MapIs (P : Program) (k : TypeId) (w : World) (b : Nat) (es : List (Int × Value)) : Prop := w.ownsMap P k heldR b es.length (entD es) ∧ RiseK es
def getK (es : List (Int × Value)) (i : Int) : Option Value := (es.find? fun e => e.1 == i).map (·.2)
def putK : List (Int × Value) → Int → Value → List (Int × Value)
 | [], i, v => [(i, v)]
 | (a, x) :: r, i, v => if i < a then (i, v) :: (a, x) :: r else if i = a then (i, v) :: r else (a, x) :: putK r i v
def delK (es : List (Int × Value)) (i : Int) : List (Int × Value) := es.filter fun e => !(e.1 == i)
section
variable {P : Program} {k : TypeId} {w : World} {b n : Nat} {es : List (Int × Value)}

theorem owns_tight {D : DataW Value} (h : w.ownsMap P k heldR b n D) : w.ownsMap P k heldR b (Maps.size D) D := by
 obtain ⟨es, clock, hb, F, hs, rfl⟩ := h
 exact ⟨es, clock, hb, F, by simp [Maps.size, length_sorted], rfl⟩
theorem size_entD (es : List (Int × Value)) : Maps.size (entD es) = es.length := by simp [entD, Maps.size]
theorem same_int (a i : Int) : (Lit.int .i64 a).sameKey (.int .i64 i) = (a == i) := by
 simp [Lit.sameKey]
 by_cases h : a = i <;> simp [h]
theorem find_entD (es : List (Int × Value)) (i : Int) : (es.map entP).find? (fun p => p.1.sameKey (.int .i64 i)) = (es.find? fun e => e.1 == i).map entP := by
 induction es with
 | nil => rfl
 | cons e r ih =>
   rw [List.map_cons, List.find?_cons, List.find?_cons]
   have : (entP e).1.sameKey (.int .i64 i) = (e.1 == i) := same_int _ _
   rw [this]
   cases e.1 == i
   · exact ih
   · rfl
theorem atKey_entD (es : List (Int × Value)) (i : Int) (z : Value) : (entD es).atKey (.int .i64 i) (.held z) = .held ((getK es i).getD z) := by
 unfold entD DataW.atKey getK
 simp only [find_entD]
 cases es.find? fun e => e.1 == i <;> rfl
theorem has_entD (es : List (Int × Value)) (i : Int) : Maps.has (entD es) (.int .i64 i) = (getK es i).isSome := by
 unfold entD getK
 rw [Maps.has_eq]
 induction es with
 | nil => rfl
 | cons e r ih =>
   rw [List.map_cons, List.any_cons, List.find?_cons]
   have : (entP e).1.sameKey (.int .i64 i) = (e.1 == i) := same_int _ _
   rw [this]
   cases e.1 == i
   · simpa using ih
   · simp
theorem filter_entD (es : List (Int × Value)) (i : Int) : (es.map entP).filter (fun p => !p.1.sameKey (.int .i64 i)) = (delK es i).map entP := by
 unfold delK
 induction es with
 | nil => rfl
 | cons e r ih =>
   have : (entP e).1.sameKey (.int .i64 i) = (e.1 == i) := same_int _ _
   rw [List.map_cons, List.filter_cons, List.filter_cons, this]
   cases e.1 == i
   · simpa using ih
   · simpa using ih
theorem del_entD (es : List (Int × Value)) (i : Int) : (entD es).del (.int .i64 i) = entD (delK es i) := by
 unfold entD DataW.del
 simp only [filter_entD]
theorem delK_all {r : List (Int × Value)} {i : Int} (h : ∀ e ∈ r, i ≠ e.1) : delK r i = r := by
 unfold delK
 rw [List.filter_eq_self]
 intro e he
 have := h e he
 simp
 exact fun e2 => this e2.symm
theorem insert_low {r : List (Int × Value)} {i : Int} (v : Value) (h : ∀ e ∈ r, i < e.1) : DataW.insert (.int .i64 i, .held v) (r.map entP) = ((i, v) :: r).map entP := by
 cases r with
 | nil => rfl
 | cons e r =>
   have := h e (by simp)
   simp [DataW.insert, entP, Lit.before, this]
theorem put_list : ∀ (es : List (Int × Value)) (i : Int) (v : Value), RiseK es → DataW.insert (.int .i64 i, .held v) ((delK es i).map entP) = (putK es i v).map entP
 | [], i, v, _ => rfl
 | (a, x) :: r, i, v, h => by
   obtain ⟨h1, h2⟩ := List.pairwise_cons.1 h
   unfold putK
   by_cases c1 : i < a
   · rw [if_pos c1, delK_all (fun e he => by
      rcases List.mem_cons.1 he with e2 | e2
      · subst e2; simp; omega
      · have := h1 e e2; simp at this; omega)]
     exact insert_low v (fun e he => by
      rcases List.mem_cons.1 he with e2 | e2
      · subst e2; exact c1
      · have := h1 e e2; simp at this; omega)
   · rw [if_neg c1]
     by_cases c2 : i = a
     · rw [if_pos c2]
       subst c2
       have : delK ((i, x) :: r) i = r := by
        unfold delK
        rw [List.filter_cons]
        simp
        intro e he
        have := h1 (e, he)
        intro hm e2
        have := this hm
        simp at this
        omega
       rw [this]
       exact insert_low v (fun e he => by have := h1 e he; simpa using this)
     · rw [if_neg c2]
       have : delK ((a, x) :: r) i = (a, x) :: delK r i := by
        unfold delK
        rw [List.filter_cons]
        have : (a == i) = false := beq_eq_false_iff_ne.2 (fun e => c2 e.symm)
        simp [this]
       rw [this, List.map_cons, List.map_cons]
       have ih := put_list r i v h2
       rw [← ih]
       have : ((Lit.int IntKind.i64 i, DataW.held v).1.before (entP (a, x)).1) = false := by simp [entP, Lit.before]; omega
       rw [DataW.insert, this]
       rfl
theorem put_entD (es : List (Int × Value)) (i : Int) (v : Value) (h : RiseK es) : (entD es).put (.int .i64 i) (.held v) = entD (putK es i v) := by
 unfold entD DataW.put
 simp only [filter_entD, put_list es i v h]
theorem putK_keys : ∀ (es : List (Int × Value)) (i : Int) (v : Value), ∀ e ∈ putK es i v, e.1 = i ∨ e ∈ es
 | [], i, v, e, he => by simp [putK] at he; subst he; exact .inl rfl
 | (a, x) :: r, i, v, e, he => by
   unfold putK at he
   split at he
   · rcases List.mem_cons.1 he with h | h
     · subst h; exact .inl rfl
     · exact .inr h
   · split at he
     · rcases List.mem_cons.1 he with h | h
       · subst h; exact .inl rfl
       · exact .inr (by simp [h])
     · rcases List.mem_cons.1 he with h | h
       · subst h; exact .inr (by simp)
       · rcases putK_keys r i v e h with h | h
         · exact .inl h
         · exact .inr (by simp [h])
theorem putK_rise : ∀ (es : List (Int × Value)) (i : Int) (v : Value), RiseK es → RiseK (putK es i v)
 | [], i, v, _ => List.pairwise_singleton _ _
 | (a, x) :: r, i, v, h => by
   obtain ⟨h1, h2⟩ := List.pairwise_cons.1 h
   unfold putK
   split
   · rename_i c
     refine List.pairwise_cons.2 ⟨fun e he => ?_, h⟩
     rcases List.mem_cons.1 he with e2 | e2
     · subst e2; exact c
     · have := h1 e e2; simp at *; omega
   · split
     · rename_i c1 c
       refine List.pairwise_cons.2 ⟨fun e he => ?_, h2⟩
       have := h1 e he; simp at *; omega
     · rename_i c1 c2
       refine List.pairwise_cons.2 ⟨fun e he => ?_, putK_rise r i v h2⟩
       rcases putK_keys r i v e he with e2 | e2
       · simp; omega
       · exact h1 e e2
theorem delK_rise {es : List (Int × Value)} (i : Int) (h : RiseK es) : RiseK (delK es i) := h.filter _
theorem mapIs_made (P : Program) (k : TypeId) (w : World) : MapIs P k (w.alloc (.map #[] 0)) w.heap.size [] := ⟨World.ownsMap_made w P k heldR, List.Pairwise.nil⟩
theorem MapIs.lt (h : MapIs P k w b es) : b < w.heap.size := h.1.lt
theorem MapIs.block {w' : World} (h : MapIs P k w b es) (e : w'.heap[b]? = w.heap[b]?) : MapIs P k w' b es := by
 obtain ⟨⟨xs, clock, hb, r⟩, h2⟩ := h
 exact ⟨⟨xs, clock, e.trans hb, r⟩, h2⟩
theorem MapIs.isMap (h : MapIs P k w b es) : ∃ xs c, w.heap[b]? = some (.map xs c) := by
 obtain ⟨⟨xs, clock, hb, r⟩, h2⟩ := h
 exact ⟨_, _, hb⟩
theorem MapIs.nocell (h : MapIs P k w b es) (o : Nat) : w.cell? ⟨b, o, none⟩ = none := by
 obtain ⟨xs, c, hb⟩ := h.isMap
 simp [World.cell?, hb]
theorem MapIs.below {w' : World} (h : MapIs P k w b es) (hb : Below w.heap.size w w') : MapIs P k w' b es := h.block (hb.block b h.lt)
theorem key64 {i : Int} (hk : P.underlying k = some (.int .i64)) (h : -9223372036854775808 ≤ i ∧ i ≤ 9223372036854775807) : keyOf P k (.int .i64 i) = some (.int .i64 i) := by
 refine keyOf_int_mk hk ?_
 have h1 : IntKind.i64.min = -9223372036854775808 := by decide
 have h2 : IntKind.i64.max = 9223372036854775807 := by decide
 show (decide (IntKind.i64.min ≤ i) && decide (i ≤ IntKind.i64.max)) = true
 rw [h1, h2]
 simp [h.1, h.2]
theorem MapIs.look {t e : TypeId} (h : MapIs P k w b es) (hk : P.underlying k = some (.int .i64)) (ht : P.underlying t = some (.map k e)) {z : Value} (hz : (zeroValue e).run P w = .ok z w) {i : Int} (hi : -9223372036854775808 ≤ i ∧ i ≤ 9223372036854775807) :
 (Instr.lookup t (.map (some b)) (.int .i64 i) false).run P w = .ok ((getK es i).getD z) w := by
 obtain ⟨v, ps, h1, h2⟩ := h.1.lookup (int_keyed hk) ht hz (zd := .held z) (zp := []) rfl (key64 hk hi)
 rw [atKey_entD] at h2
 have : v = (getK es i).getD z := by
  unfold heldR at h2
  injection h2 with h2
  injection h2 with h2 _
  injection h2
 rw [← this]; exact h1
theorem MapIs.put {t e : TypeId} (h : MapIs P k w b es) (hk : P.underlying k = some (.int .i64)) (ht : P.underlying t = some (.map k e)) (hn : es.length < maxLen) {i : Int} (hi : -9223372036854775808 ≤ i ∧ i ≤ 9223372036854775807) (v : Value) :
 ∃ w', (Instr.mapUpdate t (.map (some b)) (.int .i64 i) v).run P w = .ok () w' ∧ MapIs P k w' b (putK es i v) ∧ w.grownBy w' (some b) ∧ w'.heap.size = w.heap.size := by
 obtain ⟨w', hrun, r1, r2⟩ := h.1.store (int_keyed hk) ht hn (key64 hk hi) (d := .held v) (ps := []) rfl
 refine ⟨w', hrun, ⟨?_, putK_rise es i v h.2⟩, r2.grown, by obtain ⟨_, _, _, _, _, rfl⟩ := r2; simp [ChangeMaps.setBlock]⟩
 have := owns_tight r1
 rw [put_entD es i v h.2, size_entD] at this
 exact this
theorem MapIs.del {t e : TypeId} (h : MapIs P k w b es) (hk : P.underlying k = some (.int .i64)) (ht : P.underlying t = some (.map k e)) {i : Int} (hi : -9223372036854775808 ≤ i ∧ i ≤ 9223372036854775807) (ty : TypeId) :
 ∃ w', (Builtin.delete_ #[t, k] ty #[.map (some b), .int .i64 i]).run P w = .ok (.tuple #[]) w' ∧ MapIs P k w' b (delK es i) ∧ w.grownBy w' (some b) ∧ w'.heap.size = w.heap.size := by
 obtain ⟨w', hrun, r1, r2⟩ := h.1.drop (int_keyed hk) ht (key64 hk hi) ty
 refine ⟨w', hrun, ⟨?_, delK_rise i h.2⟩, r2.grown, by obtain ⟨_, _, _, _, _, rfl⟩ := r2; simp [ChangeMaps.setBlock]⟩
 have := owns_tight r1
 rw [del_entD es i, size_entD] at this
 exact this
theorem MapIs.len {t e : TypeId} (h : MapIs P k w b es) (ht : P.underlying t = some (.map k e)) (ty : TypeId) : (Builtin.len_ #[t] ty #[.map (some b)]).run P w = .ok (.int .i64 es.length) w := by
 have := h.1.len ht ty
 rw [size_entD] at this
 exact this
def RangeIs (P : Program) (k : TypeId) (w : World) (b r : Nat) (es : List (Int × Value)) (left : Lit → Bool) (cnt : Nat) : Prop := w.ranges P k heldR b r es.length (entD es) left cnt ∧ RiseK es
theorem RangeIs.map {r cnt : Nat} {left : Lit → Bool} (h : RangeIs P k w b r es left cnt) : MapIs P k w b es := ⟨h.1.owns, h.2⟩
theorem RangeIs.below {w' : World} {r cnt : Nat} {left : Lit → Bool} (h : RangeIs P k w b r es left cnt) (hb : Below w.heap.size w w') : RangeIs P k w' b r es left cnt := by
 have h1 := h.1.owns.lt
 have h2 := h.1.lt
 obtain ⟨⟨xs, clock, since, seen, c0, hb1, F, hs, hD, hr, rest⟩, hk⟩ := h
 exact ⟨⟨xs, clock, since, seen, c0, (hb.block b h1).trans hb1, F, hs, hD, (hb.block r h2).trans hr, rest⟩, hk⟩
theorem MapIs.range {t e : TypeId} (h : MapIs P k w b es) (hk : P.underlying k = some (.int .i64)) (ht : P.underlying t = some (.map k e)) :
 ∃ w', (Instr.range t (.map (some b))).run P w = .ok (.pointer (some ⟨w.heap.size, 0, none⟩)) w' ∧ RangeIs P k w' b w.heap.size es (Maps.has (entD es)) es.length ∧ w.grownBy w' none ∧ w'.heap.size = w.heap.size + 1 := by
 obtain ⟨w', h1, h2, h3, h4⟩ := h.1.range (int_keyed hk) ht
 rw [size_entD] at h2
 exact ⟨w', h1, ⟨h2, h.2⟩, h3, h4⟩
theorem get_mem {i : Int} {v : Value} (h : getK es i = some v) : (i, v) ∈ es := by
 unfold getK at h
 obtain ⟨e, he, rfl⟩ := Option.map_eq_some_iff.1 h
 have h1 := List.mem_of_find?_eq_some he
 have h2 := List.find?_some he
 simp at h2
 rw [← h2]; exact h1
theorem wpList_nextK {β : Type} {ops : Array Oper} {rest : List Oper} {o : Oper} {a : Act} {Q : Exit → Act → World → Prop} (hg : o.guard = none) (it : Operand) (hop : o.op = Op.next it false) (k : TypeId) (hk : P.underlying k = some (.int .i64))
 (b r : Nat) (es : List (Int × Value)) (left : Lit → Bool) (cnt : Nat) (hit : a.eval it = .pointer (some ⟨r, 0, none⟩)) (h : RangeIs P k w b r es left cnt) (mkV : β → Value) (inv : ∀ e ∈ es, ∃ c, e.2 = mkV c)
 (hDone : (∀ i : Int, left (.int .i64 i) = false) → wpList P ops Q rest (a.put o.dst (.tuple #[.bool false])) w)
 (hMore : ∀ (x : Int) (c : β) (w' : World) (cnt' : Nat), (x, mkV c) ∈ es → left (.int .i64 x) = true → RangeIs P k w' b r es (fun z => left z && !z.sameKey (.int .i64 x)) cnt' → cnt' < cnt → w.grownBy w' (some r) → w'.heap.size = w.heap.size →
   (Instr.entry (.pointer (some ⟨r, 0, none⟩))).run P w' = .ok (.tuple #[.int .i64 x, mkV c]) w' → wpList P ops Q rest (a.put o.dst (.tuple #[.bool true, .int .i64 x, mkV c])) w') :
 wpList P ops Q (o :: rest) a w := by
 refine wpList_plain hg fun K' hK' => ?_
 unfold Oper.wp
 rcases h.1.next (int_keyed hk) o.type with ⟨h0, hl, hrun⟩ | ⟨key, v, kl, y, w', cnt', hkey, hlk, hv, hat, hrun, hrg, hlt, hgr, hsz, hen⟩
 · simp [execOp, hop, hit, hrun, Result.andThen]
   exact hK' _ _ (hDone fun i => hl _)
 · obtain ⟨x, rfl, rfl, _⟩ := Maps.keyOf_int_inv hk hkey
   have hy : y.1 = .held v := by
    unfold heldR at hv
    injection hv with hv
    rw [← hv]
   have hmem : (x, v) ∈ es := by
    apply get_mem
    have h1 := hat (.held v)
    have h2 := hat (.held (.tuple #[]))
    have h3 := hat (.held .nilFunc)
    rw [atKey_entD, hy] at h1 h2 h3
    injection h2 with h2
    injection h3 with h3
    cases e : getK es x with
    | none =>
      rw [e] at h2 h3
      simp only [Option.getD_none] at h2 h3
      rw [← h3] at h2
      cases h2
    | some u =>
      rw [e] at h2
      simp only [Option.getD_some] at h2
      rw [h2]
   obtain ⟨c, hc⟩ := inv _ hmem
   simp only at hc
   subst hc
   simp [execOp, hop, hit, hrun, Result.andThen]
   exact hK' _ _ (hMore x c w' cnt' hmem hlk ⟨hrg, h.2⟩ hlt hgr hsz hen)
end
end Go.Proofs.YtbebgobboccjcaaGreatDoor.Kit
namespace Go.Proofs.YtbebgobboccjcaaGreatDoor.Kit
open Go.ChangeShapes Go.WideShapes Go.ChangeAt Go.RowKit
set_option linter.unusedVariables false

def bytesIn (zs : List Int) : Prop := ∀ z ∈ zs, 0 ≤ z ∧ z < 256
def wordsIn (zs : List Int) : Prop := ∀ z ∈ zs, 0 ≤ z ∧ z < 18446744073709551616
theorem bytesIn_drop {zs : List Int} (h : bytesIn zs) (k : Nat) : bytesIn (zs.drop k) := fun z hz => h z (List.mem_of_mem_drop hz)
def Row (w : World) (base : Nat) (k : IntKind) (e : TypeId) (v : Value) (zs : List Int) : Prop := w.ownsRow base e 1 v zs.length (zs.map (Value.int k))
def Vw (B : Nat) (w : World) (k : IntKind) (v : Value) (zs : List Int) : Prop :=
 (zs = [] ∧ ∃ ao cap, v = .slice ao 0 cap ∧ (ao = none → cap = 0) ∧ cap ≤ maxLen) ∨
 (0 < zs.length ∧ ∃ b off cap, v = .slice (some ⟨b, off, none⟩) zs.length cap ∧ zs.length ≤ cap ∧ cap ≤ maxLen ∧ b < B ∧ ∀ i, i < zs.length → w.cell? ⟨b, off + i, none⟩ = some (.int k (zs.getD i 0)))

theorem Vw.below {B : Nat} {w w' : World} {k : IntKind} {v : Value} {zs : List Int} (h : Vw B w k v zs) (hb : Below B w w') : Vw B w' k v zs := by
 rcases h with h | ⟨hz, b, off, cap, hv, h1, h2, h3, h4⟩
 · exact .inl h
 · exact .inr ⟨hz, b, off, cap, hv, h1, h2, h3, fun i hi => (hb.cell (by exact h3)).trans (h4 i hi)⟩
theorem Vw.mono {B B' : Nat} {w : World} {k : IntKind} {v : Value} {zs : List Int} (h : Vw B w k v zs) (hB : B ≤ B') : Vw B' w k v zs := by
 rcases h with h | ⟨hz, b, off, cap, hv, h1, h2, h3, h4⟩
 · exact .inl h
 · exact .inr ⟨hz, b, off, cap, hv, h1, h2, by omega, h4⟩
theorem Vw.cut {B : Nat} {w : World} {k : IntKind} {b off n cap : Nat} {zs : List Int} (h : Vw B w k (.slice (some ⟨b, off, none⟩) n cap) zs) (j : Nat) (hj : j ≤ zs.length) : Vw B w k (.slice (some ⟨b, off, none⟩) j cap) (zs.take j) := by
 have hl : (zs.take j).length = j := by rw [List.length_take]; omega
 rcases h with ⟨rfl, ao, c, he, hn, hm⟩ | ⟨hz, b', off', c, he, h1, h2, h3, h4⟩
 · simp at hj
   subst hj
   simp only [Value.slice.injEq] at he
   exact .inl ⟨by simp, _, cap, rfl, by simp, by rw [he.2.2]; exact hm⟩
 · simp only [Value.slice.injEq, Option.some.injEq, Addr.mk.injEq, and_true] at he
   obtain ⟨⟨rfl, rfl⟩, rfl, rfl⟩ := he
   by_cases h0 : j = 0
   · subst h0; exact .inl ⟨by simp, _, cap, rfl, by simp, h2⟩
   · refine .inr ⟨by omega, b, off, cap, by rw [hl], by omega, h2, h3, ?_⟩
     intro i hi
     rw [h4 i (by omega)]
     simp [List.getD, show i < j by omega]
def strOf (zs : List Int) : ByteArray := ⟨(zs.map fun n => UInt8.ofNat n.toNat).toArray⟩
theorem strOf_inj {xs ys : List Int} (hx : bytesIn xs) (hy : bytesIn ys) (h : strOf xs = strOf ys) : xs = ys := by
 have h1 : (xs.map fun n => UInt8.ofNat n.toNat) = ys.map fun n => UInt8.ofNat n.toNat := by
  have := congrArg (fun b : ByteArray => b.data.toList) h; simpa [strOf] using this
 have key : ∀ n : Int, 0 ≤ n → n < 256 → ((UInt8.ofNat n.toNat).toNat : Int) = n := fun n a b => by
  rw [UInt8.toNat_ofNat', Nat.mod_eq_of_lt (by omega)]; omega
 have h2 := congrArg (List.map fun u : UInt8 => (u.toNat : Int)) h1
 simp only [List.map_map] at h2
 have ex : ∀ zs : List Int, bytesIn zs → zs.map ((fun u : UInt8 => (u.toNat : Int)) ∘ fun n => UInt8.ofNat n.toNat) = zs := fun zs hz => by
  conv => rhs; rw [← List.map_id zs]
  exact List.map_congr_left fun z hz' => key z (hz z hz').1 (hz z hz').2
 rwa [ex xs hx, ex ys hy] at h2
theorem strOf_fold : ∀ (l : List Int) (r : ByteArray), l.foldl (fun r n => r.push (UInt8.ofNat n.toNat)) r = ⟨r.data ++ (l.map fun n => UInt8.ofNat n.toNat).toArray⟩
 | [], r => by simp
 | b :: l, r => by
   simp only [List.map_cons, List.foldl_cons]
   rw [strOf_fold l]
   simp [ByteArray.push]
theorem conv_view {P : Program} {T S E : TypeId} (hT : P.underlying T = some (.slice E)) (hE : P.underlying E = some (.int .u8)) (hS : P.underlying S = some .string) {B : Nat} {w : World} {v : Value} {zs : List Int} (h : Vw B w .u8 v zs) : (convert T S v).run P w = .ok (.string (strOf zs)) w := by
 have fin : ∀ l : List Int, l.foldl (fun r n => r.push (UInt8.ofNat n.toNat)) ByteArray.empty = strOf l := fun l => by
  rw [strOf_fold]; unfold strOf; rw [show ByteArray.empty.data = #[] from rfl]; simp
 rcases h with ⟨rfl, ao, cap, rfl, hn, _⟩ | ⟨hz, b, off, cap, rfl, h1, h2, h3, h4⟩
 · rw [run_convert_bytes_string w T S E ao 0 cap hT hE hS]
   cases ao with
   | none => rw [hn rfl]; rfl
   | some a =>
     have hl := run_loadCells_list (P := P) w a (([] : List Int).map (Value.int .u8)) (fun j v hj => by simp at hj)
     rw [run_bytesToString w a 0 cap [] hl, fin]
 · rw [run_convert_bytes_string w T S E _ _ cap hT hE hS]
   have hl := run_loadCells_list (P := P) w ⟨b, off, none⟩ (zs.map (Value.int .u8)) (fun j v hj => by
    have hj' : j < zs.length := by have := (List.getElem?_eq_some_iff.1 hj).1; simpa using this
    rw [Addr.add_lit, h4 j hj']
    rw [← hj]; simp [hj'])
   rw [List.length_map] at hl
   rw [run_bytesToString w _ _ cap zs hl, fin]
theorem Row.mono {w : World} {base base' : Nat} {k : IntKind} {e : TypeId} {v : Value} {zs : List Int} (h : Row w base k e v zs) (hb : base' ≤ base) : Row w base' k e v zs := by
 obtain ⟨h1, h2⟩ := h
 refine ⟨h1, ?_⟩
 rcases h2 with h2 | ⟨g, cap, cur, hv, hg, r⟩
 · exact .inl h2
 · exact .inr ⟨g, cap, cur, hv, by omega, r⟩
theorem Row.alloc {w : World} {base : Nat} {k : IntKind} {e : TypeId} {v : Value} {zs : List Int} (h : Row w base k e v zs) (o : Obj) : Row (w.alloc o) base k e v zs := World.ownsRow.alloc h o
theorem Row.below {w w' : World} {base B : Nat} {k : IntKind} {e : TypeId} {v : Value} {zs : List Int} (h : Row w base k e v zs) (hb : Below B w w') (hB : ∀ j, v.ownBlock = some j → j < B) : Row w' base k e v zs := by
 obtain ⟨h1, h2⟩ := h
 refine ⟨h1, ?_⟩
 rcases h2 with h2 | ⟨g, cap, cur, hv, hg, hh, r⟩
 · exact .inl h2
 · exact .inr ⟨g, cap, cur, hv, hg, by rw [hb.block g (hB g (by rw [hv]; rfl))]; exact hh, r⟩
theorem Row.lt {w : World} {base : Nat} {k : IntKind} {e : TypeId} {v : Value} {zs : List Int} (h : Row w base k e v zs) : ∀ j, v.ownBlock = some j → j < w.heap.size := fun j hj => (World.ownsRow.lt h j hj).2
theorem Row.stored {w : World} {base g cap n : Nat} {k : IntKind} {e : TypeId} {zs : List Int} (h : Row w base k e (.slice (some ⟨g, 0, none⟩) n cap) zs) (hn : zs.length = n) (j : Nat) (z : Int) : Row (w.setCell ⟨g, j, none⟩ (.int k z)) base k e (.slice (some ⟨g, 0, none⟩) n cap) (zs.set j z) := by
 unfold Row at *
 subst hn
 have := h.stored j (.int k z)
 rw [List.length_set, List.map_set]; exact this.1
theorem Row.frozen {w : World} {base g cap n : Nat} {k : IntKind} {e : TypeId} {zs : List Int} (h : Row w base k e (.slice (some ⟨g, 0, none⟩) n cap) zs) (hn : zs.length = n) (j : Nat) : w.frozen? ⟨g, j, none⟩ = false := by
 unfold Row at h; subst hn; exact h.frozenAt j
def IsRow (k : IntKind) (w : World) (a : Option Addr) (len cap : Nat) (zs : List Int) : Prop :=
 (a = none ∧ len = 0 ∧ cap = 0 ∧ zs = []) ∨
 ∃ x, a = some x ∧ len ≤ cap ∧ cap ≤ maxLen ∧ zs.length = cap ∧ (∀ i, i < zs.length → w.cell? (x.add i) = some (.int k (zs.getD i 0))) ∧ ∀ n ∈ zs, (Lit.int k n).wf = true
theorem cell_lt {w : World} {a : Addr} {v : Value} (h : w.cell? a = some v) : a.block < w.heap.size := by
 by_cases hb : a.block < w.heap.size
 · exact hb
 · have : w.heap[a.block]? = none := Array.getElem?_eq_none (by omega)
   simp [World.cell?, this] at h
theorem isRow_len {k : IntKind} {w : World} {a : Option Addr} {len cap : Nat} {zs : List Int} (h : IsRow k w a len cap zs) : (zs.take len).length = len ∧ len ≤ cap ∧ cap ≤ maxLen := by
 rcases h with ⟨rfl, rfl, rfl, rfl⟩ | ⟨x, rfl, h1, h2, h3, h4, h5⟩
 · simp
 · rw [List.length_take]; omega
theorem isRow_view {k : IntKind} {w : World} {a : Option Addr} {len cap : Nat} {zs : List Int} (h : IsRow k w a len cap zs) : Vw w.heap.size w k (.slice a len cap) (zs.take len) := by
 have hl := isRow_len h
 rcases h with ⟨rfl, rfl, rfl, rfl⟩ | ⟨x, rfl, h1, h2, h3, h4, h5⟩
 · exact .inl ⟨rfl, none, 0, rfl, fun _ => rfl, by simp⟩
 · by_cases h0 : len = 0
   · subst h0; exact .inl ⟨by simp, _, cap, rfl, by simp, h2⟩
   · obtain ⟨b, off, spot⟩ := x
     have hc := h4 0 (by omega)
     have hspot : spot = none := by simpa [Addr.add] using World.cell?_spot hc
     subst hspot
     refine .inr ⟨by omega, b, off, cap, by rw [hl.1], by omega, h2, cell_lt (h4 0 (by omega)), ?_⟩
     intro i hi
     have := h4 i (by omega)
     rw [Addr.add_lit] at this
     rw [this]
     simp [List.getD, show i < len by omega]
theorem isRow_bytes {w : World} {a : Option Addr} {len cap : Nat} {zs : List Int} (h : IsRow .u8 w a len cap zs) : bytesIn (zs.take len) := by
 rcases h with ⟨rfl, rfl, rfl, rfl⟩ | ⟨x, rfl, h1, h2, h3, h4, h5⟩
 · intro z hz; simp at hz
 · intro z hz
   have := bounds_u8 (h5 z (List.mem_of_mem_take hz)); omega
def bytesOf (s : ByteArray) : List Int := s.data.toList.map fun b => (b.toNat : Int)
theorem bytesOf_len (s : ByteArray) : (bytesOf s).length = s.size := by rw [bytesOf, List.length_map, Array.length_toList]; rfl
theorem bytesOf_in (s : ByteArray) : bytesIn (bytesOf s) := by
 intro z hz
 simp only [bytesOf, List.mem_map] at hz
 obtain ⟨b, _, rfl⟩ := hz
 have := b.toNat_lt
 omega
theorem strOf_bytesOf (s : ByteArray) : strOf (bytesOf s) = s := by
 apply WideShapes.bytes_inj
 unfold strOf bytesOf
 rw [List.map_map]
 show (List.toArray _).toList = _
 rw [show ((fun n : Int => UInt8.ofNat n.toNat) ∘ fun b : UInt8 => (b.toNat : Int)) = id from funext fun b => by simp]
 simp
end Go.Proofs.YtbebgobboccjcaaGreatDoor.Kit
namespace Go.Proofs.YtbebgobboccjcaaGreatDoor.Kit
open Go.ChangeShapes Go.WideShapes Go.ChangeAt Go.RowKit
set_option linter.unusedVariables false

def RowV (w : World) (base : Nat) (e : TypeId) (v : Value) (xs : List Value) : Prop := w.ownsRow base e 1 v xs.length xs
def Sees (w : World) (v : Value) (xs : List Value) : Prop :=
 ∃ ao cap, v = .slice ao xs.length cap ∧ xs.length ≤ cap ∧ cap ≤ maxLen ∧ (ao = none → cap = 0) ∧ (0 < xs.length → ∃ b off, ao = some ⟨b, off, none⟩ ∧ b < w.heap.size ∧ ∀ i x, xs[i]? = some x → w.cell? ⟨b, off + i, none⟩ = some x)
theorem Sees.below {w w' : World} {v : Value} {xs : List Value} (h : Sees w v xs) (hb : Below w.heap.size w w') : Sees w' v xs := by
 obtain ⟨ao, cap, h1, h2, h3, h4, h5⟩ := h
 refine ⟨ao, cap, h1, h2, h3, h4, fun h0 => ?_⟩
 obtain ⟨b, off, e, hl, hh⟩ := h5 h0
 exact ⟨b, off, e, Nat.lt_of_lt_of_le hl hb.size, fun i x hx => (hb.cell (by exact hl)).trans (hh i x hx)⟩
theorem RowV.sees {w : World} {base : Nat} {e : TypeId} {v : Value} {xs : List Value} (h : RowV w base e v xs) : Sees w v xs := by
 have h0 := h
 unfold RowV at h
 obtain ⟨h1, h2⟩ := h
 rcases h2 with ⟨h2, h3⟩ | ⟨g, cap, cur, hv, hg, hh, hn, hm, _, _⟩
 · exact ⟨none, 0, by rw [h3]; exact h2, by omega, by simp, fun _ => rfl, fun h => absurd h (by omega)⟩
 · refine ⟨_, cap, hv, hn, hm, by simp, fun _ => ⟨g, 0, rfl, (Array.getElem?_eq_some_iff.1 hh).1, fun i x hx => ?_⟩⟩
   subst hv
   unfold RowV at h0
   have hi := (List.getElem?_eq_some_iff.1 hx).1
   rw [Nat.zero_add, h0.cellAt i (by omega)]
   exact hx
theorem rowV_nil (w : World) (base : Nat) (e : TypeId) : RowV w base e (.slice none 0 0) [] := World.ownsRow_nil w base e 1
theorem rowV_lit (w : World) (base : Nat) (e : TypeId) (xs : List Value) (hb : base ≤ w.heap.size) (hm : xs.length ≤ maxLen) : RowV (w.alloc (.cells xs.toArray e)) base e (.slice (some ⟨w.heap.size, 0, none⟩) xs.length xs.length) xs := by
 have := World.ownsRow_lit (size := 1) (e := e) (base := base) w xs.toArray xs.length hb hm (by simp)
 simpa [RowV] using this
theorem RowV.mono {w : World} {base base' : Nat} {e : TypeId} {v : Value} {xs : List Value} (h : RowV w base e v xs) (hb : base' ≤ base) : RowV w base' e v xs := by
 obtain ⟨h1, h2⟩ := h
 refine ⟨h1, ?_⟩
 rcases h2 with h2 | ⟨g, cap, cur, hv, hg, r⟩
 · exact .inl h2
 · exact .inr ⟨g, cap, cur, hv, by omega, r⟩
theorem RowV.below {w w' : World} {base : Nat} {e : TypeId} {v : Value} {xs : List Value} (h : RowV w base e v xs) (hb : Below w.heap.size w w') : RowV w' base e v xs := by
 obtain ⟨h1, h2⟩ := h
 refine ⟨h1, ?_⟩
 rcases h2 with h2 | ⟨g, cap, cur, hv, hg, hh, r⟩
 · exact .inl h2
 · exact .inr ⟨g, cap, cur, hv, hg, by rw [hb.block g (Array.getElem?_eq_some_iff.1 hh).1]; exact hh, r⟩
theorem RowV.block {w : World} {base : Nat} {e : TypeId} {v : Value} {xs : List Value} (h : RowV w base e v xs) : ∀ j, v.ownBlock = some j → base ≤ j := by
 intro j hj
 unfold RowV at h
 exact (h.lt j hj).1
theorem info_partsV {P : Program} {E : TypeId} {z : Value} {s b : Nat} (h : (P.info? E).map (fun i => (i.zero, i.size, i.bytes)) = some (some z, s, b)) : ∃ i, P.info? E = some i ∧ i.zero = some z ∧ i.size = s ∧ i.bytes = b := by
 obtain ⟨i, hi, he⟩ := Option.map_eq_some_iff.1 h
 simp only [Prod.mk.injEq] at he
 exact ⟨i, hi, he.1, he.2.1, he.2.2⟩
theorem size_okV {n bytes : Nat} (hb : bytes ≤ 16) (h : n * 16 ≤ 140737488355328) : n * bytes ≤ 140737488355328 := Nat.le_trans (Nat.mul_le_mul_left n hb) h
theorem wpList_appV {P : Program} {T E : TypeId} {z : Value} {bytes : Nat} (hT : P.underlying T = some (.slice E)) (hI : (P.info? E).map (fun i => (i.zero, i.size, i.bytes)) = some (some z, 1, bytes)) (hzc : z.cells.size = 1) (hby : bytes ≤ 16) {ops : Array Oper} {rest : List Oper} {o : Oper} {a : Act} {Q : Exit → Act → World → Prop} {w : World} (hgd : o.guard = none) (s x : Operand)
 (ho : o.op = .call { callee := .builtin .append, args := #[s, x], argTypes := #[T, T] }) (base : Nat) (v : Value) (xs : List Value) (hs : a.eval s = v) (hown : RowV w base E v xs)
 (y : Value) (news : List Value) (hx : a.eval x = y) (hv : Sees w y news) (h1c : ∀ u ∈ news, u.oneCell' = true) (hlen : (xs.length + news.length) * 16 ≤ 140737488355328) (hbase : base ≤ w.heap.size)
 (h : ∀ v' w', RowV w' base E v' (xs ++ news) → Below base w w' → wpList P ops Q rest (a.put o.dst v') w') : wpList P ops Q (o :: rest) a w := by
 obtain ⟨i0, hi, hz0, hz1, hz2⟩ := info_partsV hI
 have fin : ∀ v' w', w'.ownsRow base E 1 v' (xs.length + news.length) (xs ++ news) → w.grownBy w' v.ownBlock → wpList P ops Q rest (a.put o.dst v') w' := by
  intro v' w' h1 h2
  refine h v' w' ?_ ((Below.refl _ _).grown h2 hbase hown.block)
  unfold RowV
  rw [List.length_append]; exact h1
 obtain ⟨ao, cap, rfl, h1, h2, h3, h4⟩ := hv
 cases ao with
 | none =>
   have hc := h3 rfl
   have hn : news = [] := List.eq_nil_of_length_eq_zero (by omega)
   subst hn
   subst hc
   refine wpList_append_own_none hgd s x T ho base E i0 1 hT hi v xs.length xs hs hown hx (h v w ?_ (Below.refl _ _))
   rw [List.append_nil]; exact hown
 | some ad =>
   refine wpList_append_own _ hgd s x T ho base E i0 z 1 bytes hT hi hz0 hz1 hz2 hzc (by omega) v xs.length xs hs hown ad news.length cap news hx (by simp) ?_ h1c (by unfold maxLen; omega) (size_okV hby hlen) hbase ?_
   · intro j u hj
     have hj' : j < news.length := (List.getElem?_eq_some_iff.1 hj).1
     obtain ⟨b, off, e, _, hh⟩ := h4 (by omega)
     cases e
     rw [Addr.add_lit]
     exact hh j u hj
   · intro v' w' k1 k2 _
     exact fin v' w' k1 k2
theorem sees_one (w : World) (e : TypeId) (x : Value) (H : Nat) (hH : w.heap.size = H) : Sees (w.alloc (.cells #[x] e)) (.slice (some ⟨H, 0, none⟩) 1 1) [x] := by
 subst hH
 refine ⟨_, 1, rfl, by simp, by unfold maxLen; omega, by simp, fun _ => ⟨w.heap.size, 0, rfl, by simp, ?_⟩⟩
 intro i y hy
 match i, hy with
 | 0, hy => simp at hy; subst hy; simp
end Go.Proofs.YtbebgobboccjcaaGreatDoor.Kit
namespace Go.Proofs.YtbebgobboccjcaaGreatDoor.Kit
open Go.ChangeShapes Go.WideShapes Go.ChangeAt Go.RowKit
set_option linter.unusedVariables false

theorem step_appS {P : Program} {T E : TypeId} {z : Value} {sz bytes : Nat} (hT : P.underlying T = some (.slice E)) (hI : (P.info? E).map (fun i => (i.zero, i.size, i.bytes)) = some (some z, sz, bytes)) (hzc : z.cells.size = sz) (hsz : 0 < sz) {ops : Array Oper} {o : Oper} {a : Act} {K : Act → World → Prop} {Q : Exit → Act → World → Prop} {F : Prop} {w : World} (hgd : o.guard = none) (s x : Operand)
 (ho : o.op = .call { callee := .builtin .append, args := #[s, x], argTypes := #[T, T] }) (base : Nat) (v : Value) (n : Nat) (xs : List Value) (hs : a.eval s = v) (hown : w.ownsRow base E sz v n xs)
 (ad : Addr) (m cap : Nat) (news : List Value) (hx : a.eval x = .slice (some ad) m cap) (hl : news.length = m * sz) (hc : ∀ (j : Nat) u, news[j]? = some u → w.cell? (ad.add j) = some u) (h1c : ∀ u ∈ news, u.oneCell' = true) (hm : n + m ≤ maxLen) (hlen : (n + m) * bytes ≤ 140737488355328) (hbase : base ≤ w.heap.size)
 (h : ∀ v' w', w'.ownsRow base E sz v' (n + m) (xs ++ news) → w.grownBy w' v.ownBlock → K (a.put o.dst v') w') : if Region.wanted o (yielded ops a.tmps) = true then Oper.wp P o a w K Q else F := by
 have hw : Region.wanted o (yielded ops a.tmps) = true := by simp [Region.wanted, hgd]
 rw [if_pos hw]
 obtain ⟨i0, hi, hz0, hz1, hz2⟩ := info_partsV hI
 exact wp_append_own w s x T ho base E i0 z sz bytes hT hi hz0 hz1 hz2 hzc hsz v n xs hs hown ad m cap news hx hl hc h1c hm hlen hbase (fun v' w' k1 k2 _ => h v' w' k1 k2)
theorem wpList_appS {P : Program} {T E : TypeId} {z : Value} {sz bytes : Nat} (hT : P.underlying T = some (.slice E)) (hI : (P.info? E).map (fun i => (i.zero, i.size, i.bytes)) = some (some z, sz, bytes)) (hzc : z.cells.size = sz) (hsz : 0 < sz) {ops : Array Oper} {rest : List Oper} {o : Oper} {a : Act} {Q : Exit → Act → World → Prop} {w : World} (hgd : o.guard = none) (s x : Operand)
 (ho : o.op = .call { callee := .builtin .append, args := #[s, x], argTypes := #[T, T] }) (base : Nat) (v : Value) (n : Nat) (xs : List Value) (hs : a.eval s = v) (hown : w.ownsRow base E sz v n xs)
 (ad : Addr) (m cap : Nat) (news : List Value) (hx : a.eval x = .slice (some ad) m cap) (hl : news.length = m * sz) (hc : ∀ (j : Nat) u, news[j]? = some u → w.cell? (ad.add j) = some u) (h1c : ∀ u ∈ news, u.oneCell' = true) (hm : n + m ≤ maxLen) (hlen : (n + m) * bytes ≤ 140737488355328) (hbase : base ≤ w.heap.size)
 (h : ∀ v' w', w'.ownsRow base E sz v' (n + m) (xs ++ news) → w.grownBy w' v.ownBlock → wpList P ops Q rest (a.put o.dst v') w') : wpList P ops Q (o :: rest) a w := by
 obtain ⟨i0, hi, hz0, hz1, hz2⟩ := info_partsV hI
 exact wpList_append_own _ hgd s x T ho base E i0 z sz bytes hT hi hz0 hz1 hz2 hzc hsz v n xs hs hown ad m cap news hx hl hc h1c hm hlen hbase (fun v' w' k1 k2 _ => h v' w' k1 k2)
end Go.Proofs.YtbebgobboccjcaaGreatDoor.Kit
namespace Go.Proofs.YtbebgobboccjcaaGreatDoor.Kit
open Go.ChangeShapes Go.WideShapes Go.ChangeAt Go.RowKit
set_option linter.unusedVariables false

theorem wp_appV {P : Program} {T E : TypeId} {z : Value} {bytes : Nat} (hT : P.underlying T = some (.slice E)) (hI : (P.info? E).map (fun i => (i.zero, i.size, i.bytes)) = some (some z, 1, bytes)) (hzc : z.cells.size = 1) (hby : bytes ≤ 16) {o : Oper} {a : Act} {K : Act → World → Prop} {Q : Exit → Act → World → Prop} {w : World} (s x : Operand)
 (ho : o.op = .call { callee := .builtin .append, args := #[s, x], argTypes := #[T, T] }) (base : Nat) (v : Value) (xs : List Value) (hs : a.eval s = v) (hown : RowV w base E v xs)
 (y : Value) (news : List Value) (hx : a.eval x = y) (hv : Sees w y news) (h1c : ∀ u ∈ news, u.oneCell' = true) (hlen : (xs.length + news.length) * 16 ≤ 140737488355328) (hbase : base ≤ w.heap.size)
 (h : ∀ v' w', RowV w' base E v' (xs ++ news) → Below base w w' → K (a.put o.dst v') w') : o.wp P a w K Q := by
 obtain ⟨i0, hi, hz0, hz1, hz2⟩ := info_parts hI
 have fin : ∀ v' w', w'.ownsRow base E 1 v' (xs.length + news.length) (xs ++ news) → w.grownBy w' v.ownBlock → K (a.put o.dst v') w' := by
  intro v' w' h1 h2
  refine h v' w' ?_ ((Below.refl _ _).grown h2 hbase hown.block)
  unfold RowV
  rw [List.length_append]; exact h1
 obtain ⟨ao, cap, rfl, h1, h2, h3, h4⟩ := hv
 cases ao with
 | none =>
   have hc := h3 rfl
   have hn : news = [] := List.eq_nil_of_length_eq_zero (by omega)
   subst hn
   subst hc
   have hrun := run_append_owned_none (P := P) (w := w) base T o.type E i0 1 hT hi v xs.length xs hown
   have hk := h v w (by rw [List.append_nil]; exact hown) (Below.refl _ _)
   simp only [List.length_nil] at hx
   unfold Oper.wp
   simp [execOp, ho, resolve, invoke, builtin, hs, hx, hrun, Result.andThen]
   exact hk
 | some ad =>
   refine wp_append_own w s x T ho base E i0 z 1 bytes hT hi hz0 hz1 hz2 hzc (by omega) v xs.length xs hs hown ad news.length cap news hx (by simp) ?_ h1c (by unfold maxLen; omega) (size_okV hby hlen) hbase ?_
   · intro j u hj
     have hj' : j < news.length := (List.getElem?_eq_some_iff.1 hj).1
     obtain ⟨b, off, e, _, hh⟩ := h4 (by omega)
     cases e
     rw [Addr.add_lit]
     exact hh j u hj
   · intro v' w' k1 k2 _
     exact fin v' w' k1 k2
theorem step_appV {P : Program} {T E : TypeId} {z : Value} {bytes : Nat} (hT : P.underlying T = some (.slice E)) (hI : (P.info? E).map (fun i => (i.zero, i.size, i.bytes)) = some (some z, 1, bytes)) (hzc : z.cells.size = 1) (hby : bytes ≤ 16) {ops : Array Oper} {o : Oper} {a : Act} {K : Act → World → Prop} {Q : Exit → Act → World → Prop} {F : Prop} {w : World} (hgd : o.guard = none) (s x : Operand)
 (ho : o.op = .call { callee := .builtin .append, args := #[s, x], argTypes := #[T, T] }) (base : Nat) (v : Value) (xs : List Value) (hs : a.eval s = v) (hown : RowV w base E v xs)
 (y : Value) (news : List Value) (hx : a.eval x = y) (hv : Sees w y news) (h1c : ∀ u ∈ news, u.oneCell' = true) (hlen : (xs.length + news.length) * 16 ≤ 140737488355328) (hbase : base ≤ w.heap.size)
 (h : ∀ v' w', RowV w' base E v' (xs ++ news) → Below base w w' → K (a.put o.dst v') w') : if Region.wanted o (yielded ops a.tmps) = true then Oper.wp P o a w K Q else F := by
 have hw : Region.wanted o (yielded ops a.tmps) = true := by simp [Region.wanted, hgd]
 rw [if_pos hw]
 exact wp_appV hT hI hzc hby s x ho base v xs hs hown y news hx hv h1c hlen hbase h
theorem ints_one (zs : List Int) (k : IntKind) : ∀ u ∈ zs.map (Value.int k), u.oneCell' = true := by
 intro u hu
 obtain ⟨z, _, rfl⟩ := List.mem_map.1 hu
 rfl
end Go.Proofs.YtbebgobboccjcaaGreatDoor.Kit
namespace Go.Proofs.YtbebgobboccjcaaGreatDoor
open Go.RowKit Go.Extern.Stop Go.Stop Go.Extern
set_option linter.unusedVariables false

abbrev Nd := Nat × Value × List (ByteArray × ByteArray)
def chainOf (ns : List Nd) : List (ByteArray × ByteArray) := ((ns.find? fun x => x.1 == 85).map fun x => x.2.2).getD []
def Pre (w : World) : Nat → Value → List Nd → Prop
 | 0, v, ns => v = .nilIface ∧ ns = []
 | f + 1, v, ns =>
   (v = .nilIface ∧ ns = []) ∨
   (∃ n : Int, v = .iface 80 (.int .i64 n) ∧ ns = [(80, .int .i64 n, [])]) ∨
   (∃ (b : Nat) (op path : ByteArray) (e : Value) (ms : List Nd), v = .iface 85 (.pointer (some ⟨b, 0, none⟩)) ∧ w.cell? ⟨b, 0, none⟩ = some (.string op) ∧ w.cell? ⟨b, 1, none⟩ = some (.string path) ∧ w.cell? ⟨b, 2, none⟩ = some e ∧ (op.size ≤ 9223372036854775807 ∧ path.size ≤ 9223372036854775807) ∧ e ≠ .nilIface ∧ Pre w f e ms ∧ ns = (85, .pointer (some ⟨b, 0, none⟩), (op, path) :: chainOf ms) :: ms)
def nums (ns : List Nd) : List Int := (ns.filter fun x => x.1 == 80).map fun x => intOf x.2.1
theorem Pre.up {w : World} : ∀ {f : Nat} {v : Value} {ns : List Nd}, Pre w f v ns → Pre w (f + 1) v ns
 | 0, v, ns, h => .inl h
 | f + 1, v, ns, h => by
   rcases h with h | ⟨m, h, hm⟩ | ⟨b, op, path, e, ms', h, h2, h3, h4, h9, h5, h6, hm⟩
   · exact .inl (h)
   · exact .inr (.inl (⟨m, h, hm⟩))
   · exact .inr (.inr (⟨b, op, path, e, ms', h, h2, h3, h4, h9, h5, Pre.up h6, hm⟩))
theorem cell_old {w w' : World} {a : Addr} {v : Value} (hb : Below w.heap.size w w') (h : w.cell? a = some v) : w'.cell? a = some v := by
 have hlt : a.block < w.heap.size := by
  rcases Nat.lt_or_ge a.block w.heap.size with h' | h'
  · exact h'
  · simp [World.cell?, Array.getElem?_eq_none h'] at h
 exact (hb.cell hlt).trans h
theorem bel2e {w w1 w2 : World} (h : Below w.heap.size w w1) (k : Below w1.heap.size w1 w2) : Below w.heap.size w w2 := h.trans (k.mono h.size)
theorem Pre.below {w w' : World} (hb : Below w.heap.size w w') : ∀ {f : Nat} {v : Value} {ns : List Nd}, Pre w f v ns → Pre w' f v ns
 | 0, v, ns, h => h
 | f + 1, v, ns, h => by
   rcases h with h | ⟨m, h, hm⟩ | ⟨b, op, path, e, ms', h, h2, h3, h4, h9, h5, h6, hm⟩
   · exact .inl (h)
   · exact .inr (.inl (⟨m, h, hm⟩))
   · exact .inr (.inr (⟨b, op, path, e, ms', h, cell_old hb h2, cell_old hb h3, cell_old hb h4, h9, h5, Pre.below hb h6, hm⟩))

theorem unwrap_any (b : Nat) (e : Value) (w : World) (h : w.cell? ⟨b, 2, none⟩ = some e) : Calls Tryz.prog 192 #[.pointer (some ⟨b, 0, none⟩)] w fun r w' => r = .returned e ∧ w' = w := by
 go_enter Tryz.func192, Tryz.ntmps192
 go_wp2
 go_ret
 exact ⟨rfl, rfl⟩
theorem Pre.mono {w : World} {f g : Nat} {v : Value} {ns : List Nd} (h : Pre w f v ns) (hg : f ≤ g) : Pre w g v ns := by
 induction g with
 | zero => have : f = 0 := by omega
           subst this; exact h
 | succ g ih =>
   by_cases e : f = g + 1
   · subst e; exact h
   · exact (ih (by omega)).up
theorem Pre.form {w : World} : ∀ {f : Nat} {v : Value} {ns : List Nd}, Pre w f v ns → v = .nilIface ∨ ∃ u x, v = .iface u x
 | 0, v, ns, h => .inl h.1
 | f + 1, v, ns, h => by
   rcases h with h | ⟨m, h, hm⟩ | ⟨b, op, path, e, ms', h, h2, h3, h4, h9, h5, h6, hm⟩
   · exact .inl h.1
   · exact .inr ⟨_, _, h⟩
   · exact .inr ⟨_, _, h⟩
theorem Pre.nil {w : World} : ∀ {f : Nat} {ns : List Nd}, Pre w f .nilIface ns → ns = []
 | 0, ns, h => h.2
 | f + 1, ns, h => by
   rcases h with h | ⟨m, h, hm⟩ | ⟨b, op, path, e, ms', h, h2, h3, h4, h9, h5, h6, hm⟩
   · exact h.2
   · cases h
   · cases h
theorem Pre.empty {w : World} : ∀ {f : Nat} {v : Value}, Pre w f v [] → v = .nilIface
 | 0, v, h => h.1
 | f + 1, v, h => by
   rcases h with h | ⟨m, h, hm⟩ | ⟨b, op, path, e, ms', h, h2, h3, h4, h9, h5, h6, hm⟩
   · exact h.1
   · cases hm
   · cases hm
end Go.Proofs.YtbebgobboccjcaaGreatDoor
namespace Go.Proofs.YtbebgobboccjcaaGreatDoor
open Go.RowKit Go.Extern.Stop Go.Stop Go.Extern
set_option linter.unusedVariables false

def hit (n : Int) (ns : List Nd) : Bool := (nums ns).contains n
theorem hit_num (n m : Int) (l : List (ByteArray × ByteArray)) : hit n [(80, .int .i64 m, l)] = (m == n) := by
 unfold hit nums
 by_cases h : m = n
 · subst h; simp [intOf]
 · have h2 : ¬ n = m := fun e => h e.symm
   rw [beq_eq_false_iff_ne.2 h]; simp [intOf, h2]
theorem hit_skip (n : Int) (t : Nat) (x : Value × List (ByteArray × ByteArray)) (a : List Nd) (h : (t == 80) = false) : hit n ((t, x) :: a) = hit n a := by unfold hit nums; simp [h]
theorem ret_bool {b c : Bool} (h : Hid (b = c)) : Ending.returned (.bool c) = Ending.returned (.bool b) := by rw [h.out]

set_option maxRecDepth 4000 in
set_option maxHeartbeats 4000000 in
theorem is_pre (n : Int) : ∀ (f : Nat) (v : Value) (ns : List Nd) (w : World), Pre w f v ns → v ≠ .nilIface →
 Calls Tryz.prog 82 #[v, .iface 80 (.int .i64 n), .bool true] w fun e w' => e = .returned (.bool (hit n ns)) ∧ Below w.heap.size w w'
 | 0, v, ns, w, h, hv => absurd h.1 hv
 | f + 1, v, ns, w, h, hv => by
   have IH : Hid (∀ (v : Value) (ns : List Nd) (w : World), Pre w f v ns → v ≠ .nilIface → Calls Tryz.prog 82 #[v, .iface 80 (.int .i64 n), .bool true] w fun e w' => e = .returned (.bool (hit n ns)) ∧ Below w.heap.size w w') := fun v ns w => is_pre n f v ns w
   have H : Hid (Pre w (f + 1) v ns ∧ v ≠ .nilIface) := ⟨h, hv⟩
   have q0 := lacks174_80
   have q1 := lacks166_80
   have q2 := lacks168_80
   have q3 := lacks174_85
   have q4 := has166_85
   have q5 := eql_85
   have q6 := meth_fault
   clear h hv
   go_enter Tryz.func82, Tryz.ntmps82
   go_wp2
   go_loopg [0] (f + 1) (fun k e wr => ∃ ms, k ≤ f + 1 ∧ Aside (Pre w k e ms ∧ e ≠ .nilIface ∧ hit n ns = hit n ms ∧ Below w.heap.size w wr))
   case atStart => exact ⟨ns, Nat.le_refl _, H.out.1, H.out.2, rfl, Below.refl _ _⟩
   case round =>
    obtain ⟨ms, hk, hA⟩ := hrel
    obtain ⟨hP, hN, hC, hBB⟩ := hA.out
    have HB : Hid (Below w.heap.size w wr) := hBB
    clear hA hBB
    match gk, hk, hP with
    | 0, hk, hP => exact absurd hP.1 hN
    | k + 1, hk, hP =>
      rcases hP with h | ⟨m, h, hm⟩ | ⟨b, op, path, e, ms', h, h2, h3, h4, h9, h5, h6, hm⟩
      · exact absurd h.1 hN
      · subst h hm
        rw [hit_num] at hC
        have HC : Hid (_ = _) := hC
        clear hC hN
        rcases hab : (m == n) with _ | _
        · have h4 := fun w => (eql_num m n w).trans (by rw [hab])
          have HC2 : Hid (_ = false) := HC.out.trans hab
          clear hab HC
          go_wp2
          go_ret
          exact ⟨ret_bool HC2, HB.out⟩
        · have h4 := fun w => (eql_num m n w).trans (by rw [hab])
          have HC2 : Hid (_ = true) := HC.out.trans hab
          clear hab HC
          go_wp2
          go_ret
          exact ⟨ret_bool HC2, HB.out⟩
      · subst h hm
        rw [hit_skip n 85 _ ms' rfl] at hC
        have HC : Hid (hit n ns = hit n ms') := hC
        have HP : Hid (Pre w k e ms') := h6
        obtain ⟨u, x, he⟩ := (Pre.form h6).resolve_left h5
        subst he
        have h4w := cell_old HB.out h4
        clear hC hN h6 h5 h2 h3 h4 h9
        go_wp2_with (go_at_call 192; refine (unwrap_any b _ wr h4w).mono ?_; rintro r w' ⟨rfl, hw⟩; have hw := hw.symm; subst hw)
        go_roundg k
        case measure => omega
        case rel => exact ⟨ms', by omega, HP.out, by simp, HC.out, HB.out⟩

theorem typeOf_num (v : Value) (w : World) : (Extern.ReflectliteType.typeOf #[.iface 80 v]).run Tryz.prog w = .ok (.iface 159 (.agg #[.pointer (some ⟨4, 80, none⟩)])) w := by kernel_rfl
theorem comparable_num (w : World) : (Extern.ReflectliteType.method (fun t => do Go.Extern.Rtype.noPackHeld "Comparable" t; pure (.bool (← typeInfo t).comparable)) #[.agg #[.pointer (some ⟨4, 80, none⟩)]]).run Tryz.prog w = .ok (.bool true) w := by kernel_rfl
theorem meth_comparable (v : Value) (w : World) : (Go.method 354 159 v "Comparable").run Tryz.prog w = .ok (198, v) w := by kernel_rfl
theorem run_comparable (w : World) : (callFunc 198 #[.agg #[.pointer (some ⟨4, 80, none⟩)]]).run Tryz.prog w = .ok (.value (.bool true)) w := by
 have h := @run_callFunc_extern Tryz.prog 198 _ (Extern.ReflectliteType.method fun t => do Go.Extern.Rtype.noPackHeld "Comparable" t; pure (.bool (← typeInfo t).comparable)) Tryz.func198 (by kernel_rfl) (by kernel_rfl) (by kernel_rfl) (by kernel_rfl)
 rw [h, comparable_num]; rfl
set_option maxHeartbeats 1000000 in
theorem is_any (n : Int) (f : Nat) (v : Value) (ns : List Nd) (w : World) (hp : Pre w f v ns) :
 Calls Tryz.prog 47 #[v, .iface 80 (.int .i64 n)] w fun e w' => e = .returned (.bool (hit n ns)) ∧ Below w.heap.size w w' := by
 have hT := @run_callFunc_extern Tryz.prog 81 _ Extern.ReflectliteType.typeOf Tryz.func81 (by kernel_rfl) (by kernel_rfl) (by kernel_rfl) (by kernel_rfl)
 have tT := typeOf_num
 have hC := run_comparable
 have mR := meth_comparable
 have hl := fun w => run_eql_iface_nil_left (P := Tryz.prog) w (ti := 42) 80 (.int .i64 n) Tryz.underlying42
 rcases Pre.form hp with he | ⟨u, x, he⟩
 · subst he
   have HN : Hid (hit n ns = false) := by show _ = _; rw [Pre.nil hp]; rfl
   clear hp
   go_enter Tryz.func47, Tryz.ntmps47
   go_wp2
   go_ret
   exact ⟨ret_bool HN, Below.refl _ _⟩
 · subst he
   have HX : Hid (Calls Tryz.prog 82 _ _ _) := is_pre n f (.iface u x) ns w hp (by simp)
   clear hp
   go_enter Tryz.func47, Tryz.ntmps47
   go_wp2_with fail
   go_at_call 82
   refine HX.out.mono ?_
   rintro e w' ⟨rfl, hw⟩
   have HW : Hid (Below w.heap.size w w') := hw
   clear hw HX
   go_wp2
   go_ret
   exact ⟨rfl, HW.out⟩
end Go.Proofs.YtbebgobboccjcaaGreatDoor
namespace Go.Proofs.YtbebgobboccjcaaGreatDoor
open Go.RowKit Go.Extern.Stop Go.Stop Go.Extern
set_option linter.unusedVariables false

def firstOf (T : Nat) (ns : List Nd) : Option Value := (ns.find? fun x => x.1 == T).map fun x => x.2.1
theorem firstOf_skip (T t : Nat) (x : Value × List (ByteArray × ByteArray)) (ns : List Nd) (h : (t == T) = false) : firstOf T ((t, x) :: ns) = firstOf T ns := by
 unfold firstOf; rw [List.find?_cons]; simp only [h]
theorem firstOf_hit (T : Nat) (x : Value) (l : List (ByteArray × ByteArray)) (ns : List Nd) : firstOf T ((T, x, l) :: ns) = some x := by
 unfold firstOf; rw [List.find?_cons]; simp
theorem firstOf_nil (T : Nat) : firstOf T [] = none := rfl
theorem chainOf_hit (x : Value) (l : List (ByteArray × ByteArray)) (ns : List Nd) : chainOf ((85, x, l) :: ns) = l := by
 unfold chainOf; rw [List.find?_cons]; simp
theorem Pre.fault {w : World} : ∀ {f : Nat} {v : Value} {ns : List Nd} {x : Value}, Pre w f v ns → firstOf 85 ns = some x →
 ∃ (b : Nat) (op path : ByteArray) (e : Value) (ms : List Nd) (k : Nat), x = .pointer (some ⟨b, 0, none⟩) ∧ w.cell? ⟨b, 0, none⟩ = some (.string op) ∧ w.cell? ⟨b, 1, none⟩ = some (.string path) ∧ w.cell? ⟨b, 2, none⟩ = some e ∧ (op.size ≤ 9223372036854775807 ∧ path.size ≤ 9223372036854775807) ∧ e ≠ .nilIface ∧ Pre w k e ms ∧ k < f ∧ chainOf ns = (op, path) :: chainOf ms
 | 0, v, ns, x, h, hx => by rw [h.2] at hx; cases hx
 | f + 1, v, ns, x, h, hx => by
   rcases h with h | ⟨m, h, hm⟩ | ⟨b, op, path, e, ms', h, h2, h3, h4, h9, h5, h6, hm⟩
   · rw [h.2] at hx; cases hx
   · subst hm; rw [firstOf_skip 85 80 _ _ rfl, firstOf_nil] at hx; cases hx
   · subst hm
     rw [firstOf_hit] at hx
     cases hx
     exact ⟨b, op, path, e, ms', f, rfl, h2, h3, h4, h9, h5, h6, Nat.lt_succ_self _, chainOf_hit _ _ _⟩
def AsPost (w w' : World) (t : Addr) : Option Value → Prop
 | none => Below w.heap.size w w'
 | some x => ∃ w1, Below w.heap.size w w1 ∧ w' = w1.setCell t x
theorem frozen_old {w w' : World} {a : Addr} {v : Value} (hb : Below w.heap.size w w') (h : w.cell? a = some v) (hf : w.frozen? a = false) : w'.frozen? a = false := by
 have hlt : a.block < w.heap.size := by
  rcases Nat.lt_or_ge a.block w.heap.size with h' | h'
  · exact h'
  · simp [World.cell?, Array.getElem?_eq_none h'] at h
 exact (hb.frozen hlt).trans hf
theorem AsPost.from {w w0 w' : World} {t : Addr} {r : Option Value} (h : AsPost w0 w' t r) (hb : Below w.heap.size w w0) : AsPost w w' t r := by
 cases r with
 | none => exact bel2e hb h
 | some x => obtain ⟨w1, h1, h2⟩ := h; exact ⟨w1, bel2e hb h1, h2⟩
end Go.Proofs.YtbebgobboccjcaaGreatDoor
namespace Go.Proofs.YtbebgobboccjcaaGreatDoor.A0
open Go.RowKit Go.Extern.Stop Go.Stop Go.Extern
set_option linter.unusedVariables false

theorem rlm (z : Sem Value) (f : TypeId → Addr → Nat → Nat → Sem Value) (v : Value) :
 ReflectliteValue.method z f #[v] = (do match ← ReflectliteValue.parts v with | none => z | some (t, a, fl) => f t a fl (fl % 32)) := rfl
theorem methodAssignableTo (h : Value) (w : World) : (Go.method 354 159 (.agg #[h]) "AssignableTo").run Tryz.prog w = .ok (197, .agg #[h]) w := by kernel_rfl
theorem typeOf80 (v : Value) (w : World) : (ReflectliteType.typeOf #[.iface 80 v]).run Tryz.prog w = .ok (.iface 159 (.agg #[.pointer (some ⟨4, 80, none⟩)])) w := by kernel_rfl
theorem assignable80 (w : World) : (ReflectliteType.relation "AssignableTo" ReflectliteType.assignableTo #[.agg #[.pointer (some ⟨4, 80, none⟩)], .iface 159 (.agg #[.pointer (some ⟨4, 85, none⟩)])]).run Tryz.prog w = .ok (.bool false) w := by kernel_rfl
theorem lacks163_80 (v : Value) (xT : TypeId) (w : World) : (Instr.typeAssert (.iface 80 v) xT 163 true).run Tryz.prog w = .ok (.tuple #[.nilIface, .bool false]) w := run_typeAssert_lacksB Tryz.underlying163 (by kernel_rfl) (by kernel_rfl) v xT w
theorem typeOf85 (v : Value) (w : World) : (ReflectliteType.typeOf #[.iface 85 v]).run Tryz.prog w = .ok (.iface 159 (.agg #[.pointer (some ⟨4, 85, none⟩)])) w := by kernel_rfl
theorem assignable85 (w : World) : (ReflectliteType.relation "AssignableTo" ReflectliteType.assignableTo #[.agg #[.pointer (some ⟨4, 85, none⟩)], .iface 159 (.agg #[.pointer (some ⟨4, 85, none⟩)])]).run Tryz.prog w = .ok (.bool true) w := by kernel_rfl
theorem lacks163_85 (v : Value) (xT : TypeId) (w : World) : (Instr.typeAssert (.iface 85 v) xT 163 true).run Tryz.prog w = .ok (.tuple #[.nilIface, .bool false]) w := run_typeAssert_lacksB Tryz.underlying163 (by kernel_rfl) (by kernel_rfl) v xT w
theorem valueOfT (x : Addr) (w : World) : (ReflectliteValue.unpack (.iface 85 (.pointer (some x)))).run Tryz.prog w
 = .ok (.agg #[.pointer (some ⟨4, 85, none⟩), .pointer (some ⟨w.heap.size, 0, none⟩), .int .u64 150]) (w.alloc (.cells #[(.pointer (some x))] 85)) := by kernel_rfl
theorem partsP (a : Addr) (w : World) : (ReflectliteValue.parts (.agg #[.pointer (some ⟨4, 87, none⟩), .pointer (some a), .int .u64 150])).run Tryz.prog w = .ok (some (87, a, 150)) w := by kernel_rfl
theorem elemOfP (w : World) : (Rtype.elem? 87).run Tryz.prog w = .ok (some 85) w := by kernel_rfl
theorem mkT (p : Addr) (w : World) : (ReflectliteValue.mk 85 p ReflectliteValue.flagAddr).run Tryz.prog w = .ok (.agg #[.pointer (some ⟨4, 85, none⟩), .pointer (some p), .int .u64 406]) w := by kernel_rfl
theorem elemV (a p : Addr) (W : World) (ha : W.cell? a = some (.pointer (some p))) :
 (ReflectliteValue.method (ReflectliteValue.valueError "reflectlite.Value.Elem" 0) ReflectliteValue.elem #[.agg #[.pointer (some ⟨4, 87, none⟩), .pointer (some a), .int .u64 150]]).run Tryz.prog W
   = .ok (.agg #[.pointer (some ⟨4, 85, none⟩), .pointer (some p), .int .u64 406]) W := by
 rw [rlm]
 simp only [Sem.run_bind, partsP, Result.andThen]
 simp [ReflectliteValue.elem, loadVar, isAgg, underlying, Tryz.underlying87, ha, Result.andThen, elemOfP, mkT]
theorem rls (v x : Value) : ∃ (u1 u2 : Sem Value) (k : TypeId → TypeId → Addr → Value → Sem Value), ReflectliteValue.set #[v, x] = (do
 let (some (dst, a, fl), some (src, b, _)) := (← ReflectliteValue.parts v, ← ReflectliteValue.parts x)
  | u1
 if fl / ReflectliteValue.flagAddr % 2 == 0 then u2
 else
  let val ← loadVar src b
  if ← Rtype.directlyAssignable dst src then (do storeVar dst a val; pure (.tuple #[])) else k dst src a val) := ⟨_, _, _, rfl⟩
theorem partsA (a : Addr) (w : World) : (ReflectliteValue.parts (.agg #[.pointer (some ⟨4, 85, none⟩), .pointer (some a), .int .u64 406])).run Tryz.prog w = .ok (some (85, a, 406)) w := by kernel_rfl
theorem partsT (a : Addr) (w : World) : (ReflectliteValue.parts (.agg #[.pointer (some ⟨4, 85, none⟩), .pointer (some a), .int .u64 150])).run Tryz.prog w = .ok (some (85, a, 150)) w := by kernel_rfl
theorem direct (w : World) : (Rtype.directlyAssignable 85 85).run Tryz.prog w = .ok true w := by kernel_rfl
theorem setT (ta b : Addr) (x : Addr) (old : Value) (W : World) (hb : W.cell? b = some (.pointer (some x))) (ht : W.cell? ta = some old) (hf : W.frozen? ta = false) :
 (ReflectliteValue.set #[.agg #[.pointer (some ⟨4, 85, none⟩), .pointer (some ta), .int .u64 406], .agg #[.pointer (some ⟨4, 85, none⟩), .pointer (some b), .int .u64 150]]).run Tryz.prog W
   = .ok (.tuple #[]) (W.setCell ta (.pointer (some x))) := by
 obtain ⟨u1, u2, k, hk⟩ := rls (.agg #[.pointer (some ⟨4, 85, none⟩), .pointer (some ta), .int .u64 406]) (.agg #[.pointer (some ⟨4, 85, none⟩), .pointer (some b), .int .u64 150])
 rw [hk]
 simp only [Sem.run_bind, partsA, partsT, Result.andThen]
 simp [ReflectliteValue.flagAddr, loadVar, isAgg, underlying, Tryz.underlying85, hb, Result.andThen, direct, storeVar, Value.cells, storeCells, Addr.add]
 rw [run_store Tryz.prog W ta _ _ (by rfl)]
 simp [ht, hf]
end Go.Proofs.YtbebgobboccjcaaGreatDoor.A0
namespace Go.Proofs.YtbebgobboccjcaaGreatDoor.A0
open Go.RowKit Go.Extern.Stop Go.Stop Go.Extern
set_option linter.unusedVariables false

set_option maxRecDepth 4000 in
set_option maxHeartbeats 8000000 in
theorem as_pre : ∀ (f : Nat) (v : Value) (ns : List Nd) (w : World), Pre w f v ns → v ≠ .nilIface → ∀ (t a : Addr) (old : Value), w.cell? t = some old → w.frozen? t = false → w.cell? a = some (.pointer (some t)) →
 Calls Tryz.prog 75 #[v, .iface 87 (.pointer (some t)), .agg #[.pointer (some ⟨4, 87, none⟩), .pointer (some a), .int .u64 150], .iface 159 (.agg #[.pointer (some ⟨4, 85, none⟩)])] w fun e w' => e = .returned (.bool (firstOf 85 ns).isSome) ∧ AsPost w w' t (firstOf 85 ns)
 | 0, v, ns, w, h, hv => absurd h.1 hv
 | f + 1, v, ns, w, h, hv => by
   intro t a old ht hf ha
   have IH : Hid (∀ (v : Value) (ns : List Nd) (w : World), Pre w f v ns → v ≠ .nilIface → ∀ (t a : Addr) (old : Value), w.cell? t = some old → w.frozen? t = false → w.cell? a = some (.pointer (some t)) →
   Calls Tryz.prog 75 #[v, .iface 87 (.pointer (some t)), .agg #[.pointer (some ⟨4, 87, none⟩), .pointer (some a), .int .u64 150], .iface 159 (.agg #[.pointer (some ⟨4, 85, none⟩)])] w fun e w' => e = .returned (.bool (firstOf 85 ns).isSome) ∧ AsPost w w' t (firstOf 85 ns)) := fun v ns w => as_pre f v ns w
   have H : Hid (Pre w (f + 1) v ns ∧ v ≠ .nilIface) := ⟨h, hv⟩
   have e1 := @run_callFunc_extern Tryz.prog 81 _ ReflectliteType.typeOf Tryz.func81 (by kernel_rfl) (by kernel_rfl) (by kernel_rfl) (by kernel_rfl)
   have e2 := @run_callFunc_extern Tryz.prog 72 _ (fun args => ReflectliteValue.unpack (args.getD 0 (.tuple #[]))) Tryz.func72 (by kernel_rfl) (by kernel_rfl) (by kernel_rfl) (by kernel_rfl)
   have e3 := @run_callFunc_extern Tryz.prog 109 _ (ReflectliteValue.method (ReflectliteValue.valueError "reflectlite.Value.Elem" 0) ReflectliteValue.elem) Tryz.func109 (by kernel_rfl) (by kernel_rfl) (by kernel_rfl) (by kernel_rfl)
   have e4 := @run_callFunc_extern Tryz.prog 110 _ ReflectliteValue.set Tryz.func110 (by kernel_rfl) (by kernel_rfl) (by kernel_rfl) (by kernel_rfl)
   have e5 := @run_callFunc_extern Tryz.prog 197 _ (ReflectliteType.relation "AssignableTo" ReflectliteType.assignableTo) Tryz.func197 (by kernel_rfl) (by kernel_rfl) (by kernel_rfl) (by kernel_rfl)
   have mA := methodAssignableTo
   have vT := valueOfT
   have q0 := typeOf80
   have q1 := assignable80
   have q2 := lacks163_80
   have q3 := typeOf85
   have q4 := assignable85
   have q5 := lacks163_85
   have q6 := lacks166_80
   have q7 := lacks168_80
   have q8 := has166_85
   have q9 := meth_fault
   clear h hv
   have HB0 : Hid (Below w.heap.size w (w.alloc (.cells #[.pointer (some ⟨4, 87, none⟩), .pointer (some a), .int .u64 150] 116)) ∧ (w.alloc (.cells #[.pointer (some ⟨4, 87, none⟩), .pointer (some a), .int .u64 150] 116)).cell? ⟨w.heap.size, 0, none⟩ = some (.pointer (some ⟨4, 87, none⟩)) ∧ (w.alloc (.cells #[.pointer (some ⟨4, 87, none⟩), .pointer (some a), .int .u64 150] 116)).cell? ⟨w.heap.size, 1, none⟩ = some (.pointer (some a)) ∧ (w.alloc (.cells #[.pointer (some ⟨4, 87, none⟩), .pointer (some a), .int .u64 150] 116)).cell? ⟨w.heap.size, 2, none⟩ = some (.int .u64 150)) :=
    ⟨(Below.refl _ _).alloc (Nat.le_refl _) _, by simp, by simp, by simp⟩
   go_enter Tryz.func75, Tryz.ntmps75
   go_wp2
   go_loopg [0] (f + 1) (fun k e wr => ∃ ms, k ≤ f + 1 ∧ Aside (Pre w k e ms ∧ e ≠ .nilIface ∧ firstOf 85 ns = firstOf 85 ms ∧ Below w.heap.size w wr ∧ wr.cell? ⟨w.heap.size, 0, none⟩ = some (.pointer (some ⟨4, 87, none⟩)) ∧ wr.cell? ⟨w.heap.size, 1, none⟩ = some (.pointer (some a)) ∧ wr.cell? ⟨w.heap.size, 2, none⟩ = some (.int .u64 150)))
   case atStart => exact ⟨ns, Nat.le_refl _, H.out.1, H.out.2, rfl, HB0.out⟩
   case round =>
    obtain ⟨ms, hk, hA⟩ := hrel
    obtain ⟨hP, hN, hC, hBB⟩ := hA.out
    have HB : Hid (Below w.heap.size w wr ∧ wr.cell? ⟨w.heap.size, 0, none⟩ = some (.pointer (some ⟨4, 87, none⟩)) ∧ wr.cell? ⟨w.heap.size, 1, none⟩ = some (.pointer (some a)) ∧ wr.cell? ⟨w.heap.size, 2, none⟩ = some (.int .u64 150)) := hBB
    clear hA hBB HB0
    match gk, hk, hP with
    | 0, hk, hP => exact absurd hP.1 hN
    | k + 1, hk, hP =>
      rcases hP with h | ⟨m, h, hm⟩ | ⟨b, op, path, e, ms', h, h2, h3, h4, h9, h5, h6, hm⟩
      · exact absurd h.1 hN
      · subst h hm
        rw [firstOf_skip 85 80 _ _ rfl, firstOf_nil] at hC
        have HC : Hid (firstOf 85 ns = none) := hC
        clear hC hN
        have HW : Hid (Below w.heap.size w wr) := HB.out.1
        clear HB
        go_wp2
        go_ret
        exact ⟨by rw [HC.out]; rfl, by rw [HC.out]; exact HW.out⟩
      · subst h hm
        clear h2 h3 h4 h9 h5 h6
        rw [firstOf_hit] at hC
        have HC : Hid (firstOf 85 ns = some (.pointer (some ⟨b, 0, none⟩))) := hC
        have hca := cell_old HB.out.1 ha
        have hct := cell_old HB.out.1 ht
        have hft := frozen_old HB.out.1 ht hf
        have el := elemV a t wr hca
        have st := setT t ⟨wr.heap.size, 0, none⟩ ⟨b, 0, none⟩ old (wr.alloc (.cells #[(.pointer (some ⟨b, 0, none⟩))] 85)) (by simp) (cell_old ((Below.refl _ _).alloc (Nat.le_refl _) _) hct) (frozen_old ((Below.refl _ _).alloc (Nat.le_refl _) _) hct hft)
        have HW : Hid (AsPost w ((wr.alloc (.cells #[(.pointer (some ⟨b, 0, none⟩))] 85)).setCell t (.pointer (some ⟨b, 0, none⟩))) t (firstOf 85 ns)) := by
         rw [HC.out]
         exact ⟨_, HB.out.1.alloc HB.out.1.size _, rfl⟩
        have b0 := HB.out.2.1
        have b1 := HB.out.2.2.1
        have b2 := HB.out.2.2.2
        clear hC hN HB hca hct hft
        go_wp2
        go_ret
        exact ⟨by rw [HC.out]; rfl, HW.out⟩
end Go.Proofs.YtbebgobboccjcaaGreatDoor.A0
namespace Go.Proofs.YtbebgobboccjcaaGreatDoor
open Go.RowKit Go.Extern.Stop Go.Stop Go.Extern
set_option linter.unusedVariables false

theorem nums_skip (t : Nat) (x : Value × List (ByteArray × ByteArray)) (a : List Nd) (h : (t == 80) = false) : nums ((t, x) :: a) = nums a := by unfold nums; simp [h]
theorem Pre.number {w : World} : ∀ {f : Nat} {v : Value} {ns : List Nd}, Pre w f v ns → (firstOf 80 ns = none ∧ nums ns = []) ∨ ∃ n l, firstOf 80 ns = some (.int .i64 n) ∧ nums ns = n :: l
 | 0, v, ns, h => .inl ⟨by rw [h.2]; rfl, by rw [h.2]; rfl⟩
 | f + 1, v, ns, h => by
   rcases h with h | ⟨m, h, hm⟩ | ⟨b, op, path, e, ms', h, h2, h3, h4, h9, h5, h6, hm⟩
   · exact .inl ⟨by rw [h.2]; rfl, by rw [h.2]; rfl⟩
   · subst hm; exact .inr ⟨m, [], firstOf_hit _ _ _ _, rfl⟩
   · subst hm; rw [firstOf_skip 80 85 _ _ rfl, nums_skip 85 _ _ rfl]; exact Pre.number h6
def innerOf (ns : List Nd) : List Nd := ns.dropWhile fun x => x.1 == 85
end Go.Proofs.YtbebgobboccjcaaGreatDoor
namespace Go.Proofs.YtbebgobboccjcaaGreatDoor
open Go.RowKit Go.Extern.Stop Go.Stop Go.Extern
set_option linter.unusedVariables false

theorem code_nil (w : World) : Calls Tryz.prog 25 #[.nilIface] w fun e w' => e = .returned (.int .i64 0) ∧ w' = w := by
 go_enter Tryz.func25, Tryz.ntmps25
 go_wp2
 go_ret
 exact ⟨rfl, rfl⟩

end Go.Proofs.YtbebgobboccjcaaGreatDoor
namespace Go.Proofs.YtbebgobboccjcaaGreatDoor
open Go.RowKit
set_option linter.unusedVariables false

def letterB (c : Int) : Bool := (decide (97 ≤ c) && decide (c ≤ 122)) || (decide (65 ≤ c) && decide (c ≤ 90)) || (decide (48 ≤ c) && decide (c ≤ 57)) || (c == 46) || (c == 95) || (c == 45)

set_option maxRecDepth 4000 in
set_option maxHeartbeats 1000000 in
theorem letter_any (c : Int) (w : World) : Calls Tryz.prog 80 #[.int .u8 c] w fun e w' => e = .returned (.bool (letterB c)) ∧ w' = w := by
 go_enter Tryz.func80, Tryz.ntmps80
 go_wp2
 all_goals go_ret
 all_goals refine ⟨?_, rfl⟩
 all_goals show Ending.returned (.bool _) = Ending.returned (.bool _)
 all_goals refine congrArg (fun b => Ending.returned (.bool b)) ?_
 all_goals (rw [Bool.eq_iff_iff]; simp [letterB]; try omega)
end Go.Proofs.YtbebgobboccjcaaGreatDoor
namespace Go.Proofs.YtbebgobboccjcaaGreatDoor
open Go.RowKit Kit
set_option linter.unusedVariables false

def cutL (c : Int) : List Int → List (List Int)
 | [] => [[]]
 | x :: r => if x = c then [] :: cutL c r else match cutL c r with
   | [] => [[x]]
   | p :: q => (x :: p) :: q
theorem cutL_free (c : Int) : ∀ p : List Int, (∀ x ∈ p, x ≠ c) → cutL c p = [p]
 | [], _ => rfl
 | x :: p, h => by
   rw [cutL, if_neg (h x (by simp)), cutL_free c p (fun y hy => h y (by simp [hy]))]
theorem cutL_at (c : Int) (r : List Int) : ∀ p : List Int, (∀ x ∈ p, x ≠ c) → cutL c (p ++ c :: r) = p :: cutL c r
 | [], _ => by show cutL c (c :: r) = _; rw [cutL, if_pos rfl]
 | x :: p, h => by
   show cutL c (x :: (p ++ c :: r)) = _
   rw [cutL, if_neg (h x (by simp)), cutL_at c r p (fun y hy => h y (by simp [hy]))]
def txtsL (l : List (List Int)) : List Value := l.map fun p => .string (strOf p)
theorem txtsL_len (l : List (List Int)) : (txtsL l).length = l.length := by simp [txtsL]
theorem extract_strOf (s : ByteArray) (i j : Nat) : s.extract i j = strOf (((bytesOf s).drop i).take (j - i)) := by
 have h : s = ⟨s.data.toList.toArray⟩ := by cases s; simp
 conv => lhs; rw [h, ByteArray.extract_mk]
 unfold strOf bytesOf
 rw [← List.map_drop, ← List.map_take, List.map_map]
 congr 1
 have e : ((fun n : Int => UInt8.ofNat n.toNat) ∘ fun b : UInt8 => (b.toNat : Int)) = id := by funext b; simp
 rw [e, List.map_id]
theorem byte_at (s : ByteArray) (k : Nat) (h : k < s.size) : ((s[k]'h).toNat : Int) = (bytesOf s).getD k 0 := by
 have h2 : k < s.data.size := h
 show ((s.data[k]'h2).toNat : Int) = _
 unfold bytesOf
 rw [List.getD, List.getElem?_map, Array.getElem?_toList, Array.getElem?_eq_getElem h2]; rfl
theorem cut_last {c : Int} {l : List Int} {done : List (List Int)} {f k : Nat} (hk : k = l.length) (h1 : cutL c l = done ++ cutL c (l.drop f)) (h2 : ∀ x ∈ (l.drop f).take (k - f), x ≠ c) : cutL c l = done ++ [(l.drop f).take (k - f)] := by
 have e : (l.drop f).take (k - f) = l.drop f := List.take_of_length_le (by simp; omega)
 rw [e] at h2
 rw [h1, cutL_free c _ h2, e]
theorem cut_next {c : Int} {l : List Int} {done : List (List Int)} {f k : Nat} (hk : k < l.length) (hf : f ≤ k) (h1 : cutL c l = done ++ cutL c (l.drop f)) (h2 : ∀ x ∈ (l.drop f).take (k - f), x ≠ c) (hc : l.getD k 0 = c) : cutL c l = (done ++ [(l.drop f).take (k - f)]) ++ cutL c (l.drop (k + 1)) := by
 have e : l.drop f = (l.drop f).take (k - f) ++ c :: l.drop (k + 1) := by
  have e1 := (List.take_append_drop (k - f) (l.drop f)).symm
  rw [List.drop_drop, show f + (k - f) = k by omega, List.drop_eq_getElem_cons hk] at e1
  rw [← hc, List.getD, List.getElem?_eq_getElem hk]
  exact e1
 rw [h1]
 conv => lhs; rw [e, cutL_at c _ _ h2]
 simp
theorem cut_more {c : Int} {l : List Int} {f k : Nat} (hk : k < l.length) (hf : f ≤ k) (h2 : ∀ x ∈ (l.drop f).take (k - f), x ≠ c) (hc : l.getD k 0 ≠ c) : ∀ x ∈ (l.drop f).take (k + 1 - f), x ≠ c := by
 intro x hx
 rw [show k + 1 - f = (k - f) + 1 by omega, List.take_add_one] at hx
 rcases List.mem_append.1 hx with hx | hx
 · exact h2 x hx
 · have e : (l.drop f)[k - f]? = some (l.getD k 0) := by
    rw [List.getElem?_drop, show f + (k - f) = k by omega, List.getElem?_eq_getElem hk]; simp [List.getD, hk]
   rw [e] at hx
   simp only [Option.toList, List.mem_singleton] at hx
   rw [hx]; exact hc
theorem bel2v {w w1 w2 : World} (h : Below w.heap.size w w1) (k : Below w1.heap.size w1 w2) : Below w.heap.size w w2 := h.trans (k.mono h.size)
theorem infoS : (Tryz.prog.info? 9).map (fun i => (i.zero, i.size, i.bytes)) = some (some (.string ⟨#[]⟩), 1, 16) := by kernel_rfl

set_option maxRecDepth 4000 in
set_option maxHeartbeats 4000000 in
theorem cut_any (s : ByteArray) (c : Int) (w : World) (hs : s.size ≤ 100000) :
 Calls Tryz.prog 79 #[.string s, .int .u8 c] w fun e w' => ∃ r, e = .returned r ∧ RowV w' w.heap.size 9 r (txtsL (cutL c (bytesOf s))) ∧ Below w.heap.size w w' := by
 have HS : Hid (s.size ≤ 100000) := hs
 have hm : (s.size : Int) ≤ 100000 := by omega
 obtain ⟨l, hl⟩ : ∃ l, bytesOf s = l := ⟨_, rfl⟩
 have HLE : Hid (bytesOf s = l ∧ l.length = s.size) := ⟨hl, by rw [← hl]; exact bytesOf_len s⟩
 rw [hl]
 clear hs hl
 go_enter Tryz.func79, Tryz.ntmps79
 go_wp2
 go_loopw [5, 6, 7] (fun o f i wr => ∃ (k from_ : Nat) (done : List (List Int)), k ≤ s.size + 1 ∧ from_ ≤ k ∧ i = .int .i64 (k : Int) ∧ f = .int .i64 (from_ : Int) ∧
  Hid ((k ≤ s.size → cutL c l = done ++ cutL c (l.drop from_) ∧ ∀ x ∈ (l.drop from_).take (k - from_), x ≠ c) ∧ (k = s.size + 1 → cutL c l = done) ∧ done.length ≤ k ∧ RowV wr w.heap.size 9 o (txtsL done) ∧ Below w.heap.size w wr)) (fun _ _ i _ => s.size + 1 - (intOf i).toNat)
 case atStart => exact ⟨0, 0, [], Nat.zero_le _, Nat.le_refl _, rfl, rfl, ⟨fun _ => ⟨rfl, fun x hx => by simp at hx⟩, fun h => by omega, Nat.le_refl _, rowV_nil _ _ _, Below.refl _ _⟩⟩
 case round =>
  obtain ⟨k, from_, done, hk, hf, rfl, rfl, HR⟩ := hrel
  have i2 : (0 : Int) ≤ (from_ : Int) := by omega
  have i3 : (from_ : Int) ≤ (k : Int) := by omega
  have i4 : (0 : Int) ≤ (k : Int) := by omega
  by_cases h1 : k = s.size + 1
  · have HE : Hid (RowV wr w.heap.size 9 u5 (txtsL (cutL c l)) ∧ Below w.heap.size w wr) := by
     rw [HR.out.2.1 h1]; exact HR.out.2.2.2
    have h2 : ¬ (k : Int) ≤ (s.size : Int) := by omega
    clear HR h1
    go_wp2
    go_ret
    exact ⟨_, rfl, HE.out⟩
  · have hks : k ≤ s.size := by omega
    have h2 : (k : Int) ≤ (s.size : Int) := by omega
    obtain ⟨g1, g2⟩ := HR.out.1 hks
    have HG : Hid (cutL c l = done ++ cutL c (l.drop from_) ∧ ∀ x ∈ (l.drop from_).take (k - from_), x ≠ c) := ⟨g1, g2⟩
    clear g1 g2
    by_cases h3 : k = s.size
    · have h4 : ((k : Int) == (s.size : Int)) = true := by rw [h3]; simp
      have HC : Hid (cutL c l = done ++ [(l.drop from_).take (k - from_)]) := cut_last (by rw [HLE.out.2]; exact h3) HG.out.1 HG.out.2
      have H3 : Hid (k = s.size) := h3
      clear h3 h1 HG
      have B1 : Hid (Below wr.heap.size wr (wr.alloc (.cells #[.string (s.extract from_ k)] 9))) := (Below.refl _ _).alloc (Nat.le_refl _) _
      have S1 : Hid (Sees (wr.alloc (.cells #[.string (s.extract from_ k)] 9)) (.slice (some ⟨wr.heap.size, 0, none⟩) 1 1) [.string (s.extract from_ k)]) := sees_one _ _ _ _ rfl
      have hd : done.length ≤ 100001 := by have := HR.out.2.2.1; omega
      have HD : Hid (done.length ≤ 100001) := hd
      clear hd
      go_wp2_with (at_builtin; refine wpList_appV Tryz.underlying37 infoS rfl (by decide) rfl _ _ rfl w.heap.size u5 (txtsL done) rfl (HR.out.2.2.2.1.below B1.out) (.slice (some ⟨wr.heap.size, 0, none⟩) 1 1) _ rfl S1.out ?c1 ?c2 ?c3 ?_)
      case c1 => first | rfl | (intro y hy; simp at hy; subst hy; rfl)
      case c2 => have := HD.out; rw [txtsL_len]; simp; omega
      case c3 => have := HR.out.2.2.2.2.size; simp; omega
      intro l3 w3 hr hb3
      have HN : Hid (∃ (k' from' : Nat) (done' : List (List Int)), k' ≤ s.size + 1 ∧ from' ≤ k' ∧ (.int .i64 ((k : Int) + 1) : Value) = .int .i64 (k' : Int) ∧ (.int .i64 ((k : Int) + 1) : Value) = .int .i64 (from' : Int) ∧
       Hid ((k' ≤ s.size → cutL c l = done' ++ cutL c (l.drop from') ∧ ∀ x ∈ (l.drop from').take (k' - from'), x ≠ c) ∧ (k' = s.size + 1 → cutL c l = done') ∧ done'.length ≤ k' ∧ RowV w3 w.heap.size 9 l3 (txtsL done') ∧ Below w.heap.size w w3)) :=
       ⟨k + 1, k + 1, done ++ [(l.drop from_).take (k - from_)], by omega, Nat.le_refl _, by simp, by simp, fun h => by have := H3.out; omega, fun _ => HC.out, by simp; exact HR.out.2.2.1, by
        unfold txtsL at *
        rw [List.map_append, List.map_cons, List.map_nil, ← HLE.out.1, ← extract_strOf]; exact hr, (bel2v HR.out.2.2.2.2 B1.out).trans hb3⟩
      clear hr hb3 B1 S1 HR HC HD
      go_wp2
      go_roundw
      case rel => exact HN.out
      case measure => simp [intOf]; omega
    · have hkl : k < s.size := by omega
      have h4 : ((k : Int) == (s.size : Int)) = false := beq_eq_false_iff_ne.2 (by omega)
      have h5 : (k : Int) < (s.size : Int) := by omega
      have hb := byte_at s k hkl
      rw [HLE.out.1] at hb
      have hkl2 : k < l.length := by rw [HLE.out.2]; exact hkl
      by_cases h6 : l.getD k 0 = c
      · have h7 : (((s[k]'hkl).toNat : Int) == c) = true := by rw [hb, h6]; simp
        have HC : Hid (cutL c l = (done ++ [(l.drop from_).take (k - from_)]) ++ cutL c (l.drop (k + 1))) := cut_next hkl2 hf HG.out.1 HG.out.2 h6
        clear h1 h3 HG hb h6 hkl2
        have B1 : Hid (Below wr.heap.size wr (wr.alloc (.cells #[.string (s.extract from_ k)] 9))) := (Below.refl _ _).alloc (Nat.le_refl _) _
        have S1 : Hid (Sees (wr.alloc (.cells #[.string (s.extract from_ k)] 9)) (.slice (some ⟨wr.heap.size, 0, none⟩) 1 1) [.string (s.extract from_ k)]) := sees_one _ _ _ _ rfl
        have hd : done.length ≤ 100001 := by have := HR.out.2.2.1; omega
        have HD : Hid (done.length ≤ 100001) := hd
        clear hd
        go_wp2_with (at_builtin; refine wpList_appV Tryz.underlying37 infoS rfl (by decide) rfl _ _ rfl w.heap.size u5 (txtsL done) rfl (HR.out.2.2.2.1.below B1.out) (.slice (some ⟨wr.heap.size, 0, none⟩) 1 1) _ rfl S1.out ?c1 ?c2 ?c3 ?_)
        case c1 => first | rfl | (intro y hy; simp at hy; subst hy; rfl)
        case c2 => have := HD.out; rw [txtsL_len]; simp; omega
        case c3 => have := HR.out.2.2.2.2.size; simp; omega
        intro l3 w3 hr hb3
        have HN : Hid (∃ (k' from' : Nat) (done' : List (List Int)), k' ≤ s.size + 1 ∧ from' ≤ k' ∧ (.int .i64 ((k : Int) + 1) : Value) = .int .i64 (k' : Int) ∧ (.int .i64 ((k : Int) + 1) : Value) = .int .i64 (from' : Int) ∧
         Hid ((k' ≤ s.size → cutL c l = done' ++ cutL c (l.drop from') ∧ ∀ x ∈ (l.drop from').take (k' - from'), x ≠ c) ∧ (k' = s.size + 1 → cutL c l = done') ∧ done'.length ≤ k' ∧ RowV w3 w.heap.size 9 l3 (txtsL done') ∧ Below w.heap.size w w3)) :=
         ⟨k + 1, k + 1, done ++ [(l.drop from_).take (k - from_)], by omega, Nat.le_refl _, by simp, by simp, fun _ => ⟨HC.out, fun x hx => by simp at hx⟩, fun h => by omega, by simp; exact HR.out.2.2.1, by
          unfold txtsL at *
          rw [List.map_append, List.map_cons, List.map_nil, ← HLE.out.1, ← extract_strOf]; exact hr, (bel2v HR.out.2.2.2.2 B1.out).trans hb3⟩
        clear hr hb3 B1 S1 HR HC HD
        go_wp2
        go_roundw
        case rel => exact HN.out
        case measure => simp [intOf]; omega
      · have h7 : (((s[k]'hkl).toNat : Int) == c) = false := by rw [hb]; exact beq_eq_false_iff_ne.2 h6
        have HM := cut_more hkl2 hf HG.out.2 h6
        have HN : Hid ((k + 1 ≤ s.size → cutL c l = done ++ cutL c (l.drop from_) ∧ ∀ x ∈ (l.drop from_).take (k + 1 - from_), x ≠ c) ∧ (k + 1 = s.size + 1 → cutL c l = done) ∧ done.length ≤ k + 1 ∧ RowV wr w.heap.size 9 u5 (txtsL done) ∧ Below w.heap.size w wr) :=
         ⟨fun _ => ⟨HG.out.1, HM⟩, fun h => by omega, Nat.le_succ_of_le HR.out.2.2.1, HR.out.2.2.2⟩
        clear h1 h3 HG hb h6 hkl2 HM HR
        go_wp2
        go_roundw
        case rel => exact ⟨k + 1, from_, done, by omega, by omega, by simp, rfl, HN.out⟩
        case measure => simp [intOf]; omega
end Go.Proofs.YtbebgobboccjcaaGreatDoor
namespace Go.Proofs.YtbebgobboccjcaaGreatDoor
open Go.RowKit Kit
set_option linter.unusedVariables false

def strs (l : List ByteArray) : List Value := l.map Value.string
theorem strs_len (l : List ByteArray) : (strs l).length = l.length := by simp [strs]
theorem strs_at (l : List ByteArray) (k : Nat) (h : k < l.length) : (strs l)[k]? = some (.string (l.getD k ⟨#[]⟩)) := by
 simp [strs, h, List.getD]
theorem bytes_eq (a b : ByteArray) : (a.toList == b.toList) = decide (a = b) := by
 by_cases h : a = b
 · subst h; simp
 · have : ¬ a.toList = b.toList := fun e => h (ByteArray.ext (by
    have h1 := congrArg List.toArray e
    simpa [ByteArray.toList_eq] using h1))
   rw [beq_eq_false_iff_ne.2 this]; simp [h]
theorem not_empty {s : ByteArray} (h : ¬ s = ⟨#[]⟩) : ¬ s.toList = [] := fun e => h (ByteArray.ext (by
 have h1 := congrArg List.toArray e
 simpa [ByteArray.toList_eq] using h1))
def joinTo (ss : List ByteArray) (k : Nat) : ByteArray := (ss.take k).foldl (fun s p => s ++ ⟨#[47]⟩ ++ p) ⟨#[]⟩
theorem joinTo_step (ss : List ByteArray) (k : Nat) (h : k < ss.length) : joinTo ss (k + 1) = joinTo ss k ++ ⟨#[47]⟩ ++ ss.getD k ⟨#[]⟩ := by
 unfold joinTo
 rw [List.take_add_one, List.getElem?_eq_getElem h, Option.toList_some, List.foldl_append]
 simp [List.getD, h]
def tot (ss : List ByteArray) : Nat := (ss.map fun s => s.size + 1).sum
theorem joinTo_size (ss : List ByteArray) : ∀ k, k ≤ ss.length → (joinTo ss k).size = tot (ss.take k)
 | 0, _ => rfl
 | k + 1, h => by
   rw [joinTo_step ss k h, ByteArray.size_append, ByteArray.size_append, joinTo_size ss k (by omega)]
   unfold tot
   rw [List.take_add_one, List.getElem?_eq_getElem h, Option.toList_some, List.map_append, List.sum_append]
   simp [List.getD, show k < ss.length from h]
   have : (⟨#[47]⟩ : ByteArray).size = 1 := rfl
   omega
theorem tot_take (ss : List ByteArray) (k : Nat) : tot (ss.take k) ≤ tot ss := by
 conv => rhs; rw [← List.take_append_drop k ss]
 unfold tot
 rw [List.map_append, List.sum_append]; omega
theorem tot_at (ss : List ByteArray) (k : Nat) (h : k < ss.length) : tot (ss.take k) + (ss.getD k ⟨#[]⟩).size + 1 ≤ tot ss := by
 have h1 := tot_take ss (k + 1)
 unfold tot at *
 rw [List.take_add_one, List.getElem?_eq_getElem h, Option.toList_some, List.map_append, List.sum_append] at h1
 simp [List.getD, h] at h1 ⊢
 omega
def joinB (ss : List ByteArray) : ByteArray := if ss.length = 0 then ⟨#[47]⟩ else joinTo ss ss.length

set_option maxRecDepth 4000 in
set_option maxHeartbeats 2000000 in
theorem join_any (x : Value) (ss : List ByteArray) (w : World) (hx : Sees w x (strs ss)) (hb : tot ss ≤ 1000000) :
 Calls Tryz.prog 117 #[x] w fun e w' => e = .returned (.string (joinB ss)) ∧ w' = w := by
 obtain ⟨ao, cap, rfl, h1, h2, h3, h4⟩ := hx
 simp only [strs_len] at *
 have H4 : Hid (_ → _) := h4
 have HT : Hid (tot ss ≤ 1000000) := hb
 have hm : (ss.length : Int) ≤ 9223372036854775807 := by unfold maxLen at h2; omega
 clear h1 h2 h3 h4 hb
 go_enter Tryz.func117, Tryz.ntmps117
 go_wp2
 go_loopw [3, 4] (fun s i wr => ∃ k : Nat, k ≤ ss.length ∧ i = .int .i64 (k : Int) ∧ s = .string (joinTo ss k) ∧ wr = w) (fun _ i _ => ss.length - (intOf i).toNat)
 case atStart => exact ⟨0, Nat.zero_le _, rfl, rfl, rfl⟩
 case round =>
  obtain ⟨k, hk, rfl, rfl, hw⟩ := hrel
  have hw := hw.symm
  subst hw
  obtain ⟨s, hs⟩ : ∃ s, joinTo ss k = s := ⟨_, rfl⟩
  have hz := joinTo_size ss k hk
  rw [hs] at hz
  rw [hs]
  have HS : Hid (joinTo ss k = s) := hs
  clear hs
  by_cases hlt : k < ss.length
  · obtain ⟨b, off, rfl, hbl, hc⟩ := H4.out (by omega)
    have c0 := hc k _ (strs_at ss k hlt)
    have ht := tot_at ss k hlt
    have HN := joinTo_step ss k hlt
    obtain ⟨p, hp⟩ : ∃ p, ss.getD k ⟨#[]⟩ = p := ⟨_, rfl⟩
    rw [hp] at c0 ht HN
    rw [HS.out] at HN
    have s0 : s.size ≤ 1000000 := by have := HT.out; omega
    have s1 : p.size ≤ 1000000 := by have := HT.out; omega
    have HN2 : Hid (joinTo ss (k + 1) = s ++ ⟨#[47]⟩ ++ p) := HN
    have i0 : (k : Int) < (ss.length : Int) := by omega
    have i2 : (0 : Int) ≤ (k : Int) := by omega
    clear hc hbl hp ht hz HN
    go_wp2
    go_roundw
    case rel => exact ⟨k + 1, by omega, by simp, by rw [HN2.out], by simp⟩
    case measure => simp [intOf]; omega
  · have hkl : k = ss.length := by omega
    subst hkl
    by_cases h0 : ss.length = 0
    · have hs0 : s = ⟨#[]⟩ := by
       rw [← HS.out]
       unfold joinTo
       rw [List.eq_nil_of_length_eq_zero h0]; rfl
      have HR : Hid (joinB ss = ⟨#[47]⟩) := by show _ = _; unfold joinB; rw [if_pos h0]
      clear hz HS
      subst hs0
      rw [h0] at *
      go_wp2
      go_ret
      exact ⟨by rw [HR.out]; rfl, rfl⟩
    · have hne : ¬ s = ⟨#[]⟩ := by
       intro e
       rw [e] at hz
       have h1 := tot_at ss 0 (by omega)
       rw [List.take_length] at hz
       have : (⟨#[]⟩ : ByteArray).size = 0 := rfl
       omega
      have hq : s.toList.isEmpty = false := by have := not_empty hne; simpa using this
      have HR : Hid (joinB ss = s) := by show _ = _; unfold joinB; rw [if_neg h0, HS.out]
      clear hz HS hne
      go_wp2
      go_ret
      exact ⟨by rw [HR.out]; rfl, rfl⟩
end Go.Proofs.YtbebgobboccjcaaGreatDoor
namespace Go.Proofs.YtbebgobboccjcaaGreatDoor
open Go.RowKit Kit
set_option linter.unusedVariables false

def okB (q : ByteArray) : Bool := !(decide (q = ⟨#[]⟩) || decide (q = ⟨#[46]⟩) || decide (q = ⟨#[46, 46]⟩)) && (bytesOf q).all letterB
def longB (q : ByteArray) : Bool := decide (12 < q.size)
def partsB (s : ByteArray) : List ByteArray := (cutL 47 (bytesOf (s.extract 1 s.size))).map strOf
def splitB (s : ByteArray) : List ByteArray × Int :=
 if s = ⟨#[47]⟩ then ([], 0) else if s = ⟨#[]⟩ ∨ 200 < s.size ∨ (bytesOf s).getD 0 0 ≠ 47 then ([], 2) else
 if (partsB s).all okB = false then ([], 2) else if (partsB s).any longB = true then ([], 3) else if 6 < (partsB s).length then ([], 4) else (partsB s, 0)
theorem toList_eq_iff (q : ByteArray) (l : List UInt8) : (q.toList = l) = (q = ⟨l.toArray⟩) := by
 apply propext
 constructor
 · intro h
   apply ByteArray.ext
   have h1 := congrArg List.toArray h
   simpa [ByteArray.toList_eq] using h1
 · intro h
   subst h
   simp [ByteArray.toList_eq]
theorem txtsL_strs (l : List (List Int)) : txtsL l = strs (l.map strOf) := by simp [txtsL, strs, List.map_map]

set_option maxRecDepth 4000 in
set_option maxHeartbeats 4000000 in
theorem split_out (s : ByteArray) (w : World) (h : s = ⟨#[47]⟩ ∨ s = ⟨#[]⟩ ∨ 200 < s.size ∨ (bytesOf s).getD 0 0 ≠ 47) (hm : s.size ≤ maxLen) :
 Calls Tryz.prog 46 #[.string s] w fun e w' => e = .returned (.tuple #[.slice none 0 0, .int .i64 (splitB s).2]) ∧ w' = w := by
 by_cases h1 : s = ⟨#[47]⟩
 · have HR : Hid ((splitB s).2 = 0) := by show _ = _; unfold splitB; rw [if_pos h1]
   clear h
   subst h1
   go_enter Tryz.func46, Tryz.ntmps46
   go_wp2
   go_ret2
   exact ⟨by rw [HR.out]; rfl, rfl⟩
 have HR : Hid ((splitB s).2 = 2) := by show _ = _; unfold splitB; rw [if_neg h1, if_pos (h.resolve_left h1)]
 have q1 : (s.toList == [47]) = false := beq_eq_false_iff_ne.2 (by rw [Ne, toList_eq_iff]; exact h1)
 by_cases h2 : s = ⟨#[]⟩
 · clear h h1
   subst h2
   go_enter Tryz.func46, Tryz.ntmps46
   go_wp2
   go_ret2
   exact ⟨by rw [HR.out]; rfl, rfl⟩
 have q2 : s.toList.isEmpty = false := by have := not_empty h2; simpa using this
 by_cases h3 : (200 : Int) < (s.size : Int)
 · clear h h1 h2
   go_enter Tryz.func46, Tryz.ntmps46
   go_wp2
   go_ret2
   exact ⟨by rw [HR.out]; rfl, rfl⟩
 have h4 : (bytesOf s).getD 0 0 ≠ 47 := by
  rcases h with h | h | h | h
  · exact absurd h h1
  · exact absurd h h2
  · exact absurd h (by omega)
  · exact h
 have hp : 0 < s.size := by
  rcases Nat.eq_zero_or_pos s.size with h0 | h0
  · exfalso
    apply h2
    cases s with
    | mk d => cases d with
      | mk l => cases l with
        | nil => rfl
        | cons a b => simp [ByteArray.size] at h0
  · exact h0
 have h5 : (0 : Int) < (s.size : Int) := by omega
 have hb := byte_at s 0 hp
 have h6 : (((s[0]'hp).toNat : Int) == 47) = false := by rw [hb]; exact beq_eq_false_iff_ne.2 h4
 clear h h1 h2 h4 hb
 go_enter Tryz.func46, Tryz.ntmps46
 go_wp2
 go_ret2
 exact ⟨by rw [HR.out]; rfl, rfl⟩

theorem size_pos {s : ByteArray} (h2 : ¬ s = ⟨#[]⟩) : 0 < s.size := by
 rcases Nat.eq_zero_or_pos s.size with h0 | h0
 · exfalso
   apply h2
   cases s with
   | mk d => cases d with
     | mk l => cases l with
       | nil => rfl
       | cons a b => simp [ByteArray.size] at h0
 · exact h0
theorem beq_mk (q : ByteArray) (l : List UInt8) (h : ¬ q = ⟨l.toArray⟩) : (q.toList == l) = false := beq_eq_false_iff_ne.2 (by rw [Ne, toList_eq_iff]; exact h)
theorem okB_not {q : ByteArray} (h : q = ⟨#[]⟩ ∨ q = ⟨#[46]⟩ ∨ q = ⟨#[46, 46]⟩) : okB q = false := by
 unfold okB
 rcases h with h | h | h <;> simp [h]
theorem okB_bad {q : ByteArray} {k : Nat} (hk : k < q.size) (h : letterB ((bytesOf q).getD k 0) = false) : okB q = false := by
 unfold okB
 have : (bytesOf q).all letterB = false := by
  rw [List.all_eq_false]
  refine ⟨(bytesOf q).getD k 0, ?_, by rw [h]; simp⟩
  have : k < (bytesOf q).length := by rw [bytesOf_len]; exact hk
  simp [List.getD, this]
 rw [this, Bool.and_false]
theorem okB_yes {q : ByteArray} (h0 : ¬ q = ⟨#[]⟩) (h1 : ¬ q = ⟨#[46]⟩) (h2 : ¬ q = ⟨#[46, 46]⟩) (h : ∀ j, j < q.size → letterB ((bytesOf q).getD j 0) = true) : okB q = true := by
 unfold okB
 have : (bytesOf q).all letterB = true := by
  rw [List.all_eq_true]
  intro x hx
  obtain ⟨j, hj, rfl⟩ := List.mem_iff_getElem.1 hx
  have := h j (by rw [← bytesOf_len]; exact hj)
  simpa [List.getD, hj] using this
 simp [h0, h1, h2, this]
theorem all_not {l : List ByteArray} {k : Nat} (hk : k < l.length) (h : okB (l.getD k ⟨#[]⟩) = false) : l.all okB = false := by
 rw [List.all_eq_false]
 refine ⟨l.getD k ⟨#[]⟩, ?_, by rw [h]; simp⟩
 simp [List.getD, hk]
theorem all_yes {l : List ByteArray} (h : ∀ j, j < l.length → okB (l.getD j ⟨#[]⟩) = true) : l.all okB = true := by
 rw [List.all_eq_true]
 intro x hx
 obtain ⟨j, hj, rfl⟩ := List.mem_iff_getElem.1 hx
 simpa [List.getD, hj] using h j hj
theorem strOf_size (p : List Int) : (strOf p).size = p.length := by simp [strOf, ByteArray.size]
theorem cutL_len (c : Int) : ∀ (l : List Int) (p : List Int), p ∈ cutL c l → p.length ≤ l.length
 | [], p, h => by simp [cutL] at h; subst h; simp
 | x :: r, p, h => by
   rw [cutL] at h
   split at h
   · rcases List.mem_cons.1 h with rfl | h
     · simp
     · have := cutL_len c r p h; simp; omega
   · split at h
     · simp at h; subst h; simp
     · rename_i a b e
       rcases List.mem_cons.1 h with rfl | h
       · have := cutL_len c r a (by rw [e]; simp)
         simp; omega
       · have := cutL_len c r p (by rw [e]; simp [h])
         simp; omega
theorem parts_size (s : ByteArray) : ∀ q ∈ partsB s, q.size ≤ s.size := by
 intro q hq
 unfold partsB at hq
 obtain ⟨p, hp, rfl⟩ := List.mem_map.1 hq
 have := cutL_len 47 _ p hp
 rw [bytesOf_len, ByteArray.size_extract] at this
 rw [strOf_size]
 omega
def longTo (l : List ByteArray) (k : Nat) : Bool := (l.take k).any longB
theorem longTo_step (l : List ByteArray) (k : Nat) (h : k < l.length) : longTo l (k + 1) = (longTo l k || longB (l.getD k ⟨#[]⟩)) := by
 unfold longTo
 rw [List.take_add_one, List.getElem?_eq_getElem h, Option.toList_some, List.any_append]
 simp [List.getD, h]

set_option maxRecDepth 4000 in
set_option maxHeartbeats 16000000 in
theorem split_in (s : ByteArray) (w : World) (h1 : ¬ s = ⟨#[47]⟩) (h2 : ¬ s = ⟨#[]⟩) (h3 : ¬ (200 : Int) < (s.size : Int)) (h4 : (bytesOf s).getD 0 0 = 47) :
 Calls Tryz.prog 46 #[.string s] w fun e w' => ∃ r, e = .returned (.tuple #[r, .int .i64 (splitB s).2]) ∧ RowV w' w.heap.size 9 r (strs (splitB s).1) ∧ Below w.heap.size w w' := by
 have HR : Hid (splitB s = if (partsB s).all okB = false then ([], 2) else if (partsB s).any longB = true then ([], 3) else if 6 < (partsB s).length then ([], 4) else (partsB s, 0)) := by
  show _ = _
  unfold splitB
  rw [if_neg h1, if_neg (by rintro (e | e | e); exact h2 e; omega; exact e h4)]
 have q1 : (s.toList == [47]) = false := beq_mk s [47] h1
 have q2 : s.toList.isEmpty = false := by have := not_empty h2; simpa using this
 have hp := size_pos h2
 have h5 : (0 : Int) < (s.size : Int) := by omega
 have hb := byte_at s 0 hp
 have h6 : (((s[0]'hp).toNat : Int) == 47) = true := by rw [hb, h4]; rfl
 have h7 : (((s[0]'hp).toNat : Int) != 47) = false := by rw [hb, h4]; rfl
 have h8 : (1 : Int) ≤ (s.size : Int) := by omega
 have he : (s.extract 1 s.size).size ≤ 100000 := by rw [ByteArray.size_extract]; omega
 have HX : Hid (Calls Tryz.prog 79 _ _ _) := cut_any (s.extract 1 s.size) 47 w he
 obtain ⟨qs, hqs⟩ : ∃ qs, partsB s = qs := ⟨_, rfl⟩
 rw [hqs] at HR
 have HZ : Hid (∀ q ∈ qs, q.size ≤ 200) := fun q hq => by
  have := parts_size s q (by rw [hqs]; exact hq)
  omega
 have HQ : Hid (txtsL (cutL 47 (bytesOf (s.extract 1 s.size))) = strs qs) := by show _ = _; rw [txtsL_strs, ← hqs]; rfl
 clear h1 h2 h4 hb he hqs
 go_enter Tryz.func46, Tryz.ntmps46
 go_wp2_with fail
 go_at_call 79
 refine HX.out.mono ?_
 rintro e w3 ⟨r3, rfl, hr, hb⟩
 rw [HQ.out] at hr
 have H3 : Hid (RowV w3 w.heap.size 9 r3 (strs qs) ∧ Below w.heap.size w w3) := ⟨hr, hb⟩
 obtain ⟨ao, cap, hr3, _, hcap, _, hc4⟩ := hr.sees
 rw [strs_len] at hr3 hc4
 subst hr3
 have H4 : Hid (0 < qs.length → ∃ b off, ao = some ⟨b, off, none⟩ ∧ b < w3.heap.size ∧ ∀ (i : Nat) x, (strs qs)[i]? = some x → w3.cell? ⟨b, off + i, none⟩ = some x) := hc4
 have hm : (qs.length : Int) ≤ 9223372036854775807 := by
  have := hr.sees
  obtain ⟨_, _, _, g1, g2, _⟩ := this
  rw [strs_len] at g1
  unfold maxLen at g2
  omega
 clear hr hb HX HQ hc4 hcap
 go_wp2
 go_loopw [5, 6] (fun lg i wr => ∃ k : Nat, k ≤ qs.length ∧ i = .int .i64 (k : Int) ∧ lg = .bool (longTo qs k) ∧ Hid (∀ j, j < k → okB (qs.getD j ⟨#[]⟩) = true) ∧ wr = w3) (fun _ i _ => qs.length - (intOf i).toNat)
 case atStart => exact ⟨0, Nat.zero_le _, rfl, rfl, fun j hj => absurd hj (Nat.not_lt_zero _), rfl⟩
 case round =>
  obtain ⟨k, hk, rfl, rfl, HO, hw⟩ := hrel
  have hw := hw.symm
  subst hw
  obtain ⟨lg, hlg⟩ : ∃ lg, longTo qs k = lg := ⟨_, rfl⟩
  rw [hlg]
  have HLG : Hid (longTo qs k = lg) := hlg
  clear hlg
  by_cases hlt : k < qs.length
  · obtain ⟨b, off, hao, hbl, hc⟩ := H4.out (by omega)
    subst hao
    have c0 := hc k _ (strs_at qs k hlt)
    have HST := longTo_step qs k hlt
    obtain ⟨q, hq⟩ : ∃ q, qs.getD k ⟨#[]⟩ = q := ⟨_, rfl⟩
    rw [hq] at c0 HST
    rw [HLG.out] at HST
    have HST2 : Hid (longTo qs (k + 1) = (lg || longB q)) := HST
    have HQK : Hid (qs.getD k ⟨#[]⟩ = q) := hq
    have i0 : (k : Int) < (qs.length : Int) := by omega
    have i2 : (0 : Int) ≤ (k : Int) := by omega
    clear hc hbl hq HST
    by_cases n0 : q = ⟨#[]⟩ ∨ q = ⟨#[46]⟩ ∨ q = ⟨#[46, 46]⟩
    · have HB : Hid (splitB s = ([], 2)) := by show _ = _; rw [HR.out, if_pos (all_not hlt (by rw [HQK.out]; exact okB_not n0))]
      clear HR HO HST2 HQK
      rcases n0 with n0 | n0 | n0
      all_goals subst n0
      all_goals go_wp2
      all_goals go_ret2
      all_goals exact ⟨_, by rw [HB.out]; rfl, by rw [HB.out]; exact rowV_nil _ _ _, H3.out.2⟩
    · have m0 : ¬ q = ⟨#[]⟩ := fun e => n0 (.inl e)
      have m1 : ¬ q = ⟨#[46]⟩ := fun e => n0 (.inr (.inl e))
      have m2 : ¬ q = ⟨#[46, 46]⟩ := fun e => n0 (.inr (.inr e))
      have r0 : q.toList.isEmpty = false := by have := not_empty m0; simpa using this
      have r1 : (q.toList == [46]) = false := beq_mk q [46] m1
      have r2 : (q.toList == [46, 46]) = false := beq_mk q [46, 46] m2
      have HM : Hid (¬ q = ⟨#[]⟩ ∧ ¬ q = ⟨#[46]⟩ ∧ ¬ q = ⟨#[46, 46]⟩) := ⟨m0, m1, m2⟩
      have hz : (q.size : Int) ≤ 200 := by
       have := HZ.out q (by rw [← HQK.out]; simp [List.getD, hlt])
       omega
      clear n0 m0 m1 m2
      go_wp2
      go_loopw [7] (fun i wr => ∃ k2 : Nat, k2 ≤ q.size ∧ i = .int .i64 (k2 : Int) ∧ Hid (∀ j, j < k2 → letterB ((bytesOf q).getD j 0) = true) ∧ wr = w3) (fun i _ => q.size - (intOf i).toNat)
      case atStart => exact ⟨0, Nat.zero_le _, rfl, fun j hj => absurd hj (Nat.not_lt_zero _), rfl⟩
      case round =>
       obtain ⟨k2, hk2, rfl, HL, hw⟩ := hrel
       have hw := hw.symm
       subst hw
       by_cases hlt2 : k2 < q.size
       · have j0 : (k2 : Int) < (q.size : Int) := by omega
         have j2 : (0 : Int) ≤ (k2 : Int) := by omega
         have HBY : Hid (((q[k2]'hlt2).toNat : Int) = (bytesOf q).getD k2 0) := byte_at q k2 hlt2
         have HX : Hid (Calls Tryz.prog 80 _ _ _) := letter_any ((q[k2]'hlt2).toNat : Int) w3
         go_wp2_with fail
         go_at_call 80
         refine HX.out.mono ?_
         rintro e w4 ⟨rfl, hw4⟩
         have hw4 := hw4.symm
         subst hw4
         rcases hlb : letterB ((q[k2]'hlt2).toNat : Int) with _ | _
         · have HB : Hid (splitB s = ([], 2)) := by
            show _ = _
            rw [HR.out, if_pos (all_not hlt (by rw [HQK.out]; exact okB_bad hlt2 (by rw [← HBY.out]; exact hlb)))]
           clear HR HO HST2 HQK HX hlb HBY HL
           go_wp2
           go_ret2
           exact ⟨_, by rw [HB.out]; rfl, by rw [HB.out]; exact rowV_nil _ _ _, H3.out.2⟩
         · have HL2 : Hid (∀ j, j < k2 + 1 → letterB ((bytesOf q).getD j 0) = true) := fun j hj => by
            by_cases e : j = k2
            · subst e; rw [← HBY.out]; exact hlb
            · exact HL.out j (by omega)
           clear HX hlb HBY HL
           go_wp2
           go_roundw
           case rel => exact ⟨k2 + 1, by omega, by simp, HL2.out, by simp⟩
           case measure => simp [intOf]; omega
       · have hkq : k2 = q.size := by omega
         subst hkq
         have HO2 : Hid (∀ j, j < k + 1 → okB (qs.getD j ⟨#[]⟩) = true) := fun j hj => by
          by_cases e : j = k
          · subst e; rw [HQK.out]; exact okB_yes HM.out.1 HM.out.2.1 HM.out.2.2 HL.out
          · exact HO.out j (by omega)
         clear HO HL HM HQK
         cases lg with
         | true =>
           have HS2 : Hid (longTo qs (k + 1) = true) := HST2.out
           clear HST2
           go_wp2
           go_roundw
           case rel => exact ⟨k + 1, by omega, by simp, by rw [HS2.out], HO2.out, by simp⟩
           case measure => simp [intOf]; omega
         | false =>
           by_cases hz2 : (12 : Int) < (q.size : Int)
           · have HS2 : Hid (longTo qs (k + 1) = true) := by show _ = _; rw [HST2.out]; unfold longB; rw [decide_eq_true (by omega)]; rfl
             clear HST2
             go_wp2
             go_roundw
             case rel => exact ⟨k + 1, by omega, by simp, by rw [HS2.out], HO2.out, by simp⟩
             case measure => simp [intOf]; omega
           · have HS2 : Hid (longTo qs (k + 1) = false) := by show _ = _; rw [HST2.out]; unfold longB; rw [decide_eq_false (by omega)]; rfl
             clear HST2
             go_wp2
             go_roundw
             case rel => exact ⟨k + 1, by omega, by simp, by rw [HS2.out], HO2.out, by simp⟩
             case measure => simp [intOf]; omega
  · have hkl : k = qs.length := by omega
    have HA : Hid (splitB s = if lg = true then ([], 3) else if 6 < qs.length then ([], 4) else (qs, 0)) := by
     show _ = _
     have h1 : qs.all okB = true := all_yes (fun j hj => HO.out j (by omega))
     have h2 : qs.any longB = lg := by
      rw [← HLG.out, hkl]
      unfold longTo
      rw [List.take_length]
     rw [HR.out, h1, h2]; rfl
    subst hkl
    clear HR HO HLG
    cases lg with
    | true =>
      have HB : Hid (splitB s = ([], 3)) := HA.out
      clear HA
      go_wp2
      go_ret2
      exact ⟨_, by rw [HB.out]; rfl, by rw [HB.out]; exact rowV_nil _ _ _, H3.out.2⟩
    | false =>
      by_cases h6 : (6 : Int) < (qs.length : Int)
      · have HB : Hid (splitB s = ([], 4)) := by show _ = _; rw [HA.out, if_neg (by decide), if_pos (by omega)]
        clear HA
        go_wp2
        go_ret2
        exact ⟨_, by rw [HB.out]; rfl, by rw [HB.out]; exact rowV_nil _ _ _, H3.out.2⟩
      · have HB : Hid (splitB s = (qs, 0)) := by show _ = _; rw [HA.out, if_neg (by decide), if_neg (by omega)]
        clear HA
        go_wp2
        go_ret2
        exact ⟨_, by rw [HB.out]; rfl, by rw [HB.out]; exact H3.out.1, H3.out.2⟩

theorem split_any (s : ByteArray) (w : World) (hm : s.size ≤ maxLen) :
 Calls Tryz.prog 46 #[.string s] w fun e w' => ∃ r, e = .returned (.tuple #[r, .int .i64 (splitB s).2]) ∧ RowV w' w.heap.size 9 r (strs (splitB s).1) ∧ Below w.heap.size w w' := by
 by_cases h : s = ⟨#[47]⟩ ∨ s = ⟨#[]⟩ ∨ 200 < s.size ∨ (bytesOf s).getD 0 0 ≠ 47
 · refine (split_out s w h hm).mono ?_
   rintro e w' ⟨rfl, rfl⟩
   refine ⟨_, rfl, ?_, Below.refl _ _⟩
   have : (splitB s).1 = [] := by
    unfold splitB
    by_cases h1 : s = ⟨#[47]⟩
    · rw [if_pos h1]
    · rw [if_neg h1, if_pos (h.resolve_left h1)]
   rw [this]
   exact rowV_nil _ _ _
 · exact split_in s w (fun e => h (.inl e)) (fun e => h (.inr (.inl e))) (fun e => h (.inr (.inr (.inl (by omega))))) (by
    by_cases e : (bytesOf s).getD 0 0 = 47
    · exact e
    · exact absurd (.inr (.inr (.inr e))) h)
end Go.Proofs.YtbebgobboccjcaaGreatDoor
namespace Go.Proofs.YtbebgobboccjcaaGreatDoor
open Go.RowKit Kit
set_option linter.unusedVariables false

theorem bytesOf_from (s : ByteArray) (i : Nat) : bytesOf (s.extract i s.size) = (bytesOf s).drop i := by
 rw [extract_strOf, List.take_of_length_le (by simp [bytesOf_len])]
 have h : bytesIn ((bytesOf s).drop i) := fun z hz => bytesOf_in s z (List.mem_of_mem_drop hz)
 exact strOf_inj (bytesOf_in _) h (strOf_bytesOf _)
theorem occ_one (l : List UInt8) (c : UInt8) (i : Nat) : Lib.occAt l [c] i = true ↔ l[i]? = some c := by
 unfold Lib.occAt
 have e : (l.drop i)[0]? = l[i]? := by simp
 rw [← e]
 cases l.drop i with
 | nil => simp
 | cons a t =>
   simp only [List.isPrefixOf, Bool.and_true, beq_iff_eq, List.getElem?_cons_zero, Option.some.injEq]
   exact eq_comm
theorem slash_free (s : ByteArray) (h : ∀ j, j ≤ s.data.toList.length → Lib.occAt s.data.toList [47] j = false) : ∀ x ∈ bytesOf s, x ≠ 47 := by
 intro x hx
 unfold bytesOf at hx
 obtain ⟨b, hb, rfl⟩ := List.mem_map.1 hx
 intro e
 obtain ⟨i, hi⟩ := List.mem_iff_getElem?.1 hb
 have hb2 : b = 47 := by
  apply UInt8.toNat_inj.1
  show b.toNat = 47
  omega
 have hlt := (List.getElem?_eq_some_iff.1 hi).1
 have := h i (by omega)
 rw [hb2] at hi
 rw [(occ_one _ _ _).2 hi] at this
 cases this
theorem split_cut : ∀ (n : Nat) (s : ByteArray), s.size ≤ n → Lib.splitB ⟨#[47]⟩ 0 (Lib.countB s ⟨#[47]⟩) s = (cutL 47 (bytesOf s)).map strOf := by
 intro n
 induction n with
 | zero =>
   intro s hs
   rcases Lib.index_spec s.data.toList [47] with ⟨h1, h2⟩ | ⟨i, h1, h2, h3, _⟩
   · rw [Lib.countB_miss s ⟨#[47]⟩ h1, Lib.splitB_zero, cutL_free 47 _ (slash_free s h2), List.map_singleton, strOf_bytesOf]
   · exfalso
     have := (List.getElem?_eq_some_iff.1 ((occ_one _ _ _).1 h3)).1
     have e : s.data.toList.length = s.size := by simp
     omega
 | succ n ih =>
   intro s hs
   rcases Lib.index_spec s.data.toList [47] with ⟨h1, h2⟩ | ⟨i, h1, h2, h3, h4⟩
   · rw [Lib.countB_miss s ⟨#[47]⟩ h1, Lib.splitB_zero, cutL_free 47 _ (slash_free s h2), List.map_singleton, strOf_bytesOf]
   · have hi := (occ_one _ _ _).1 h3
     have hlt := (List.getElem?_eq_some_iff.1 hi).1
     have e : s.data.toList.length = s.size := by simp
     have eb : (bytesOf s)[i]? = some 47 := by
      unfold bytesOf; rw [List.getElem?_map, hi]; rfl
     have hlb : i < (bytesOf s).length := by rw [bytesOf_len]; omega
     have eb2 : (bytesOf s)[i] = 47 := by rw [List.getElem?_eq_getElem hlb] at eb; exact Option.some.inj eb
     have ed : bytesOf s = (bytesOf s).take i ++ 47 :: (bytesOf s).drop (i + 1) := by
      conv => lhs; rw [← List.take_append_drop i (bytesOf s), List.drop_eq_getElem_cons hlb, eb2]
     have hfree : ∀ x ∈ (bytesOf s).take i, x ≠ 47 := by
      intro x hx hx47
      obtain ⟨j, hj⟩ := List.mem_iff_getElem?.1 hx
      rw [List.getElem?_take] at hj
      split at hj
      · rename_i hji
        unfold bytesOf at hj
        rw [List.getElem?_map] at hj
        obtain ⟨b, hb, rfl⟩ := Option.map_eq_some_iff.1 hj
        have hb2 : b = 47 := by
         apply UInt8.toNat_inj.1
         show b.toNat = 47
         omega
        rw [hb2] at hb
        have := h4 j hji
        rw [(occ_one _ _ _).2 hb] at this
        cases this
      · cases hj
     rw [Lib.countB_hit s ⟨#[47]⟩ i (by decide) h1, Nat.add_comm, Lib.splitB_hit ⟨#[47]⟩ 0 _ s i h1]
     show s.extract 0 (i + 0) :: Lib.splitB ⟨#[47]⟩ 0 (Lib.countB (s.extract (i + 1) s.size) ⟨#[47]⟩) (s.extract (i + 1) s.size) = _
     rw [ih _ (by rw [ByteArray.size_extract]; omega), bytesOf_from]
     conv => rhs; rw [ed, cutL_at 47 _ _ hfree]
     rw [List.map_cons, extract_strOf]
     simp
theorem join_slash : ∀ (ss : List ByteArray), joinB ss = ⟨#[47]⟩ ++ ⟨(Lib.join (ss.map (·.data.toList)) [47]).toArray⟩ := by
 have step : ∀ (ss : List ByteArray) (a : ByteArray), ss.foldl (fun s p => s ++ ⟨#[47]⟩ ++ p) a = a ++ ⟨(ss.map (fun p => 47 :: p.data.toList)).flatten.toArray⟩ := by
  intro ss
  induction ss with
  | nil => intro a; apply ByteArray.ext; simp
  | cons p ss ih =>
    intro a
    rw [List.foldl_cons, ih]
    apply ByteArray.ext
    apply Array.ext'
    simp
 intro ss
 unfold joinB
 cases ss with
 | nil => apply ByteArray.ext; simp [Lib.join]
 | cons p ss =>
   rw [if_neg (by simp)]
   unfold joinTo
   rw [List.take_length, step]
   apply ByteArray.ext
   have : ∀ (q : List UInt8) (ss : List ByteArray), [47].intercalate (q :: ss.map (·.data.toList)) = q ++ (ss.map (fun p => 47 :: p.data.toList)).flatten := by
    intro q ss
    induction ss generalizing q with
    | nil => simp [List.intercalate]
    | cons r ss ih =>
      have := ih r.data.toList
      simp only [List.intercalate, List.map_cons, List.intersperse_cons_cons, List.flatten_cons] at this ⊢
      rw [this]
      simp
   unfold Lib.join
   have e := this p.data.toList ss
   rw [show List.map (fun x => x.data.toList) (p :: ss) = p.data.toList :: ss.map (fun x => x.data.toList) from rfl, e]
   apply Array.ext'
   simp
end Go.Proofs.YtbebgobboccjcaaGreatDoor
namespace Go.Proofs.YtbebgobboccjcaaGreatDoor
open Go.RowKit Kit
set_option linter.unusedVariables false

set_option maxRecDepth 4000 in
set_option maxHeartbeats 1000000 in
theorem may_any (c : Int) (w : World) : Calls Tryz.prog 136 #[.int .u8 c] w fun e w' => e = .returned (.bool (letterB c)) ∧ w' = w := by
 go_enter Tryz.func136, Tryz.ntmps136
 go_wp2
 all_goals go_ret
 all_goals refine ⟨?_, rfl⟩
 all_goals show Ending.returned (.bool _) = Ending.returned (.bool _)
 all_goals refine congrArg (fun b => Ending.returned (.bool b)) ?_
 all_goals (rw [Bool.eq_iff_iff]; simp [letterB]; try omega)
theorem long_any (q : ByteArray) (w : World) (hq : q.size ≤ maxLen) : Calls Tryz.prog 114 #[.string q] w fun e w' => e = .returned (.bool (longB q)) ∧ w' = w := by
 have hm : (q.size : Int) ≤ 9223372036854775807 := by unfold maxLen at hq; omega
 go_enter Tryz.func114, Tryz.ntmps114
 go_wp2
 go_ret
 refine ⟨?_, rfl⟩
 refine congrArg (fun b => Ending.returned (.bool b)) ?_
 rw [Bool.eq_iff_iff]
 simp [longB]
 omega
set_option maxRecDepth 4000 in
set_option maxHeartbeats 2000000 in
theorem noName_any (q : ByteArray) (w : World) (hq : q.size ≤ maxLen) : Calls Tryz.prog 113 #[.string q] w fun e w' => e = .returned (.bool (!okB q)) ∧ w' = w := by
 have hm : (q.size : Int) ≤ 9223372036854775807 := by unfold maxLen at hq; omega
 by_cases h1 : q = ⟨#[]⟩
 · subst h1
   clear hq hm
   go_enter Tryz.func113, Tryz.ntmps113
   go_wp2
   go_ret
   exact ⟨rfl, rfl⟩
 by_cases h2 : q = ⟨#[46]⟩
 · subst h2
   clear hq hm h1
   go_enter Tryz.func113, Tryz.ntmps113
   go_wp2
   go_ret
   exact ⟨rfl, rfl⟩
 by_cases h3 : q = ⟨#[46, 46]⟩
 · subst h3
   clear hq hm h1 h2
   go_enter Tryz.func113, Tryz.ntmps113
   go_wp2
   go_ret
   exact ⟨rfl, rfl⟩
 have q1 : q.toList.isEmpty = false := by have := not_empty h1; simpa using this
 have q2 : (q.toList == [46]) = false := beq_eq_false_iff_ne.2 (by rw [Ne, toList_eq_iff]; exact h2)
 have q3 : (q.toList == [46, 46]) = false := beq_eq_false_iff_ne.2 (by rw [Ne, toList_eq_iff]; exact h3)
 have HO : Hid (okB q = (bytesOf q).all letterB) := by show _ = _; simp [okB, h1, h2, h3]
 clear h1 h2 h3 hq
 go_enter Tryz.func113, Tryz.ntmps113
 go_wp2
 go_loopw [11, 3] (fun i _ wr => ∃ k : Nat, k ≤ q.size ∧ i = .int .i64 (k : Int) ∧ wr = w ∧ Hid (∀ j, j < k → letterB ((bytesOf q).getD j 0) = true)) (fun i _ _ => q.size - (intOf i).toNat)
 case atStart => exact ⟨0, Nat.zero_le _, rfl, rfl, fun j hj => by omega⟩
 case round =>
  obtain ⟨k, hk, rfl, rfl, HR⟩ := hrel
  by_cases hlt : k < q.size
  · have i1 : (k : Int) < (q.size : Int) := by omega
    have i2 : (0 : Int) ≤ (k : Int) := by omega
    have hb := byte_at q k hlt
    have HM : Hid (Calls Tryz.prog 136 _ _ _) := may_any ((q[k]'hlt).toNat : Int) wr
    rw [hb] at HM
    have HB : Hid ((((q[k]'hlt).toNat : Nat) : Int) = (bytesOf q).getD k 0) := hb
    clear hb
    go_wp2_with fail
    go_at_call 136
    rw [HB.out]
    refine HM.out.mono ?_
    rintro e1 w1 ⟨rfl, rfl⟩
    clear HM HB
    cases hl : letterB ((bytesOf q).getD k 0) with
    | false =>
      have HF : Hid (okB q = false) := by
       show _ = _
       rw [HO.out, List.all_eq_false]
       refine ⟨(bytesOf q).getD k 0, ?_, by rw [hl]; simp⟩
       have hk2 : k < (bytesOf q).length := by rw [bytesOf_len]; exact hlt
       simp [List.getD, hk2]
      clear HO HR hl
      go_wp2
      go_ret
      exact ⟨by rw [HF.out]; rfl, rfl⟩
    | true =>
      have HN : Hid (∀ j, j < k + 1 → letterB ((bytesOf q).getD j 0) = true) := fun j hj => by
       by_cases hjk : j = k
       · subst hjk; exact hl
       · exact HR.out j (by omega)
      clear HR hl
      go_wp2
      go_roundw
      case rel => exact ⟨k + 1, by omega, by simp, trivial, HN⟩
      case measure => simp [intOf]; omega
  · obtain rfl : k = q.size := by omega
    have i1 : ¬ (q.size : Int) < (q.size : Int) := by omega
    have HT : Hid (okB q = true) := by
     show _ = _
     rw [HO.out, List.all_eq_true]
     intro x hx
     obtain ⟨j, hj⟩ := List.mem_iff_getElem?.1 hx
     have hlt2 := (List.getElem?_eq_some_iff.1 hj).1
     rw [bytesOf_len] at hlt2
     have := HR.out j hlt2
     rw [List.getD, hj] at this
     exact this
    clear HR HO hlt
    go_wp2
    go_ret
    exact ⟨by rw [HT.out]; rfl, rfl⟩
end Go.Proofs.YtbebgobboccjcaaGreatDoor
namespace Go.Proofs.YtbebgobboccjcaaGreatDoor
open Go.RowKit
set_option linter.unusedVariables false

def satSum (n : Nat) : List Nat → Nat
 | [] => n
 | m :: r => if n + m ≤ 1099511627776 then satSum (n + m) r else 1099511627776
theorem satSum_le : ∀ (l : List Nat) (n : Nat), n ≤ 1099511627776 → satSum n l ≤ 1099511627776
 | [], n, h => h
 | m :: r, n, h => by
   unfold satSum
   split
   · exact satSum_le r _ (by assumption)
   · exact Nat.le_refl _
set_option maxRecDepth 4000 in
set_option maxHeartbeats 2000000 in
theorem sum_list (ms : List Nat) (n b cap : Nat) (w : World) (hn : Hid (n ≤ 1099511627776)) (hm : Hid (∀ i, i < ms.length → (ms.getD i 0 : Int) ≤ 9223372036854775807)) (hl : ms.length ≤ 100) (hc : Hid (∀ i, i < ms.length → w.cell? ⟨b, i, none⟩ = some (.int .i64 (ms.getD i 0 : Nat)))) :
 Calls Tryz.prog 42 #[.int .i64 (n : Int), .slice (some ⟨b, 0, none⟩) ms.length cap] w fun e w' => e = .returned (.int .i64 (satSum n ms : Nat)) ∧ w' = w := by
 have HE : Hid (satSum n ms = satSum n (ms.drop 0)) := rfl
 go_enter Tryz.func42, Tryz.ntmps42
 go_wp2
 go_loop [0, 5] (fun a i => ∃ k m : Nat, k ≤ ms.length ∧ a = .int .i64 (m : Int) ∧ i = .int .i64 (k : Int) ∧ Hid (m ≤ 1099511627776 ∧ satSum n ms = satSum m (ms.drop k))) (fun _ i => ms.length - (intOf i).toNat)
 case atStart => exact ⟨0, n, by omega, rfl, rfl, hn.out, rfl⟩
 case round =>
  obtain ⟨k, m, hk, rfl, rfl, HM⟩ := hrel
  by_cases hlt : k < ms.length
  · have hck := hc.out k hlt
    have hmk := hm.out k hlt
    have hs : ms.drop k = ms.getD k 0 :: ms.drop (k + 1) := by
     rw [List.drop_eq_getElem_cons hlt]; simp [List.getD, hlt]
    have HS : Hid (satSum n ms = if m + ms.getD k 0 ≤ 1099511627776 then satSum (m + ms.getD k 0) (ms.drop (k + 1)) else 1099511627776) := by
     show _ = _
     rw [HM.out.2, hs]; rfl
    have hM : (m : Int) ≤ 1099511627776 := by have := HM.out.1; omega
    clear hs
    generalize ms.getD k 0 = x at *
    have g1 : decide ((m : Int) > 1099511627776) = false := by simp; omega
    by_cases hx : (x : Int) > 1099511627776 - (m : Int)
    · have HR : Hid (satSum n ms = 1099511627776) := by show _ = _; rw [HS.out, if_neg (by omega)]
      go_wp2
      go_ret
      exact ⟨congrArg (fun t : Nat => Ending.returned (.int .i64 (t : Int))) HR.out.symm, rfl⟩
    · have HR : Hid (m + x ≤ 1099511627776 ∧ satSum n ms = satSum (m + x) (ms.drop (k + 1))) := ⟨by omega, by rw [HS.out, if_pos (by omega)]⟩
      go_wp2
      go_roundw
      case rel => exact ⟨k + 1, m + x, by omega, by go_num, by go_num, HR⟩
      case measure => simp [intOf]; omega
  · have hk2 : ms.length = k := by omega
    have HR : Hid (satSum n ms = m) := by show _ = _; rw [HM.out.2, ← hk2, List.drop_length]; rfl
    subst hk2
    go_wp2
    go_ret
    exact ⟨congrArg (fun t : Nat => Ending.returned (.int .i64 (t : Int))) HR.out.symm, rfl⟩
end Go.Proofs.YtbebgobboccjcaaGreatDoor
namespace Go.Proofs.YtbebgobboccjcaaGreatDoor
open Go.RowKit Kit
set_option linter.unusedVariables false

theorem split_code (s : ByteArray) : (splitB s).2 = 0 ∨ ((splitB s).2 ≠ 0 ∧ (splitB s).1 = []) := by
 unfold splitB
 split
 · exact .inl rfl
 split
 · exact .inr ⟨by decide, rfl⟩
 split
 · exact .inr ⟨by decide, rfl⟩
 split
 · exact .inr ⟨by decide, rfl⟩
 split
 · exact .inr ⟨by decide, rfl⟩
 · exact .inl rfl
theorem split_small (s : ByteArray) : (splitB s).1.length ≤ 6 ∧ ∀ q ∈ (splitB s).1, q.size ≤ 12 := by
 unfold splitB
 split
 · exact ⟨by simp, by simp⟩
 split
 · exact ⟨by simp, by simp⟩
 split
 · exact ⟨by simp, by simp⟩
 split
 · exact ⟨by simp, by simp⟩
 rename_i h
 split
 · exact ⟨by simp, by simp⟩
 · refine ⟨by simp; omega, fun q hq => ?_⟩
   have h2 : (partsB s).any longB = false := by simpa using h
   rw [List.any_eq_false] at h2
   have := h2 q hq
   unfold longB at this
   simpa using this
theorem tot_small : ∀ l : List ByteArray, (∀ q ∈ l, q.size ≤ 12) → tot l ≤ 13 * l.length
 | [], _ => by simp [tot]
 | x :: r, h => by
   have h1 := tot_small r (fun q hq => h q (by simp [hq]))
   have h2 := h x (by simp)
   unfold tot at *
   simp
   omega
def underB (p d : ByteArray) : Bool := decide ((splitB p).2 = 0 ∧ (splitB d).2 = 0 ∧ (splitB p).1.take (splitB d).1.length = (splitB d).1)
theorem take_eq {a b : List ByteArray} (hl : b.length ≤ a.length) (h : ∀ j, j < b.length → a.getD j ⟨#[]⟩ = b.getD j ⟨#[]⟩) : a.take b.length = b := by
 apply List.ext_getElem
 · simp; omega
 · intro i h1 h2
   have := h i h2
   have h3 : i < a.length := by omega
   simpa [List.getD, h2, h3] using this

set_option maxRecDepth 4000 in
set_option maxHeartbeats 8000000 in
theorem under_any (p d : ByteArray) (w : World) (hp : p.size ≤ maxLen) (hd : d.size ≤ maxLen) :
 Calls Tryz.prog 24 #[.string p, .string d] w fun e w' => e = .returned (.bool (underB p d)) ∧ Below w.heap.size w w' := by
 have HX : Hid (Calls Tryz.prog 46 _ _ _) := split_any p w hp
 have HY : Hid (∀ w, Calls Tryz.prog 46 #[.string d] w fun e w' => ∃ r, e = .returned (.tuple #[r, .int .i64 (splitB d).2]) ∧ RowV w' w.heap.size 9 r (strs (splitB d).1) ∧ Below w.heap.size w w') := fun w => split_any d w hd
 have cp := split_code p
 have cd := split_code d
 have sp := (split_small p).1
 have sd := (split_small d).1
 have HU : Hid (underB p d = decide ((splitB p).2 = 0 ∧ (splitB d).2 = 0 ∧ (splitB p).1.take (splitB d).1.length = (splitB d).1)) := rfl
 obtain ⟨⟨a, e⟩, he⟩ : ∃ x, splitB p = x := ⟨_, rfl⟩
 obtain ⟨⟨b, f⟩, hf⟩ : ∃ x, splitB d = x := ⟨_, rfl⟩
 rw [he] at HX cp sp HU
 rw [hf] at HY cd sd HU
 simp only at HX HY cp cd sp sd HU
 clear hp hd he hf
 go_enter Tryz.func24, Tryz.ntmps24
 go_wp2_with fail
 go_at_call 46
 refine HX.out.mono ?_
 rintro e1 w1 ⟨r1, rfl, hr1, hb1⟩
 have H1 : Hid (Sees w1 r1 (strs a) ∧ Below w.heap.size w w1) := ⟨hr1.sees, hb1⟩
 clear hr1 hb1 HX
 go_wp2_with fail
 go_at_call 46
 refine (HY.out w1).mono ?_
 rintro e2 w2 ⟨r2, rfl, hr2, hb2⟩
 have H2 : Hid (Sees w2 r1 (strs a) ∧ Sees w2 r2 (strs b) ∧ Below w.heap.size w w2) := ⟨H1.out.1.below hb2, hr2.sees, bel2v H1.out.2 hb2⟩
 clear hr2 hb2 HY H1
 rcases cp with hp0 | ⟨hp0, _⟩
 · subst hp0
   rcases cd with hd0 | ⟨hd0, _⟩
   · subst hd0
     obtain ⟨ao, ac, ha, _, _, _, hac⟩ := H2.out.1
     obtain ⟨bo, bc, hb, _, _, _, hbc⟩ := H2.out.2.1
     rw [strs_len] at ha hac hb hbc
     subst ha hb
     have HA : Hid (_ → _) := hac
     have HB : Hid (_ → _) := hbc
     clear hac hbc
     have la : (a.length : Int) ≤ 6 := by omega
     have lb : (b.length : Int) ≤ 6 := by omega
     by_cases hl : (a.length : Int) < (b.length : Int)
     · have HR : Hid (underB p d = false) := by
        show _ = _
        rw [HU.out]
        refine decide_eq_false ?_
        rintro ⟨_, _, h⟩
        have := congrArg List.length h
        simp at this
        omega
       clear HU
       go_wp2
       go_ret
       exact ⟨congrArg (fun b => Ending.returned (.bool b)) HR.out.symm, H2.out.2.2⟩
     · go_wp2
       go_loopw [9] (fun i wr => ∃ k : Nat, k ≤ b.length ∧ i = .int .i64 (k : Int) ∧ Hid (∀ j, j < k → a.getD j ⟨#[]⟩ = b.getD j ⟨#[]⟩) ∧ Hid (Below w2.heap.size w2 wr)) (fun i _ => b.length - (intOf i).toNat)
       case atStart => exact ⟨0, Nat.zero_le _, rfl, fun j hj => absurd hj (Nat.not_lt_zero _), Below.refl _ _⟩
       case round =>
        obtain ⟨k, hk, rfl, HE, HW⟩ := hrel
        by_cases hlt : k < b.length
        · obtain ⟨ab, af, hao, hal, hca⟩ := HA.out (by omega)
          obtain ⟨bb, bf, hbo, hbl, hcb⟩ := HB.out (by omega)
          subst hao hbo
          have c0 := (HW.out.cell (by exact hal)).trans (hca k _ (strs_at a k (by omega)))
          have c1 := (HW.out.cell (by exact hbl)).trans (hcb k _ (strs_at b k hlt))
          obtain ⟨x, hx⟩ : ∃ x, a.getD k ⟨#[]⟩ = x := ⟨_, rfl⟩
          obtain ⟨y, hy⟩ : ∃ y, b.getD k ⟨#[]⟩ = y := ⟨_, rfl⟩
          rw [hx] at c0
          rw [hy] at c1
          have HXY : Hid (a.getD k ⟨#[]⟩ = x ∧ b.getD k ⟨#[]⟩ = y) := ⟨hx, hy⟩
          have i0 : (k : Int) < (b.length : Int) := by omega
          have i1 : (k : Int) < (a.length : Int) := by omega
          have i2 : (0 : Int) ≤ (k : Int) := by omega
          clear hx hy hca hcb hal hbl
          by_cases hxy : x = y
          · subst hxy
            have HE2 : Hid (∀ j, j < k + 1 → a.getD j ⟨#[]⟩ = b.getD j ⟨#[]⟩) := fun j hj => by
             by_cases hj2 : j = k
             · subst hj2; exact HXY.out.1.trans HXY.out.2.symm
             · exact HE.out j (by omega)
            clear HE HXY HU
            go_wp2
            go_region
            go_wp2
            go_roundw
            case rel => exact ⟨k + 1, by omega, by simp, HE2.out, HW.out.drew⟩
            case measure => simp [intOf]; omega
          · have hq := bytes_eq x y
            rw [decide_eq_false hxy] at hq
            have HR : Hid (underB p d = false) := by
             show _ = _
             rw [HU.out]
             refine decide_eq_false ?_
             rintro ⟨_, _, h⟩
             apply hxy
             rw [← HXY.out.1, ← HXY.out.2]
             have := congrArg (fun l => List.getD l k ⟨#[]⟩) h
             rw [← this]
             have h9 : k < a.length := by omega
             simp [List.getD, hlt, h9]
            clear HE HXY HU hxy
            go_wp2
            go_region
            go_wp2
            go_ret
            exact ⟨congrArg (fun b => Ending.returned (.bool b)) HR.out.symm, bel2v H2.out.2.2 HW.out.drew⟩
        · have hkl : k = b.length := by omega
          have HR : Hid (underB p d = true) := by
           show _ = _
           rw [HU.out]
           exact decide_eq_true ⟨by trivial, by trivial, take_eq (by omega) (fun j hj => HE.out j (by omega))⟩
          subst hkl
          clear HE HU
          go_wp2
          go_ret
          exact ⟨congrArg (fun b => Ending.returned (.bool b)) HR.out.symm, bel2v H2.out.2.2 HW.out⟩
   · have e1 : (f == 0) = false := beq_eq_false_iff_ne.2 hd0
     have e2 : (f != 0) = true := by simp [hd0]
     have HR : Hid (underB p d = false) := by
      show _ = _
      rw [HU.out]
      refine decide_eq_false ?_
      rintro ⟨_, h, _⟩
      exact hd0 h
     clear HU hd0
     go_wp2
     go_ret
     exact ⟨congrArg (fun b => Ending.returned (.bool b)) HR.out.symm, H2.out.2.2⟩
 · have e1 : (e == 0) = false := beq_eq_false_iff_ne.2 hp0
   have e2 : (e != 0) = true := by simp [hp0]
   have HR : Hid (underB p d = false) := by
    show _ = _
    rw [HU.out]
    refine decide_eq_false ?_
    rintro ⟨h, _⟩
    exact hp0 h
   clear HU hp0 cd
   go_wp2
   go_ret
   exact ⟨congrArg (fun b => Ending.returned (.bool b)) HR.out.symm, H2.out.2.2⟩

def parentB (s : ByteArray) : ByteArray × ByteArray × Int :=
 if (splitB s).2 ≠ 0 then (⟨#[]⟩, ⟨#[]⟩, (splitB s).2) else if (splitB s).1.length = 0 then (⟨#[]⟩, ⟨#[]⟩, 2) else (joinB ((splitB s).1.take ((splitB s).1.length - 1)), (splitB s).1.getD ((splitB s).1.length - 1) ⟨#[]⟩, 0)
theorem drewNB {B : Nat} {a w : World} (h : Below B a w) (n : Nat) : Below B a (w.drewN n) := ⟨h.os, h.tape, h.output, h.size, h.block⟩
theorem Sees.cut {w : World} {ao : Option Addr} {n cap : Nat} {l : List ByteArray} (h : Sees w (.slice ao n cap) (strs l)) (m : Nat) (hm : m ≤ n) : Sees w (.slice ao m cap) (strs (l.take m)) := by
 obtain ⟨ao', cap', e, h1, h2, h3, h4⟩ := h
 rw [strs_len] at e h1 h4
 cases e
 refine ⟨ao, cap, by rw [strs_len]; simp; omega, by rw [strs_len]; simp; omega, h2, h3, fun h0 => ?_⟩
 rw [strs_len] at h0
 have h5 : 0 < l.length := by simp at h0; omega
 obtain ⟨b, off, e, hb, hc⟩ := h4 h5
 refine ⟨b, off, e, hb, fun i x hx => hc i x ?_⟩
 unfold strs at *
 rw [List.map_take, List.getElem?_take] at hx
 split at hx
 · exact hx
 · cases hx

set_option maxRecDepth 4000 in
set_option maxHeartbeats 8000000 in
theorem parent_any (s : ByteArray) (w : World) (hs : s.size ≤ maxLen) :
 Calls Tryz.prog 87 #[.string s] w fun e w' => e = .returned (.tuple #[.string (parentB s).1, .string (parentB s).2.1, .int .i64 (parentB s).2.2]) ∧ Below w.heap.size w w' := by
 have HX : Hid (Calls Tryz.prog 46 _ _ _) := split_any s w hs
 have cp := split_code s
 have sp := split_small s
 have HU : Hid (parentB s = if (splitB s).2 ≠ 0 then (⟨#[]⟩, ⟨#[]⟩, (splitB s).2) else if (splitB s).1.length = 0 then (⟨#[]⟩, ⟨#[]⟩, 2) else (joinB ((splitB s).1.take ((splitB s).1.length - 1)), (splitB s).1.getD ((splitB s).1.length - 1) ⟨#[]⟩, 0)) := rfl
 obtain ⟨⟨a, e⟩, he⟩ : ∃ x, splitB s = x := ⟨_, rfl⟩
 rw [he] at HX cp sp HU
 simp only at HX cp sp HU
 have HSM : Hid (a.length ≤ 6 ∧ ∀ q ∈ a, q.size ≤ 12) := sp
 clear hs he sp
 go_enter Tryz.func87, Tryz.ntmps87
 go_wp2_with fail
 go_at_call 46
 refine HX.out.mono ?_
 rintro e1 w1 ⟨r1, rfl, hr1, hb1⟩
 have H1 : Hid (Sees w1 r1 (strs a) ∧ Below w.heap.size w w1) := ⟨hr1.sees, hb1⟩
 clear hr1 hb1 HX
 rcases cp with hp0 | ⟨hp0, _⟩
 · subst hp0
   obtain ⟨ao, ac, ha, hcap, _, _, hac⟩ := H1.out.1
   rw [strs_len] at ha hac hcap
   subst ha
   rcases Nat.eq_zero_or_pos a.length with h0 | h0
   · have HR : Hid (parentB s = (⟨#[]⟩, ⟨#[]⟩, 2)) := by show _ = _; rw [HU.out, if_neg (by simp), if_pos h0]
     rw [h0]
     clear HU hac hcap
     go_wp2
     go_ret3
     exact ⟨by rw [HR.out]; rfl, H1.out.2⟩
   · obtain ⟨m, hm⟩ : ∃ m, a.length = m + 1 := ⟨a.length - 1, by omega⟩
     have HR : Hid (parentB s = (joinB (a.take m), a.getD m ⟨#[]⟩, 0)) := by
      show _ = _
      rw [HU.out, if_neg (by simp), if_neg (by omega), hm]; rfl
     obtain ⟨b, off, hao, hbl, hc⟩ := hac h0
     subst hao
     have HSE : Hid (Sees w1 (.slice (some ⟨b, off, none⟩) m ac) (strs (a.take m))) := Sees.cut H1.out.1 m (by omega)
     have hml : m < a.length := by omega
     have HC : Hid (w1.cell? ⟨b, off + m, none⟩ = some (.string (a.getD m ⟨#[]⟩)) ∧ b < w1.heap.size) := ⟨hc m _ (strs_at a m hml), hbl⟩
     have HTT : Hid (tot (a.take m) ≤ 1000000) := by
      have h1 := tot_take a m
      have h2 := tot_small a HSM.out.2
      have := HSM.out.1
      show _ ≤ _
      omega
     have m6 : (m : Int) ≤ 6 := by have := HSM.out.1; omega
     have m0 : (0 : Int) ≤ (m : Int) := by omega
     have mc : (m : Int) ≤ (ac : Int) := by
      omega
     obtain ⟨q, hq⟩ : ∃ q, a.getD m ⟨#[]⟩ = q := ⟨_, rfl⟩
     rw [hq] at HC HR
     rw [hm]
     clear hac hc hbl hm hml h0 hq HU hcap
     have f0 : ((m : Int) + 1 - 1) = (m : Int) := by omega
     have f1 : (m : Int) < (m : Int) + 1 := by omega
     have f2 : IntKind.i64.wrap (m : Int) = (m : Int) := by rw [IntKind.wrap_i64]; omega
     have c0 := HC.out.1
     go_wp2
     go_quiet ((go_at_call 117; exact Calls.quiet_of_same (join_any _ (a.take m) _ (Sees.below HSE.out (drewNB (Below.refl _ _) _)) HTT.out)))
     go_wp2
     go_ret3
     exact ⟨by rw [HR.out]; rfl, drewNB H1.out.2 _⟩
 · have e1 : (e == 0) = false := beq_eq_false_iff_ne.2 hp0
   have e2 : (e != 0) = true := by simp [hp0]
   have HR : Hid (parentB s = (⟨#[]⟩, ⟨#[]⟩, e)) := by show _ = _; rw [HU.out, if_pos hp0]
   clear HU hp0
   go_wp2
   go_ret3
   exact ⟨by rw [HR.out]; rfl, H1.out.2⟩
end Go.Proofs.YtbebgobboccjcaaGreatDoor
namespace Go.Proofs.YtbebgobboccjcaaGreatDoor
open Go.RowKit Kit
set_option linter.unusedVariables false

def OwnW (w : World) : Type := { w' : World // Below w.heap.size w w' }
theorem wp_region_own {P : Program} {id : Nat} {Q : Exit → Act → World → Prop} {a : Act} {w : World} {l : List Oper} (hm : P.follows .mixedOrders = true) (hB : Region.lexB .any l.toArray = true)
 (h : wpQuiet P l.toArray (fun w' => ∃ n : OwnW w, w' = n.1) (fun a' => ∀ w', (∃ n : OwnW w, w' = n.1) → Q .normal a' w') l a) : (Code.region id l.toArray true).wp P Q a w :=
 wp_region_quiet (C := fun w' => ∃ n : OwnW w, w' = n.1) hm hB ⟨⟨_, (Below.refl w.heap.size w).drew⟩, rfl⟩ (by simpa using h)
theorem Calls.own_of {P : Program} {f : FuncId} {args : Array Value} {w : World} {n : OwnW w} {v : Value} (h : Calls P f args n.1 fun e w' => e = .returned v ∧ Below n.1.heap.size n.1 w') :
 Calls P f args n.1 fun e w'' => e = .returned v ∧ ∃ m : OwnW w, w'' = m.1 :=
 h.mono fun _ w'' ⟨he, hb⟩ => ⟨he, ⟨w'', bel2v n.2 hb⟩, rfl⟩
theorem ownW_nonempty (w : World) : Nonempty (OwnW w) := ⟨⟨w, Below.refl _ _⟩⟩
end Go.Proofs.YtbebgobboccjcaaGreatDoor
namespace Go.Proofs.YtbebgobboccjcaaGreatDoor
open Go.RowKit Kit
set_option linter.unusedVariables false

theorem bytesOf_append (a b : ByteArray) : bytesOf (a ++ b) = bytesOf a ++ bytesOf b := by
 unfold bytesOf
 rw [ByteArray.data_append, Array.toList_append, List.map_append]
theorem bytesOf_strOf {zs : List Int} (h : bytesIn zs) : bytesOf (strOf zs) = zs := strOf_inj (bytesOf_in _) h (strOf_bytesOf _)
theorem bytesOf_extract (s : ByteArray) : bytesOf (s.extract 1 s.size) = (bytesOf s).drop 1 := by
 rw [extract_strOf, List.take_of_length_le (by rw [List.length_drop, bytesOf_len]; exact Nat.le_refl _), bytesOf_strOf (bytesIn_drop (bytesOf_in s) 1)]
def joinL (ps : List (List Int)) : List Int := ps.flatMap fun p => 47 :: p
theorem joinTo_bytes (l : List ByteArray) : ∀ k, k ≤ l.length → bytesOf (joinTo l k) = joinL ((l.take k).map bytesOf)
 | 0, _ => by simp [joinTo, joinL, bytesOf]
 | k + 1, h => by
   have h1 : k < l.length := by omega
   have e : bytesOf ⟨#[47]⟩ = [47] := rfl
   have e2 : l.getD k ⟨#[]⟩ = l[k] := by simp [List.getD, h1]
   rw [joinTo_step l k h1, bytesOf_append, bytesOf_append, joinTo_bytes l k (by omega), List.take_add_one, List.getElem?_eq_getElem h1, e2]
   rw [Option.toList_some, List.map_append, List.map_cons, List.map_nil]
   unfold joinL
   rw [List.flatMap_append, List.flatMap_cons, List.flatMap_nil, e]
   simp only [List.append_nil, List.append_assoc, List.singleton_append]
theorem cut_joinL : ∀ (p : List Int) (ps : List (List Int)), (∀ q ∈ p :: ps, ∀ x ∈ q, x ≠ 47) → cutL 47 ((joinL (p :: ps)).drop 1) = p :: ps
 | p, [], h => by
   simp only [joinL, List.flatMap_cons, List.flatMap_nil, List.append_nil, List.drop_succ_cons, List.drop_zero]
   exact cutL_free 47 p (h p (by simp))
 | p, q :: ps, h => by
   have ih := cut_joinL q ps (fun r hr => h r (by simp [List.mem_cons.1 hr]))
   have e : (joinL (p :: q :: ps)).drop 1 = p ++ 47 :: (joinL (q :: ps)).drop 1 := by simp [joinL]
   rw [e, cutL_at 47 _ p (h p (by simp)), ih]
theorem split_ok {s : ByteArray} (h : (splitB s).2 = 0) : (s = ⟨#[47]⟩ ∧ (splitB s).1 = []) ∨ (¬ s = ⟨#[47]⟩ ∧ s.size ≤ 200 ∧ (bytesOf s).getD 0 0 = 47 ∧ ¬ s = ⟨#[]⟩ ∧ (splitB s).1 = partsB s ∧ (partsB s).all okB = true ∧ (partsB s).any longB = false ∧ (partsB s).length ≤ 6) := by
 unfold splitB at h ⊢
 split at h
 · rename_i h1; left; rw [if_pos h1]; exact ⟨h1, rfl⟩
 · rename_i h1
   right
   rw [if_neg h1]
   split at h
   · exact absurd h (by decide)
   · rename_i h2
     rw [if_neg h2]
     split at h
     · exact absurd h (by decide)
     · rename_i h3
       rw [if_neg h3]
       split at h
       · exact absurd h (by decide)
       · rename_i h4
         rw [if_neg h4]
         split at h
         · exact absurd h (by decide)
         · rename_i h5
           rw [if_neg h5]
           refine ⟨h1, ?_, ?_, fun e => h2 (.inl e), rfl, by simpa using h3, by simpa using h4, by omega⟩
           · rcases Nat.lt_or_ge 200 s.size with h6 | h6
             · exact absurd (.inr (.inl h6)) h2
             · exact h6
           · by_cases h6 : (bytesOf s).getD 0 0 = 47
             · exact h6
             · exact absurd (.inr (.inr h6)) h2
theorem parts_join (l : List ByteArray) (h0 : l.length ≠ 0) (hf : ∀ q ∈ l, ∀ x ∈ bytesOf q, x ≠ 47) : partsB (joinB l) = l := by
 cases l with
 | nil => simp at h0
 | cons a r =>
   unfold joinB
   rw [if_neg h0]
   unfold partsB
   rw [bytesOf_extract, joinTo_bytes _ _ (Nat.le_refl _), List.take_length, List.map_cons, cut_joinL]
   · rw [← List.map_cons, List.map_map]
     have : ∀ q ∈ a :: r, (strOf ∘ bytesOf) q = q := fun q _ => strOf_bytesOf q
     rw [List.map_congr_left this]; simp
   · intro q hq
     rw [← List.map_cons] at hq
     obtain ⟨p, hp, rfl⟩ := List.mem_map.1 hq
     exact hf p hp
theorem ok_free {q : ByteArray} (h : okB q = true) : ∀ x ∈ bytesOf q, x ≠ 47 := by
 intro x hx e
 unfold okB at h
 simp only [Bool.and_eq_true, List.all_eq_true] at h
 have := h.2 x hx
 rw [e] at this
 exact absurd this (by decide)
theorem split_join_any (l : List ByteArray) (h0 : l.length ≠ 0) (hf : ∀ q ∈ l, ∀ x ∈ bytesOf q, x ≠ 47) (h1 : ¬ joinB l = ⟨#[47]⟩) (hs : (joinB l).size ≤ 200) :
 splitB (joinB l) = if l.all okB = false then ([], 2) else if l.any longB = true then ([], 3) else if 6 < l.length then ([], 4) else (l, 0) := by
 have hb : bytesOf (joinB l) = joinL (l.map bytesOf) := by
  unfold joinB
  rw [if_neg h0, joinTo_bytes _ _ (Nat.le_refl _), List.take_length]
 unfold splitB
 rw [if_neg h1, if_neg, parts_join l h0 hf]
 rintro (h | h | h)
 · rw [h] at hb
   cases l with
   | nil => simp at h0
   | cons a r => simp [joinL, bytesOf] at hb
 · omega
 · rw [hb] at h
   cases l with
   | nil => simp at h0
   | cons a r => simp [joinL] at h
theorem joinB_size {l : List ByteArray} (h0 : l.length ≠ 0) : (joinB l).size = tot l := by
 unfold joinB
 rw [if_neg h0, joinTo_size l _ (Nat.le_refl _), List.take_length]
theorem split_join {l : List ByteArray} (h1 : l.all okB = true) (h2 : l.any longB = false) (h3 : l.length ≤ 6) : splitB (joinB l) = (l, 0) := by
 by_cases h0 : l.length = 0
 · have e : l = [] := List.eq_nil_of_length_eq_zero h0
   subst e
   rfl
 · have hq : ∀ q ∈ l, okB q = true := List.all_eq_true.1 h1
   have hsz : ∀ q ∈ l, q.size ≤ 12 := fun q hm => by
    rw [List.any_eq_false] at h2
    have := h2 q hm
    unfold longB at this
    simpa using this
   have ht := tot_small l hsz
   have hj := joinB_size h0
   rw [split_join_any l h0 (fun q hm => ok_free (hq q hm)) ?_ (by omega), h1, h2]
   · simp; omega
   · intro e
     have e1 : (joinB l).size = 1 := by rw [e]; rfl
     cases l with
     | nil => simp at h0
     | cons a r =>
       have ha := hq a (by simp)
       have : 0 < a.size := size_pos (fun e => by rw [e] at ha; exact absurd ha (by decide))
       rw [hj] at e1
       simp [tot] at e1
       omega
theorem names_ok {s : ByteArray} (h : (splitB s).2 = 0) : (splitB s).1.all okB = true ∧ (splitB s).1.any longB = false ∧ (splitB s).1.length ≤ 6 := by
 rcases split_ok h with ⟨_, h2⟩ | ⟨_, _, _, _, h5, h6, h7, h8⟩
 · rw [h2]; simp
 · rw [h5]; exact ⟨h6, h7, h8⟩
theorem split_take {s : ByteArray} (h : (splitB s).2 = 0) (k : Nat) : splitB (joinB ((splitB s).1.take k)) = ((splitB s).1.take k, 0) := by
 obtain ⟨h1, h2, h3⟩ := names_ok h
 refine split_join ?_ ?_ (by rw [List.length_take]; omega)
 · rw [List.all_eq_true] at *
   exact fun q hq => h1 q (List.mem_of_mem_take hq)
 · rw [List.any_eq_false] at *
   exact fun q hq => h2 q (List.mem_of_mem_take hq)
end Go.Proofs.YtbebgobboccjcaaGreatDoor
namespace Go.Proofs.YtbebgobboccjcaaGreatDoor
open Go.RowKit Kit
set_option linter.unusedVariables false

def posB (out : List ByteArray) (x : ByteArray) : Nat → Nat
 | 0 => 0
 | k + 1 => if (!Op.bytesLess (out.getD k ⟨#[]⟩).toList x.toList && !((out.getD k ⟨#[]⟩).toList == x.toList)) = true then posB out x k else k + 1
def insB (out : List ByteArray) (x : ByteArray) : List ByteArray :=
 if 0 < posB out x out.length ∧ ((out.getD (posB out x out.length - 1) ⟨#[]⟩).toList == x.toList) = true then out else out.take (posB out x out.length) ++ x :: out.drop (posB out x out.length)
def sortedB (l : List ByteArray) : List ByteArray := l.foldl insB []
theorem rowV_stored {w : World} {base g n cap : Nat} {e : TypeId} {xs : List Value} (h : RowV w base e (.slice (some ⟨g, 0, none⟩) n cap) xs) (hn : xs.length = n) (j : Nat) (u : Value) : RowV (w.setCell ⟨g, j, none⟩ u) base e (.slice (some ⟨g, 0, none⟩) n cap) (xs.set j u) := by
 unfold RowV at *
 subst hn
 have := h.stored j u
 rw [List.length_set]; exact this.1
def SIn (w wy : World) (g cp : Nat) (out : List ByteArray) (k : Nat) : Prop :=
 ∃ y, RowV wy w.heap.size 9 (.slice (some ⟨g, 0, none⟩) (out.length + 1) cp) (strs (out.take k ++ y :: out.drop k)) ∧ Below w.heap.size w wy
theorem gap_len (out : List ByteArray) (k : Nat) (y : ByteArray) (hk : k ≤ out.length) : (strs (out.take k ++ y :: out.drop k)).length = out.length + 1 := by
 rw [strs_len]; simp; omega
theorem SIn.bel {w wy : World} {g cp k : Nat} {out : List ByteArray} (h : SIn w wy g cp out k) : Below w.heap.size w wy := by
 obtain ⟨_, _, h⟩ := h; exact h
theorem gap_set (out : List ByteArray) (k : Nat) (y z : ByteArray) (hk : k ≤ out.length) : (strs (out.take k ++ y :: out.drop k)).set k (.string z) = strs (out.take k ++ z :: out.drop k) := by
 have h2 : (out.take k).length = k := by simp; omega
 unfold strs
 rw [← List.map_set, List.set_append_right _ _ (by omega), h2]
 simp
theorem SIn.last {w wy : World} {g cp a : Nat} {out : List ByteArray} (h : SIn w wy g cp out a) (hg : w.heap.size ≤ g) (ha : a ≤ out.length) (x : ByteArray) (hi : insB out x = out.take a ++ x :: out.drop a) :
 RowV (wy.setCell ⟨g, a, none⟩ (.string x)) w.heap.size 9 (.slice (some ⟨g, 0, none⟩) (out.length + 1) cp) (strs (insB out x)) ∧ Below w.heap.size w (wy.setCell ⟨g, a, none⟩ (.string x)) := by
 obtain ⟨y, h1, h2⟩ := h
 refine ⟨?_, h2.setCell (by exact hg) _⟩
 have h3 := rowV_stored h1 (gap_len out _ y ha) a (.string x)
 rw [gap_set out _ y _ ha] at h3
 rw [hi]; exact h3
def SOut (w wr : World) (v : Value) (l : List ByteArray) (i : Nat) : Prop := RowV wr w.heap.size 9 v (strs (sortedB (l.take i))) ∧ (sortedB (l.take i)).length ≤ i ∧ Below w.heap.size w wr
end Go.Proofs.YtbebgobboccjcaaGreatDoor
namespace Go.Proofs.YtbebgobboccjcaaGreatDoor
open Go.RowKit Kit
set_option linter.unusedVariables false

def less (a b : ByteArray) : Prop := Op.bytesLess a.toList b.toList = true
theorem lb_irrefl : ∀ x : List UInt8, Op.bytesLess x x = false
 | [] => rfl
 | a :: x => by simp [Op.bytesLess, lb_irrefl x]
theorem lb_trans : ∀ x y z : List UInt8, Op.bytesLess x y = true → Op.bytesLess y z = true → Op.bytesLess x z = true
 | x, [], z, h, _ => by cases x <;> simp [Op.bytesLess] at h
 | x, _ :: _, [], _, h => by simp [Op.bytesLess] at h
 | [], _ :: _, _ :: _, _, _ => by simp [Op.bytesLess]
 | a :: x, b :: y, c :: z, h, k => by
   simp only [Op.bytesLess, Bool.or_eq_true, Bool.and_eq_true, decide_eq_true_eq, beq_iff_eq] at *
   rcases h with h | ⟨h, h'⟩
   · rcases k with k | ⟨k, k'⟩
     · exact .inl (UInt8.lt_trans h k)
     · subst k; exact .inl h
   · subst h
     rcases k with k | ⟨k, k'⟩
     · exact .inl k
     · exact .inr ⟨k, lb_trans x y z h' k'⟩
theorem lb_tri : ∀ x y : List UInt8, Op.bytesLess x y = true ∨ x = y ∨ Op.bytesLess y x = true
 | [], [] => .inr (.inl rfl)
 | [], _ :: _ => .inl rfl
 | _ :: _, [] => .inr (.inr rfl)
 | a :: x, b :: y => by
   simp only [Op.bytesLess, Bool.or_eq_true, Bool.and_eq_true, decide_eq_true_eq, beq_iff_eq]
   by_cases h1 : a < b
   · exact .inl (.inl h1)
   by_cases h2 : a = b
   · subst h2
     rcases lb_tri x y with h | h | h
     · exact .inl (.inr ⟨rfl, h⟩)
     · exact .inr (.inl (by rw [h]))
     · exact .inr (.inr (.inr ⟨rfl, h⟩))
   · refine .inr (.inr (.inl ?_))
     rw [UInt8.lt_iff_toNat_lt] at *
     have : a.toNat ≠ b.toNat := fun e => h2 (UInt8.toNat_inj.1 e)
     omega
theorem toList_inj {a b : ByteArray} (h : a.toList = b.toList) : a = b := by
 rw [toList_eq_iff] at h
 rw [h]
 simp [ByteArray.toList_eq]
theorem less_irrefl (a : ByteArray) : ¬ less a a := by unfold less; rw [lb_irrefl]; simp
theorem less_trans {a b c : ByteArray} (h : less a b) (k : less b c) : less a c := lb_trans _ _ _ h k
theorem less_or {a b : ByteArray} (h : ¬ less a b) : a = b ∨ less b a := by
 rcases lb_tri a.toList b.toList with h1 | h1 | h1
 · exact absurd h1 h
 · exact .inl (toList_inj h1)
 · exact .inr h1
theorem gt_iff (a b : ByteArray) : (!Op.bytesLess a.toList b.toList && !(a.toList == b.toList)) = true ↔ less b a := by
 rw [bytes_eq]
 constructor
 · intro h
   simp at h
   have h1 : ¬ less a b := by unfold less; rw [h.1]; simp
   rcases less_or h1 with h2 | h2
   · exact absurd h2 h.2
   · exact h2
 · intro h
   have h1 : Op.bytesLess a.toList b.toList = false := by
    cases e : Op.bytesLess a.toList b.toList with
    | false => rfl
    | true => exact absurd (less_trans h e) (less_irrefl _)
   have h2 : a ≠ b := fun e => by subst e; exact less_irrefl _ h
   rw [h1]; simp [h2]
def Rising (l : List ByteArray) : Prop := l.Pairwise less
end Go.Proofs.YtbebgobboccjcaaGreatDoor
namespace Go.Proofs.YtbebgobboccjcaaGreatDoor
open Go.RowKit Kit
set_option linter.unusedVariables false

theorem ret_boolT {a b : Bool} (h : Hid (a = b)) : Ending.returned (.bool b) = .returned (.bool a) := by rw [h.out]
theorem alike_all {l m : List ByteArray} (hl : l.length = m.length) (h : ∀ j, j < l.length → l.getD j ⟨#[]⟩ = m.getD j ⟨#[]⟩) : l = m := by
 apply List.ext_getElem hl
 intro i h1 h2
 have := h i h1
 simpa [List.getD, h1, h2] using this

set_option maxRecDepth 4000 in
set_option maxHeartbeats 2000000 in
theorem texts_any (x y : Value) (l m : List ByteArray) (w : World) (hx : Sees w x (strs l)) (hy : Sees w y (strs m)) :
 Calls Tryz.prog 26 #[x, y] w fun e w' => e = .returned (.bool (decide (l = m))) ∧ Below w.heap.size w w' := by
 obtain ⟨ao, cap, rfl, h1, h2, h3, h4⟩ := hx
 obtain ⟨bo, cap', rfl, g1, g2, g3, g4⟩ := hy
 simp only [strs_len] at *
 by_cases hl : l.length = m.length
 · have hm : (l.length : Int) ≤ 9223372036854775807 := by unfold maxLen at h2; omega
   rw [← hl]
   have HL : Hid (l.length = m.length) := hl
   have H4 : Hid (_ → _) := h4
   have G4 : Hid (_ → _) := g4
   clear h1 h2 h3 g1 g2 g3 hl h4 g4
   go_enter Tryz.func26, Tryz.ntmps26
   go_wp2
   go_loopw [5] (fun i wr => ∃ k : Nat, k ≤ l.length ∧ i = .int .i64 (k : Int) ∧ Hid (∀ j, j < k → l.getD j ⟨#[]⟩ = m.getD j ⟨#[]⟩) ∧ Hid (Below w.heap.size w wr)) (fun i _ => l.length - (intOf i).toNat)
   case atStart => exact ⟨0, Nat.zero_le _, rfl, fun j hj => absurd hj (Nat.not_lt_zero _), Below.refl _ _⟩
   case round =>
    obtain ⟨k, hk, rfl, HE, HB⟩ := hrel
    by_cases hlt : k < l.length
    · obtain ⟨b, off, rfl, hbl, hc⟩ := H4.out (by omega)
      obtain ⟨b', off', rfl, hbl', hc'⟩ := G4.out (by have := HL.out; omega)
      have c0 := (HB.out.cell (by exact hbl)).trans (hc k _ (strs_at l k hlt))
      have c1 := (HB.out.cell (by exact hbl')).trans (hc' k _ (strs_at m k (by have := HL.out; omega)))
      have i0 : (k : Int) < (l.length : Int) := by omega
      have i2 : (0 : Int) ≤ (k : Int) := by omega
      clear hc hc' hbl hbl'
      obtain ⟨x, hx⟩ : ∃ x, l.getD k ⟨#[]⟩ = x := ⟨_, rfl⟩
      obtain ⟨y, hy⟩ : ∃ y, m.getD k ⟨#[]⟩ = y := ⟨_, rfl⟩
      rw [hx] at c0
      rw [hy] at c1
      have HXY : Hid (l.getD k ⟨#[]⟩ = x ∧ m.getD k ⟨#[]⟩ = y) := ⟨hx, hy⟩
      clear hx hy
      by_cases he : x = y
      · subst he
        have HE2 : Hid (∀ j, j < k + 1 → l.getD j ⟨#[]⟩ = m.getD j ⟨#[]⟩) := fun j hj => by
         by_cases hj2 : j = k
         · subst hj2; exact HXY.out.1.trans HXY.out.2.symm
         · exact HE.out j (by omega)
        clear HE HXY
        go_wp2
        go_region
        go_wp2
        go_roundw
        case rel => exact ⟨k + 1, by omega, by simp, HE2.out, HB.out.drew⟩
        case measure => simp [intOf]; omega
      · have hq := bytes_eq x y
        rw [decide_eq_false he] at hq
        have HR : Hid (decide (l = m) = false) := by
         refine decide_eq_false ?_
         intro e
         have h1 := HXY.out.1
         rw [e] at h1
         exact he (h1.symm.trans HXY.out.2)
        clear he HE HXY
        go_wp2
        go_region
        go_wp2
        go_ret
        exact ⟨ret_boolT HR, HB.out.drew⟩
    · have hkl : k = l.length := by omega
      subst hkl
      have HR : Hid (decide (l = m) = true) := decide_eq_true (alike_all HL.out HE.out)
      clear HE
      go_wp2
      go_ret
      exact ⟨ret_boolT HR, HB.out⟩
 · have hb : ((l.length : Int) == (m.length : Int)) = false := beq_eq_false_iff_ne.2 (by omega)
   have HR : Hid (decide (l = m) = false) := decide_eq_false (by intro e; exact hl (by rw [e]))
   clear h1 h2 h3 g1 g2 g3 h4 g4
   go_enter Tryz.func26, Tryz.ntmps26
   go_wp2
   go_ret
   exact ⟨ret_boolT HR, Below.refl _ _⟩
end Go.Proofs.YtbebgobboccjcaaGreatDoor
namespace Go.Proofs.YtbebgobboccjcaaGreatDoor
open Go.RowKit Kit
set_option linter.unusedVariables false

structure NodeB where
 ino : Int
 kind : Int
 data : List Int
 names : List ByteArray
 inos : List Int
structure TreeB where
 nodes : List NodeB
 next : Int
structure OpB where
 kind : Int
 path : ByteArray
 to : ByteArray
 off : Int
 n : Int
 data : List Int
 snap : Int
structure ReplyB where
 ino : Int
 kind : Int
 size : Int
 links : Int
 n : Int
 data : List Int
 names : List ByteArray
 snaps : List Int
def noNode : NodeB := ⟨0, 0, [], [], []⟩
def noReply : ReplyB := ⟨0, 0, 0, 0, 0, [], [], []⟩
def newB : TreeB := ⟨[⟨1, 2, [], [], []⟩], 2⟩
def nodeAt (t : TreeB) (k : Nat) : NodeB := t.nodes.getD k noNode
def placeO (t : TreeB) (ino : Int) : Option Nat := t.nodes.findIdx? fun n => n.ino == ino
def placeB (t : TreeB) (ino : Int) : Int := match placeO t ino with
 | some k => k
 | none => -1
def nameB (n : NodeB) (s : ByteArray) : Int := if n.kind = 2 then (match n.names.findIdx? fun q => decide (q = s) with
 | some i => n.inos.getD i 0
 | none => 0) else 0
def walkB (t : TreeB) : Nat → List ByteArray → Except Int Nat
 | k, [] => .ok k
 | k, s :: r => if (nodeAt t k).kind ≠ 2 then .error 8 else if nameB (nodeAt t k) s = 0 then .error 5 else walkB t ((placeO t (nameB (nodeAt t k) s)).getD 0) r
def rootP (t : TreeB) : Nat := (placeO t 1).getD 0
def findB (t : TreeB) (path : ByteArray) : Except Int Nat := if (splitB path).2 ≠ 0 then .error (splitB path).2 else walkB t (rootP t) (splitB path).1
def sizeB (n : NodeB) : Nat := if n.kind = 1 then n.data.length else n.names.length
def countB (n : NodeB) (ino : Int) : Nat := if n.kind = 2 then n.inos.count ino else 0
def linksB (t : TreeB) (ino : Int) : Nat := if (placeO t ino).isNone then 0 else if ino = 1 then 1 else (t.nodes.map fun n => countB n ino).sum
def goesB (names : List ByteArray) (s : ByteArray) : Nat := (names.findIdx? fun q => Op.bytesLess s.toList q.toList).getD names.length
def withB (n : NodeB) (s : ByteArray) (i : Int) : NodeB := ⟨n.ino, n.kind, [], n.names.take (goesB n.names s) ++ s :: n.names.drop (goesB n.names s), n.inos.take (goesB n.names s) ++ i :: n.inos.drop (goesB n.names s)⟩
def pairsB (n : NodeB) : List (ByteArray × Int) := n.names.zip n.inos
def withoutB (n : NodeB) (s : ByteArray) : NodeB := ⟨n.ino, n.kind, [], ((pairsB n).filter fun p => decide (p.1 ≠ s)).map Prod.fst, ((pairsB n).filter fun p => decide (p.1 ≠ s)).map Prod.snd⟩
def sweptB (t : TreeB) : TreeB := ⟨t.nodes.filter fun n => decide (0 < linksB t n.ino), t.next⟩
def setB (t : TreeB) (k : Nat) (n : NodeB) : TreeB := ⟨t.nodes.set k n, t.next⟩
def homeB (t : TreeB) (path : ByteArray) : Except Int (Nat × ByteArray) :=
 if (parentB path).2.2 ≠ 0 then .error (parentB path).2.2 else match findB t (parentB path).1 with
 | .error e => .error e
 | .ok d => if (nodeAt t d).kind ≠ 2 then .error 8 else .ok (d, (parentB path).2.1)
def makesB (t : TreeB) (o : OpB) : TreeB × ReplyB × Int := match homeB t o.path with
 | .error e => (t, noReply, e)
 | .ok (d, s) => if nameB (nodeAt t d) s ≠ 0 then (t, noReply, 6) else if 60 ≤ t.nodes.length ∨ 1099511627776 ≤ t.next then (t, noReply, 16)
   else (⟨t.nodes.set d (withB (nodeAt t d) s t.next) ++ [⟨t.next, if o.kind = 2 then 2 else 1, [], [], []⟩], t.next + 1⟩, { noReply with ino := t.next }, 0)
def removesB (t : TreeB) (o : OpB) : TreeB × ReplyB × Int :=
 if (parentB o.path).2.2 ≠ 0 then (t, noReply, (parentB o.path).2.2) else match findB t o.path with
 | .error e => (t, noReply, e)
 | .ok k => if o.kind = 3 ∧ (nodeAt t k).kind = 2 then (t, noReply, 7) else if o.kind = 4 ∧ (nodeAt t k).kind = 1 then (t, noReply, 8) else if o.kind = 4 ∧ 0 < (nodeAt t k).names.length then (t, noReply, 9)
   else match homeB t o.path with
   | .error _ => (t, noReply, 0)
   | .ok (d, s) => (sweptB (setB t d (withoutB (nodeAt t d) s)), noReply, 0)
def movedB (x : TreeB) (p : Nat) (old : ByteArray) (d : Nat) (s : ByteArray) (i : Int) : TreeB :=
 setB (setB x p (withoutB (nodeAt x p) old)) d (withB (nodeAt (setB x p (withoutB (nodeAt x p) old)) d) s i)
def renameB (t : TreeB) (o : OpB) : TreeB × ReplyB × Int :=
 if (parentB o.path).2.2 ≠ 0 then (t, noReply, (parentB o.path).2.2) else if (parentB o.to).2.2 ≠ 0 then (t, noReply, (parentB o.to).2.2) else match findB t o.path with
 | .error e => (t, noReply, e)
 | .ok k => if (nodeAt t k).kind = 2 ∧ o.to ≠ o.path ∧ underB o.to o.path = true then (t, noReply, 10) else match homeB t o.to with
   | .error e => (t, noReply, e)
   | .ok (d, s) => match homeB t o.path with
     | .error _ => (t, noReply, 0)
     | .ok (p, old) =>
       if nameB (nodeAt t d) s ≠ 0 then
        if nameB (nodeAt t d) s = (nodeAt t k).ino then (t, noReply, 0) else
        if (nodeAt t k).kind = 2 ∧ (nodeAt t ((placeO t (nameB (nodeAt t d) s)).getD 0)).kind = 1 then (t, noReply, 8) else
        if (nodeAt t k).kind = 1 ∧ (nodeAt t ((placeO t (nameB (nodeAt t d) s)).getD 0)).kind = 2 then (t, noReply, 7) else
        if 0 < (nodeAt t ((placeO t (nameB (nodeAt t d) s)).getD 0)).names.length then (t, noReply, 9) else
        (sweptB (movedB (setB t d (withoutB (nodeAt t d) s)) p old d s (nodeAt t k).ino), noReply, 0)
       else (sweptB (movedB t p old d s (nodeAt t k).ino), noReply, 0)
def linkB (t : TreeB) (o : OpB) : TreeB × ReplyB × Int :=
 if (parentB o.to).2.2 ≠ 0 then (t, noReply, (parentB o.to).2.2) else match findB t o.path with
 | .error e => (t, noReply, e)
 | .ok k => if (nodeAt t k).kind = 2 then (t, noReply, 7) else match homeB t o.to with
   | .error e => (t, noReply, e)
   | .ok (d, s) => if nameB (nodeAt t d) s ≠ 0 then (t, noReply, 6) else if 20 ≤ linksB t (nodeAt t k).ino then (t, noReply, 16)
     else (setB t d (withB (nodeAt t d) s (nodeAt t k).ino), noReply, 0)
def bytesB (b : List Int) (n : Nat) : List Int := b.take n ++ List.replicate (n - b.length) 0
def laidB (b : List Int) (off : Nat) (d : List Int) : List Int := b.take off ++ d ++ b.drop (off + d.length)
def dataB (t : TreeB) (k : Nat) (b : List Int) : TreeB := setB t k { nodeAt t k with data := b }
def fileB (t : TreeB) (o : OpB) : TreeB × ReplyB × Int := match findB t o.path with
 | .error e => (t, noReply, e)
 | .ok k => if (nodeAt t k).kind = 2 then (t, noReply, 7) else
   if o.kind = 7 then (if o.off < 0 ∨ o.n < 0 then (t, noReply, 12) else (t, { noReply with data := ((nodeAt t k).data.drop o.off.toNat).take o.n.toNat }, 0)) else
   if o.kind = 8 then (if o.off < 0 ∨ 2000 < o.off ∨ 2000 - o.off < (o.data.length : Int) then (t, noReply, 12) else if o.data.length = 0 then (t, noReply, 0) else
    (dataB t k (laidB (bytesB (nodeAt t k).data (max (nodeAt t k).data.length (o.off.toNat + o.data.length))) o.off.toNat o.data), { noReply with n := o.data.length }, 0)) else
   if o.n < 0 ∨ 2000 < o.n then (t, noReply, 12) else (dataB t k (bytesB (nodeAt t k).data o.n.toNat), noReply, 0)
def looksB (t : TreeB) (o : OpB) : TreeB × ReplyB × Int := match findB t o.path with
 | .error e => (t, noReply, e)
 | .ok k => if o.kind = 10 then (t, { noReply with ino := (nodeAt t k).ino, kind := (nodeAt t k).kind, size := sizeB (nodeAt t k), links := linksB t (nodeAt t k).ino }, 0) else
   if (nodeAt t k).kind ≠ 2 then (t, noReply, 8) else (t, { noReply with names := (nodeAt t k).names }, 0)
def doB (t : TreeB) (o : OpB) : TreeB × ReplyB × Int :=
 if o.kind = 1 ∨ o.kind = 2 then makesB t o else if o.kind = 3 ∨ o.kind = 4 then removesB t o else if o.kind = 5 then renameB t o else if o.kind = 6 then linkB t o else
 if o.kind = 7 ∨ o.kind = 8 ∨ o.kind = 9 then fileB t o else if o.kind = 10 ∨ o.kind = 11 then looksB t o else (t, noReply, 1)
end Go.Proofs.YtbebgobboccjcaaGreatDoor
namespace Go.Proofs.YtbebgobboccjcaaGreatDoor
open Go.RowKit Kit
set_option linter.unusedVariables false

theorem sum_set {α : Type} (f : α → Nat) (x : α) : ∀ (l : List α) (d : Nat) (h : d < l.length), ((l.set d x).map f).sum + f l[d] = (l.map f).sum + f x
 | a :: l, 0, _ => by simp; omega
 | a :: l, d + 1, h => by
   have := sum_set f x l d (by simpa using h)
   simp only [List.set_cons_succ, List.map_cons, List.sum_cons, List.getElem_cons_succ]
   omega
theorem sum_pos {α : Type} {f : α → Nat} : ∀ {l : List α}, 0 < (l.map f).sum → ∃ x ∈ l, 0 < f x
 | [], h => by simp at h
 | a :: l, h => by
   simp only [List.map_cons, List.sum_cons] at h
   rcases Nat.eq_zero_or_pos (f a) with h0 | h0
   · obtain ⟨x, hx, h1⟩ := sum_pos (l := l) (f := f) (by omega)
     exact ⟨x, by simp [hx], h1⟩
   · exact ⟨a, by simp, h0⟩
theorem sum_ge {α : Type} {f : α → Nat} : ∀ {l : List α} {x : α}, x ∈ l → f x ≤ (l.map f).sum
 | a :: l, x, h => by
   simp only [List.map_cons, List.sum_cons]
   rcases List.mem_cons.1 h with h | h
   · subst h; omega
   · have := sum_ge (f := f) h; omega
theorem sum_two_ge {α : Type} {f : α → Nat} : ∀ {l : List α} {i j : Nat} (hi : i < l.length) (hj : j < l.length), i ≠ j → f l[i] + f l[j] ≤ (l.map f).sum
 | a :: l, 0, 0, _, _, h => absurd rfl h
 | a :: l, 0, j + 1, _, hj, _ => by
   have := sum_ge (f := f) (List.getElem_mem (l := l) (n := j) (by simpa using hj))
   simp only [List.map_cons, List.sum_cons, List.getElem_cons_zero, List.getElem_cons_succ]
   omega
 | a :: l, i + 1, 0, hi, _, _ => by
   have := sum_ge (f := f) (List.getElem_mem (l := l) (n := i) (by simpa using hi))
   simp only [List.map_cons, List.sum_cons, List.getElem_cons_zero, List.getElem_cons_succ]
   omega
 | a :: l, i + 1, j + 1, hi, hj, h => by
   have := sum_two_ge (f := f) (l := l) (i := i) (j := j) (by simpa using hi) (by simpa using hj) (by omega)
   simp only [List.map_cons, List.sum_cons, List.getElem_cons_succ]
   omega
theorem nodeAt_eq (t : TreeB) (k : Nat) (h : k < t.nodes.length) : nodeAt t k = t.nodes[k] := by simp [nodeAt, List.getD, h]
theorem nodeAt_mem {t : TreeB} {k : Nat} (h : k < t.nodes.length) : nodeAt t k ∈ t.nodes := by rw [nodeAt_eq t k h]; exact List.getElem_mem h
theorem placeO_some {t : TreeB} {i : Int} {k : Nat} (h : placeO t i = some k) : k < t.nodes.length ∧ (nodeAt t k).ino = i := by
 unfold placeO at h
 obtain ⟨hk, h1, _⟩ := List.findIdx?_eq_some_iff_getElem.1 h
 exact ⟨hk, by rw [nodeAt_eq t k hk]; simpa using h1⟩
theorem placeO_none {t : TreeB} {i : Int} (h : placeO t i = none) : ∀ n ∈ t.nodes, n.ino ≠ i := by
 unfold placeO at h
 rw [List.findIdx?_eq_none_iff] at h
 intro n hn
 simpa using h n hn
theorem placeO_of {t : TreeB} {n : NodeB} (h : n ∈ t.nodes) : ∃ k, placeO t n.ino = some k := by
 cases hk : placeO t n.ino with
 | none => exact absurd rfl (placeO_none hk n h)
 | some k => exact ⟨k, rfl⟩
def Rises (t : TreeB) : Prop := t.nodes.Pairwise fun a b => a.ino < b.ino
theorem rises_inj {t : TreeB} (h : Rises t) {i j : Nat} (hi : i < t.nodes.length) (hj : j < t.nodes.length) (e : (nodeAt t i).ino = (nodeAt t j).ino) : i = j := by
 rw [nodeAt_eq t i hi, nodeAt_eq t j hj] at e
 rcases Nat.lt_trichotomy i j with h1 | h1 | h1
 · have := List.pairwise_iff_getElem.1 h i j hi hj h1; omega
 · exact h1
 · have := List.pairwise_iff_getElem.1 h j i hj hi h1; omega
theorem rises_eq {t : TreeB} (h : Rises t) {m n : NodeB} (hm : m ∈ t.nodes) (hn : n ∈ t.nodes) (e : m.ino = n.ino) : m = n := by
 obtain ⟨i, hi, rfl⟩ := List.mem_iff_getElem.1 hm
 obtain ⟨j, hj, rfl⟩ := List.mem_iff_getElem.1 hn
 have := rises_inj h hi hj (by rw [nodeAt_eq t i hi, nodeAt_eq t j hj]; exact e)
 subst this; rfl
theorem placeO_at {t : TreeB} (h : Rises t) {k : Nat} (hk : k < t.nodes.length) : placeO t (nodeAt t k).ino = some k := by
 obtain ⟨j, hj⟩ := placeO_of (nodeAt_mem hk)
 obtain ⟨h1, h2⟩ := placeO_some hj
 rw [hj, rises_inj h h1 hk h2]
theorem nameB_some {n : NodeB} {s : ByteArray} (hl : n.names.length = n.inos.length) (h : nameB n s ≠ 0) : n.kind = 2 ∧ ∃ i, ∃ hi : i < n.names.length, n.names[i] = s ∧ n.inos[i]'(by omega) = nameB n s := by
 unfold nameB at h
 split at h
 · rename_i hk
   refine ⟨hk, ?_⟩
   cases hf : n.names.findIdx? fun q => decide (q = s) with
   | none => rw [hf] at h; exact absurd rfl h
   | some i =>
     obtain ⟨hi, h1, _⟩ := List.findIdx?_eq_some_iff_getElem.1 hf
     refine ⟨i, hi, by simpa using h1, ?_⟩
     unfold nameB
     rw [if_pos hk, hf]
     simp [List.getD, show i < n.inos.length by omega]
 · exact absurd rfl h
theorem nameB_zero {n : NodeB} {s : ByteArray} (hk : n.kind = 2) (hl : n.names.length = n.inos.length) (hz : ∀ i ∈ n.inos, i ≠ 0) (h : nameB n s = 0) : s ∉ n.names := by
 intro hs
 unfold nameB at h
 rw [if_pos hk] at h
 cases hf : n.names.findIdx? fun q => decide (q = s) with
 | none =>
   rw [List.findIdx?_eq_none_iff] at hf
   have := hf s hs
   simp at this
 | some i =>
   obtain ⟨hi, _, _⟩ := List.findIdx?_eq_some_iff_getElem.1 hf
   rw [hf] at h
   have h2 : i < n.inos.length := by omega
   simp [List.getD, h2] at h
   exact hz _ (List.getElem_mem h2) h
theorem rising_nodup {l : List ByteArray} (h : Rising l) : l.Nodup := by
 unfold Rising at h
 refine List.Pairwise.imp ?_ h
 intro a b hab e
 subst e
 exact less_irrefl _ hab
theorem nameB_at {n : NodeB} (hk : n.kind = 2) (hl : n.names.length = n.inos.length) (hr : Rising n.names) {i : Nat} (hi : i < n.names.length) : nameB n n.names[i] = n.inos[i]'(by omega) := by
 unfold nameB
 rw [if_pos hk]
 have hf : (n.names.findIdx? fun q => decide (q = n.names[i])) = some i := by
  rw [List.findIdx?_eq_some_iff_getElem]
  refine ⟨hi, by simp, ?_⟩
  intro j hj
  have hn := rising_nodup hr
  simp only [decide_eq_true_eq]
  intro e
  exact List.pairwise_iff_getElem.1 hn j i (by omega) hi hj e
 rw [hf]
 simp [List.getD, show i < n.inos.length by omega]
theorem count_with (n : NodeB) (s : ByteArray) (a i : Int) : (withB n s a).inos.count i = n.inos.count i + if a = i then 1 else 0 := by
 unfold withB
 simp only [List.count_append, List.count_cons, beq_iff_eq]
 have : n.inos.count i = (n.inos.take (goesB n.names s)).count i + (n.inos.drop (goesB n.names s)).count i := by
  rw [← List.count_append, List.take_append_drop]
 omega
theorem zip_filter_count : ∀ (l : List ByteArray) (m : List Int) (s : ByteArray) (i : Int), l.length = m.length → l.Nodup → s ∉ l → (((l.zip m).filter fun p => decide (p.1 ≠ s)).map Prod.snd) = m
 | [], [], s, i, _, _, _ => rfl
 | a :: l, b :: m, s, i, hl, hn, hs => by
   simp only [List.mem_cons, not_or] at hs
   have hn2 := (List.nodup_cons.1 hn).2
   have ih := zip_filter_count l m s i (by simpa using hl) hn2 hs.2
   rw [List.zip_cons_cons, List.filter_cons_of_pos (by simp; exact fun e => hs.1 e.symm), List.map_cons, ih]
 | [], _ :: _, _, _, h, _, _ => by simp at h
 | _ :: _, [], _, _, h, _, _ => by simp at h
theorem without_inos : ∀ (l : List ByteArray) (m : List Int) (k : Nat) (hk : k < l.length), l.length = m.length → l.Nodup → (((l.zip m).filter fun p => decide (p.1 ≠ l[k])).map Prod.snd) = m.eraseIdx k
 | a :: l, b :: m, 0, _, hl, hn => by
   obtain ⟨h1, h2⟩ := List.nodup_cons.1 hn
   rw [List.zip_cons_cons, List.filter_cons_of_neg (by simp), List.getElem_cons_zero, zip_filter_count l m a 0 (by simpa using hl) h2 h1]
   rfl
 | a :: l, b :: m, k + 1, hk, hl, hn => by
   obtain ⟨h1, h2⟩ := List.nodup_cons.1 hn
   have hk2 : k < l.length := by simpa using hk
   have ih := without_inos l m k hk2 (by simpa using hl) h2
   rw [List.zip_cons_cons, List.getElem_cons_succ, List.filter_cons_of_pos (by simp; intro e; exact h1 (e ▸ List.getElem_mem hk2)), List.map_cons, ih]
   rfl
 | _ :: _, [], _, _, h, _ => by simp at h
theorem names_without_keep : ∀ (l : List ByteArray) (m : List Int) (s : ByteArray), l.length = m.length → (((l.zip m).filter fun p => decide (p.1 ≠ s)).map Prod.fst) = l.filter fun q => decide (q ≠ s)
 | [], [], s, _ => rfl
 | a :: l, b :: m, s, hl => by
   have ih := names_without_keep l m s (by simpa using hl)
   rw [List.zip_cons_cons]
   by_cases h : a = s
   · rw [List.filter_cons_of_neg (by simp [h]), List.filter_cons_of_neg (by simp [h]), ih]
   · rw [List.filter_cons_of_pos (by simp [h]), List.filter_cons_of_pos (by simp [h]), List.map_cons, ih]
 | [], _ :: _, _, h => by simp at h
 | _ :: _, [], _, h => by simp at h
end Go.Proofs.YtbebgobboccjcaaGreatDoor
namespace Go.Proofs.YtbebgobboccjcaaGreatDoor
open Go.RowKit Kit
set_option linter.unusedVariables false

def NodeOK (n : NodeB) : Prop := Rising n.names ∧ (∀ s ∈ n.names, okB s = true ∧ s.size ≤ 12) ∧ ((n.kind = 2 ∧ n.data = [] ∧ n.names.length = n.inos.length) ∨ (n.kind = 1 ∧ n.names = [] ∧ n.inos = [] ∧ n.data.length ≤ 2000 ∧ bytesIn n.data))
def kidsB (t : TreeB) (i : Int) : Nat := (t.nodes.map fun n => n.inos.count i).sum
def IsDir (t : TreeB) (i : Int) : Prop := ∃ m ∈ t.nodes, m.ino = i ∧ m.kind = 2
structure GoodE (e : Int) (t : TreeB) : Prop where
 root : ∃ r l, t.nodes = r :: l ∧ r.ino = 1 ∧ r.kind = 2
 size : t.nodes.length ≤ 60
 next : t.next ≤ 1099511627776
 rise : Rises t
 below : ∀ n ∈ t.nodes, n.ino < t.next
 each : ∀ n ∈ t.nodes, NodeOK n
 leads : ∀ n ∈ t.nodes, ∀ i ∈ n.inos, i ≠ 1 ∧ ∃ m ∈ t.nodes, m.ino = i
 many : ∀ i, kidsB t i ≤ 20
 once : ∀ m ∈ t.nodes, m.kind = 2 → kidsB t m.ino ≤ 1
 free : ∀ m ∈ t.nodes, m.ino ≠ 1 → kidsB t m.ino = 0 → m.inos = [] ∨ m.ino = e
 rank : ∃ r : Int → Nat, ∀ n ∈ t.nodes, ∀ i ∈ n.inos, IsDir t i → r n.ino < r i
def Good (t : TreeB) : Prop := GoodE 0 t ∧ ∀ m ∈ t.nodes, m.ino ≠ 1 → 0 < kidsB t m.ino

theorem NodeOK.len {n : NodeB} (h : NodeOK n) : n.names.length = n.inos.length := by
 rcases h.2.2 with h | h
 · exact h.2.2
 · rw [h.2.1, h.2.2.1]; rfl
theorem NodeOK.dir {n : NodeB} (h : NodeOK n) (hi : n.inos ≠ []) : n.kind = 2 := by
 rcases h.2.2 with h | h
 · exact h.1
 · exact absurd h.2.2.1 hi
theorem GoodE.pos {e : Int} {t : TreeB} (h : GoodE e t) : ∀ n ∈ t.nodes, 1 ≤ n.ino := by
 obtain ⟨r, l, hl, h1, _⟩ := h.root
 intro n hn
 have hr := h.rise
 unfold Rises at hr
 rw [hl] at hr hn
 rcases List.mem_cons.1 hn with hn | hn
 · rw [hn, h1]; omega
 · have := (List.pairwise_cons.1 hr).1 n hn
   omega
theorem GoodE.one {e : Int} {t : TreeB} (h : GoodE e t) : placeO t 1 = some 0 := by
 obtain ⟨r, l, hl, h1, _⟩ := h.root
 unfold placeO
 rw [hl]
 simp [List.findIdx?_cons, h1]
theorem GoodE.root0 {e : Int} {t : TreeB} (h : GoodE e t) : 0 < t.nodes.length ∧ (nodeAt t 0).ino = 1 ∧ (nodeAt t 0).kind = 2 := by
 obtain ⟨r, l, hl, h1, h2⟩ := h.root
 refine ⟨by rw [hl]; simp, ?_, ?_⟩
 · simp [nodeAt, hl, h1]
 · simp [nodeAt, hl, h2]
theorem countB_eq {n : NodeB} (h : NodeOK n) (i : Int) : countB n i = n.inos.count i := by
 unfold countB
 rcases h.2.2 with h | h
 · rw [if_pos h.1]
 · rw [h.2.2.1]; simp
theorem links_kids {e : Int} {t : TreeB} (h : GoodE e t) {m : NodeB} (hm : m ∈ t.nodes) (h1 : m.ino ≠ 1) : linksB t m.ino = kidsB t m.ino := by
 unfold linksB
 obtain ⟨k, hk⟩ := placeO_of hm
 rw [hk, if_neg (by simp), if_neg h1]
 unfold kidsB
 congr 1
 apply List.map_congr_left
 intro n hn
 exact countB_eq (h.each n hn) _
theorem links_root {e : Int} {t : TreeB} (h : GoodE e t) : linksB t 1 = 1 := by
 unfold linksB
 rw [h.one]; simp
theorem kids_pos {t : TreeB} {i : Int} : 0 < kidsB t i ↔ ∃ n ∈ t.nodes, i ∈ n.inos := by
 unfold kidsB
 constructor
 · intro h
   obtain ⟨n, hn, h1⟩ := sum_pos h
   exact ⟨n, hn, List.count_pos_iff.1 h1⟩
 · rintro ⟨n, hn, h1⟩
   have := sum_ge (f := fun n : NodeB => n.inos.count i) hn
   have h2 := List.count_pos_iff.2 h1
   omega
theorem once_home {t : TreeB} {i : Int} (h : kidsB t i ≤ 1) {p q : Nat} (hp : p < t.nodes.length) (hq : q < t.nodes.length) (h1 : i ∈ (nodeAt t p).inos) (h2 : i ∈ (nodeAt t q).inos) : p = q := by
 by_cases e : p = q
 · exact e
 · exfalso
   have := sum_two_ge (f := fun n : NodeB => n.inos.count i) hp hq e
   rw [nodeAt_eq t p hp] at h1
   rw [nodeAt_eq t q hq] at h2
   have h3 := List.count_pos_iff.2 h1
   have h4 := List.count_pos_iff.2 h2
   unfold kidsB at h
   omega
theorem count_index : ∀ {l : List Int} {i : Int} {a b : Nat} (ha : a < l.length) (hb : b < l.length), l.count i ≤ 1 → l[a] = i → l[b] = i → a = b
 | x :: l, i, 0, 0, _, _, _, _, _ => rfl
 | x :: l, i, 0, b + 1, _, hb, hc, h1, h2 => by
   simp only [List.getElem_cons_zero, List.getElem_cons_succ] at h1 h2
   subst h1
   have : x ∈ l := h2 ▸ List.getElem_mem (by simpa using hb)
   have := List.count_pos_iff.2 this
   rw [List.count_cons] at hc
   simp at hc
   omega
 | x :: l, i, a + 1, 0, ha, _, hc, h1, h2 => by
   simp only [List.getElem_cons_zero, List.getElem_cons_succ] at h1 h2
   subst h2
   have : x ∈ l := h1 ▸ List.getElem_mem (by simpa using ha)
   have := List.count_pos_iff.2 this
   rw [List.count_cons] at hc
   simp at hc
   omega
 | x :: l, i, a + 1, b + 1, ha, hb, hc, h1, h2 => by
   simp only [List.getElem_cons_succ] at h1 h2
   have := count_index (l := l) (i := i) (a := a) (b := b) (by simpa using ha) (by simpa using hb) (by rw [List.count_cons] at hc; omega) h1 h2
   omega
theorem kids_set (t : TreeB) (d : Nat) (n : NodeB) (h : d < t.nodes.length) (i : Int) : kidsB (setB t d n) i + (nodeAt t d).inos.count i = kidsB t i + n.inos.count i := by
 have := sum_set (fun n : NodeB => n.inos.count i) n t.nodes d h
 rw [nodeAt_eq t d h]
 exact this
theorem newB_good : Good newB := by
 refine ⟨⟨⟨_, _, rfl, rfl, rfl⟩, by decide, by decide, ?_, ?_, ?_, ?_, ?_, ?_, ?_, ⟨fun _ => 0, ?_⟩⟩, ?_⟩
 · unfold Rises newB; simp
 · intro n hn; simp [newB] at hn; subst hn; decide
 · intro n hn
   simp [newB] at hn
   subst hn
   exact ⟨List.Pairwise.nil, by simp, .inl ⟨rfl, rfl, rfl⟩⟩
 · intro n hn i hi; simp [newB] at hn; subst hn; simp at hi
 · intro i; simp [kidsB, newB]
 · intro m _ _; simp [kidsB, newB]
 · intro m hm h1; simp [newB] at hm; subst hm; exact absurd rfl h1
 · intro n hn i hi; simp [newB] at hn; subst hn; simp at hi
 · intro m hm h1; simp [newB] at hm; subst hm; exact absurd rfl h1
end Go.Proofs.YtbebgobboccjcaaGreatDoor
namespace Go.Proofs.YtbebgobboccjcaaGreatDoor
open Go.RowKit Kit
set_option linter.unusedVariables false

theorem set_inos {t : TreeB} {d : Nat} {n : NodeB} (hd : d < t.nodes.length) (hi : n.ino = (nodeAt t d).ino) : (setB t d n).nodes.map NodeB.ino = t.nodes.map NodeB.ino := by
 unfold setB
 rw [List.map_set, hi, nodeAt_eq t d hd]
 apply List.ext_getElem
 · simp
 · intro i h1 h2
   rw [List.getElem_set]
   split
   · rename_i e; subst e; simp
   · rfl
theorem rises_map {t : TreeB} : Rises t ↔ (t.nodes.map NodeB.ino).Pairwise (fun a b => a < b) := by
 unfold Rises; rw [List.pairwise_map]
theorem set_len (t : TreeB) (d : Nat) (n : NodeB) : (setB t d n).nodes.length = t.nodes.length := by simp [setB]
theorem set_mem {t : TreeB} {d : Nat} {n m : NodeB} (h : m ∈ (setB t d n).nodes) : m ∈ t.nodes ∨ m = n := List.mem_or_eq_of_mem_set h
theorem set_self {t : TreeB} {d : Nat} (n : NodeB) (hd : d < t.nodes.length) : n ∈ (setB t d n).nodes := by
 unfold setB
 exact List.mem_iff_getElem.2 ⟨d, by simpa using hd, by simp⟩
theorem set_at {t : TreeB} {d : Nat} {n : NodeB} (hd : d < t.nodes.length) : nodeAt (setB t d n) d = n := by simp [nodeAt, setB, hd]
theorem set_at_ne {t : TreeB} {d k : Nat} {n : NodeB} (h : d ≠ k) : nodeAt (setB t d n) k = nodeAt t k := by
 unfold nodeAt setB
 simp [List.getD, h]
theorem set_other {t : TreeB} {d : Nat} {n m : NodeB} (hm : m ∈ t.nodes) (h : m.ino ≠ (nodeAt t d).ino) : m ∈ (setB t d n).nodes := by
 obtain ⟨k, hk, rfl⟩ := List.mem_iff_getElem.1 hm
 refine List.mem_iff_getElem.2 ⟨k, by simpa [setB] using hk, ?_⟩
 unfold setB
 rw [List.getElem_set]
 split
 · rename_i e; subst e; rw [nodeAt_eq t d hk] at h; exact absurd rfl h
 · rfl
theorem set_has {t : TreeB} {d : Nat} {n : NodeB} (hd : d < t.nodes.length) (hi : n.ino = (nodeAt t d).ino) (i : Int) : (∃ m ∈ (setB t d n).nodes, m.ino = i) ↔ ∃ m ∈ t.nodes, m.ino = i := by
 have e := set_inos hd hi
 have k : ∀ l : List NodeB, (∃ m ∈ l, m.ino = i) ↔ i ∈ l.map NodeB.ino := fun l => by simp
 rw [k, k, e]
theorem set_dir {t : TreeB} {d : Nat} {n : NodeB} (hr : Rises t) (hd : d < t.nodes.length) (hi : n.ino = (nodeAt t d).ino) (hk : n.kind = (nodeAt t d).kind) (i : Int) : IsDir (setB t d n) i ↔ IsDir t i := by
 constructor
 · rintro ⟨m, hm, h1, h2⟩
   rcases set_mem hm with h | h
   · exact ⟨m, h, h1, h2⟩
   · subst h; exact ⟨nodeAt t d, nodeAt_mem hd, hi ▸ h1, hk ▸ h2⟩
 · rintro ⟨m, hm, h1, h2⟩
   by_cases e : m.ino = (nodeAt t d).ino
   · have := rises_eq hr hm (nodeAt_mem hd) e
     subst this
     exact ⟨n, set_self n hd, hi ▸ h1, hk ▸ h2⟩
   · exact ⟨m, set_other hm e, h1, h2⟩
theorem good_set {e e' : Int} {t : TreeB} {d : Nat} {n : NodeB} (h : GoodE e t) (hd : d < t.nodes.length) (hi : n.ino = (nodeAt t d).ino) (hk : n.kind = (nodeAt t d).kind) (ok : NodeOK n)
 (lead : ∀ i ∈ n.inos, i ≠ 1 ∧ ∃ m ∈ t.nodes, m.ino = i) (many : ∀ i, kidsB (setB t d n) i ≤ 20) (once : ∀ i, IsDir t i → kidsB (setB t d n) i ≤ 1)
 (free : ∀ m ∈ (setB t d n).nodes, m.ino ≠ 1 → kidsB (setB t d n) m.ino = 0 → m.inos = [] ∨ m.ino = e')
 (rank : ∃ r : Int → Nat, (∀ m ∈ t.nodes, m.ino ≠ (nodeAt t d).ino → ∀ i ∈ m.inos, IsDir t i → r m.ino < r i) ∧ ∀ i ∈ n.inos, IsDir t i → r n.ino < r i) : GoodE e' (setB t d n) := by
 refine ⟨?_, by rw [set_len]; exact h.size, h.next, ?_, ?_, ?_, ?_, many, ?_, free, ?_⟩
 · obtain ⟨r, l, hl, h1, h2⟩ := h.root
   cases d with
   | zero =>
     have e0 : nodeAt t 0 = r := by simp [nodeAt, hl]
     exact ⟨n, l, by simp [setB, hl], by rw [hi, e0]; exact h1, by rw [hk, e0]; exact h2⟩
   | succ d => exact ⟨r, l.set d n, by simp [setB, hl], h1, h2⟩
 · rw [rises_map, set_inos hd hi, ← rises_map]; exact h.rise
 · intro m hm
   rcases set_mem hm with h1 | h1
   · exact h.below m h1
   · rw [h1, hi]; exact h.below _ (nodeAt_mem hd)
 · intro m hm
   rcases set_mem hm with h1 | h1
   · exact h.each m h1
   · rw [h1]; exact ok
 · intro m hm i hmi
   rcases set_mem hm with h1 | h1
   · exact ⟨(h.leads m h1 i hmi).1, (set_has hd hi i).2 (h.leads m h1 i hmi).2⟩
   · subst h1; exact ⟨(lead i hmi).1, (set_has hd hi i).2 (lead i hmi).2⟩
 · intro m hm h2
   exact once m.ino ((set_dir h.rise hd hi hk m.ino).1 ⟨m, hm, rfl, h2⟩)
 · obtain ⟨r, hr1, hr2⟩ := rank
   refine ⟨r, fun m hm i hmi hdi => ?_⟩
   have hdi2 := (set_dir h.rise hd hi hk i).1 hdi
   by_cases e : m.ino = (nodeAt t d).ino
   · have hn : m = n := by
      have hr : Rises (setB t d n) := by rw [rises_map, set_inos hd hi, ← rises_map]; exact h.rise
      exact rises_eq hr hm (set_self n hd) (e.trans hi.symm)
     subst hn
     exact hr2 i hmi hdi2
   · rcases set_mem hm with h1 | h1
     · exact hr1 m h1 e i hmi hdi2
     · subst h1; exact absurd hi e
theorem sum_filter {α : Type} (f : α → Nat) (p : α → Bool) : ∀ l : List α, (∀ x ∈ l, p x = false → f x = 0) → ((l.filter p).map f).sum = (l.map f).sum
 | [], _ => rfl
 | a :: l, h => by
   have ih := sum_filter f p l (fun x hx => h x (by simp [hx]))
   by_cases hp : p a = true
   · rw [List.filter_cons_of_pos hp, List.map_cons, List.sum_cons, ih, List.map_cons, List.sum_cons]
   · have := h a (by simp) (by simpa using hp)
     rw [List.filter_cons_of_neg hp, ih, List.map_cons, List.sum_cons, this]; omega
theorem good_sweep {t : TreeB} (h : GoodE 0 t) : Good (sweptB t) := by
 have hkeep : ∀ m ∈ t.nodes, (0 < linksB t m.ino ↔ m.ino = 1 ∨ 0 < kidsB t m.ino) := by
  intro m hm
  by_cases h1 : m.ino = 1
  · rw [h1, links_root h]; simp
  · rw [links_kids h hm h1]; simp [h1]
 have hmem : ∀ m, m ∈ (sweptB t).nodes ↔ m ∈ t.nodes ∧ (m.ino = 1 ∨ 0 < kidsB t m.ino) := by
  intro m
  unfold sweptB
  rw [List.mem_filter]
  constructor
  · rintro ⟨h1, h2⟩; exact ⟨h1, (hkeep m h1).1 (by simpa using h2)⟩
  · rintro ⟨h1, h2⟩; exact ⟨h1, by simpa using (hkeep m h1).2 h2⟩
 have hgone : ∀ m ∈ t.nodes, m ∉ (sweptB t).nodes → m.inos = [] := by
  intro m hm hn
  rw [hmem] at hn
  have h1 : m.ino ≠ 1 := fun e => hn ⟨hm, .inl e⟩
  have h2 : kidsB t m.ino = 0 := by
   rcases Nat.eq_zero_or_pos (kidsB t m.ino) with h0 | h0
   · exact h0
   · exact absurd ⟨hm, .inr h0⟩ hn
  rcases h.free m hm h1 h2 with h3 | h3
  · exact h3
  · have := h.pos m hm; omega
 have hkids : ∀ i, kidsB (sweptB t) i = kidsB t i := by
  intro i
  unfold kidsB sweptB
  refine sum_filter _ _ _ (fun x hx hp => ?_)
  have : x ∉ (sweptB t).nodes := by
   unfold sweptB
   rw [List.mem_filter]
   rintro ⟨_, h2⟩
   rw [hp] at h2; cases h2
  rw [hgone x hx this]; rfl
 have hdir : ∀ i, IsDir (sweptB t) i → IsDir t i := by
  rintro i ⟨m, hm, h1, h2⟩
  exact ⟨m, ((hmem m).1 hm).1, h1, h2⟩
 refine ⟨⟨?_, ?_, h.next, ?_, ?_, ?_, ?_, ?_, ?_, ?_, ?_⟩, ?_⟩
 · obtain ⟨r, l, hl, h1, h2⟩ := h.root
   refine ⟨r, l.filter fun n => decide (0 < linksB t n.ino), ?_, h1, h2⟩
   unfold sweptB
   simp only [hl]
   rw [List.filter_cons_of_pos (by rw [h1, links_root h]; rfl)]
 · have := List.length_filter_le (fun n : NodeB => decide (0 < linksB t n.ino)) t.nodes
   have h2 := h.size
   show (t.nodes.filter _).length ≤ 60
   omega
 · exact List.Pairwise.filter _ h.rise
 · intro n hn; exact h.below n ((hmem n).1 hn).1
 · intro n hn; exact h.each n ((hmem n).1 hn).1
 · intro n hn i hi
   have hn2 := ((hmem n).1 hn).1
   obtain ⟨h1, m, hm, h2⟩ := h.leads n hn2 i hi
   refine ⟨h1, m, (hmem m).2 ⟨hm, .inr ?_⟩, h2⟩
   rw [h2]
   exact kids_pos.2 ⟨n, hn2, hi⟩
 · intro i; rw [hkids]; exact h.many i
 · intro m hm hk; rw [hkids]; exact h.once m ((hmem m).1 hm).1 hk
 · intro m hm h1 h2
   rw [hkids] at h2
   exact h.free m ((hmem m).1 hm).1 h1 h2
 · obtain ⟨r, hr⟩ := h.rank
   exact ⟨r, fun n hn i hi hd => hr n ((hmem n).1 hn).1 i hi (hdir i hd)⟩
 · intro m hm h1
   rw [hkids]
   exact (((hmem m).1 hm).2).resolve_left h1
end Go.Proofs.YtbebgobboccjcaaGreatDoor
namespace Go.Proofs.YtbebgobboccjcaaGreatDoor
open Go.RowKit Kit
set_option linter.unusedVariables false

theorem without_eq {n : NodeB} (ok : NodeOK n) {j : Nat} (hj : j < n.names.length) : (withoutB n n.names[j]).inos = n.inos.eraseIdx j ∧ (withoutB n n.names[j]).names = n.names.filter fun q => decide (q ≠ n.names[j]) := by
 unfold withoutB pairsB
 exact ⟨without_inos n.names n.inos j hj ok.len (rising_nodup ok.1), names_without_keep n.names n.inos _ ok.len⟩
theorem without_ok {n : NodeB} (ok : NodeOK n) (hk : n.kind = 2) (s : ByteArray) : NodeOK (withoutB n s) := by
 have hn : (withoutB n s).names = n.names.filter fun q => decide (q ≠ s) := names_without_keep n.names n.inos s ok.len
 refine ⟨?_, ?_, .inl ⟨hk, rfl, by simp [withoutB]⟩⟩
 · rw [hn]; exact List.Pairwise.filter _ ok.1
 · intro q hq
   rw [hn] at hq
   exact ok.2.1 q (List.mem_filter.1 hq).1
theorem without_sub {n : NodeB} {s : ByteArray} {i : Int} (h : i ∈ (withoutB n s).inos) : i ∈ n.inos := by
 unfold withoutB pairsB at h
 obtain ⟨p, hp, rfl⟩ := List.mem_map.1 h
 exact (List.of_mem_zip (List.mem_filter.1 hp).1).2
theorem count_erase : ∀ (l : List Int) (j : Nat) (hj : j < l.length) (i : Int), (l.eraseIdx j).count i + (if l[j] = i then 1 else 0) = l.count i
 | a :: l, 0, _, i => by
   rw [List.eraseIdx_cons_zero, List.getElem_cons_zero, List.count_cons]
   simp
 | a :: l, j + 1, hj, i => by
   have ih := count_erase l j (by simpa using hj) i
   rw [List.eraseIdx_cons_succ, List.getElem_cons_succ, List.count_cons, List.count_cons]
   omega
theorem kids_without {t : TreeB} {d : Nat} (hd : d < t.nodes.length) (ok : NodeOK (nodeAt t d)) {j : Nat} (hj : j < (nodeAt t d).names.length) (i : Int) :
 kidsB (setB t d (withoutB (nodeAt t d) (nodeAt t d).names[j])) i + (if (nodeAt t d).inos[j]'(by rw [← ok.len]; exact hj) = i then 1 else 0) = kidsB t i := by
 have h1 := kids_set t d (withoutB (nodeAt t d) (nodeAt t d).names[j]) hd i
 rw [(without_eq ok hj).1] at h1
 have h2 := count_erase (nodeAt t d).inos j (by rw [← ok.len]; exact hj) i
 omega
theorem good_without {e : Int} {t : TreeB} (h : GoodE e t) {d : Nat} (hd : d < t.nodes.length) (hk : (nodeAt t d).kind = 2) {j : Nat} (hj : j < (nodeAt t d).names.length) {c : Int} (hc : (nodeAt t d).inos[j]'(by rw [← (h.each _ (nodeAt_mem hd)).len]; exact hj) = c)
 {e' : Int} (he : e = 0 ∨ e = e') (hf : e' = c ∨ ∀ m ∈ t.nodes, m.ino = c → m.inos = []) : GoodE e' (setB t d (withoutB (nodeAt t d) (nodeAt t d).names[j])) := by
 have ok := h.each _ (nodeAt_mem hd)
 have hkids : ∀ i, kidsB (setB t d (withoutB (nodeAt t d) (nodeAt t d).names[j])) i + (if c = i then 1 else 0) = kidsB t i := fun i => hc ▸ kids_without hd ok hj i
 refine good_set h hd rfl rfl (without_ok ok hk _) (fun i hi => h.leads _ (nodeAt_mem hd) i (without_sub hi)) (fun i => ?_) (fun i hi => ?_) (fun m hm h1 h0 => ?_) ?_
 · have := hkids i; have h2 := h.many i; omega
 · obtain ⟨m, hm, rfl, hk2⟩ := hi
   have := hkids m.ino; have h2 := h.once m hm hk2; omega
 · have h2 := hkids m.ino
   rw [h0] at h2
   have hold : ∃ m0 ∈ t.nodes, m0.ino = m.ino ∧ (m0.inos = [] → m.inos = []) := by
    rcases set_mem hm with h3 | h3
    · exact ⟨m, h3, rfl, id⟩
    · refine ⟨nodeAt t d, nodeAt_mem hd, by rw [h3]; rfl, fun e0 => ?_⟩
      rw [h3, (without_eq ok hj).1, e0]; rfl
   obtain ⟨m0, hm0, h4, h5⟩ := hold
   by_cases e1 : c = m.ino
   · rcases hf with hf | hf
     · exact .inr (by rw [hf]; exact e1.symm)
     · exact .inl (h5 (hf m0 hm0 (h4.trans e1.symm)))
   · rw [if_neg e1] at h2
     rcases h.free m0 hm0 (by rw [h4]; exact h1) (by rw [h4]; omega) with h6 | h6
     · exact .inl (h5 h6)
     · rcases he with he | he
       · have := h.pos m0 hm0; omega
       · exact .inr (by rw [← h4, h6, he])
 · obtain ⟨r, hr⟩ := h.rank
   exact ⟨r, fun m hm _ i hi hdi => hr m hm i hi hdi, fun i hi hdi => hr _ (nodeAt_mem hd) i (without_sub hi) hdi⟩
theorem less_total {a b : ByteArray} (h1 : a ≠ b) (h2 : ¬ less a b) : less b a := (less_or h2).resolve_left h1
theorem goes_spec (l : List ByteArray) (s : ByteArray) (h : Rising l) (hs : s ∉ l) : goesB l s ≤ l.length ∧ (∀ q ∈ l.take (goesB l s), less q s) ∧ ∀ q ∈ l.drop (goesB l s), less s q := by
 unfold goesB
 cases hf : l.findIdx? fun q => Op.bytesLess s.toList q.toList with
 | none =>
   rw [List.findIdx?_eq_none_iff] at hf
   refine ⟨Nat.le_refl _, fun q hq => ?_, by simp⟩
   simp only [Option.getD_none, List.take_length] at hq
   refine less_total (fun e => hs (e ▸ hq)) ?_
   unfold less
   rw [hf q hq]; simp
 | some k =>
   obtain ⟨hk, h1, h2⟩ := List.findIdx?_eq_some_iff_getElem.1 hf
   refine ⟨by simp; omega, fun q hq => ?_, fun q hq => ?_⟩
   · simp only [Option.getD_some] at hq
     obtain ⟨i, hi, rfl⟩ := List.mem_iff_getElem.1 hq
     rw [List.length_take] at hi
     rw [List.getElem_take]
     have h3 := h2 i (by omega)
     refine less_total (fun e => hs (e ▸ List.getElem_mem (by omega))) ?_
     unfold less
     simpa using h3
   · simp only [Option.getD_some] at hq
     obtain ⟨i, hi, rfl⟩ := List.mem_iff_getElem.1 hq
     rw [List.length_drop] at hi
     rw [List.getElem_drop]
     rcases Nat.eq_zero_or_pos i with h0 | h0
     · subst h0; exact h1
     · exact less_trans h1 (List.pairwise_iff_getElem.1 h k (k + i) hk (by omega) (by omega))
theorem with_ok {n : NodeB} (ok : NodeOK n) (hk : n.kind = 2) {s : ByteArray} (hs : s ∉ n.names) (ho : okB s = true ∧ s.size ≤ 12) (a : Int) : NodeOK (withB n s a) := by
 obtain ⟨h1, h2, h3⟩ := goes_spec n.names s ok.1 hs
 have hl := ok.len
 refine ⟨?_, ?_, .inl ⟨hk, rfl, ?_⟩⟩
 · unfold withB Rising
   simp only
   rw [List.pairwise_append, List.pairwise_cons]
   have hp := ok.1
   unfold Rising at hp
   rw [← List.take_append_drop (goesB n.names s) n.names, List.pairwise_append] at hp
   refine ⟨hp.1, ⟨h3, hp.2.1⟩, fun x hx y hy => ?_⟩
   rcases List.mem_cons.1 hy with hy | hy
   · rw [hy]; exact h2 x hx
   · exact hp.2.2 x hx y hy
 · intro q hq
   unfold withB at hq
   simp only [List.mem_append, List.mem_cons] at hq
   rcases hq with hq | hq | hq
   · exact ok.2.1 q (List.mem_of_mem_take hq)
   · rw [hq]; exact ho
   · exact ok.2.1 q (List.mem_of_mem_drop hq)
 · unfold withB
   simp only [List.length_append, List.length_cons, List.length_take, List.length_drop]
   omega
theorem with_sub {n : NodeB} {s : ByteArray} {a i : Int} (h : i ∈ (withB n s a).inos) : i = a ∨ i ∈ n.inos := by
 unfold withB at h
 simp only [List.mem_append, List.mem_cons] at h
 rcases h with h | h | h
 · exact .inr (List.mem_of_mem_take h)
 · exact .inl h
 · exact .inr (List.mem_of_mem_drop h)
def hangs (t : TreeB) (a : Int) : Nat → Int → Prop
 | 0, x => x = a
 | k + 1, x => ∃ n ∈ t.nodes, hangs t a k n.ino ∧ x ∈ n.inos
def Hangs (t : TreeB) (a x : Int) : Prop := ∃ k, hangs t a k x
theorem hang_up {e : Int} {t : TreeB} (h : GoodE e t) {a : Int} (ha : kidsB t a = 0) {m : NodeB} (hm : m ∈ t.nodes) {i : Int} (hi : i ∈ m.inos) (hd : IsDir t i) (hn : ¬ Hangs t a m.ino) : ¬ Hangs t a i := by
 rintro ⟨k, hk⟩
 cases k with
 | zero =>
   have e0 : i = a := hk
   subst e0
   have := kids_pos.2 ⟨m, hm, hi⟩
   omega
 | succ k =>
   obtain ⟨n, hn1, hn2, hn3⟩ := hk
   apply hn
   obtain ⟨p, hp, rfl⟩ := List.mem_iff_getElem.1 hm
   obtain ⟨q, hq, rfl⟩ := List.mem_iff_getElem.1 hn1
   obtain ⟨dm, hdm, rfl, hdk⟩ := hd
   have := once_home (h.once dm hdm hdk) hp hq (by rw [nodeAt_eq t p hp]; exact hi) (by rw [nodeAt_eq t q hq]; exact hn3)
   subst this
   exact ⟨k, hn2⟩
theorem shifted (P : Int → Prop) (r : Int → Nat) (c : Nat) : ∃ r' : Int → Nat, ∀ x, (P x → r' x = r x + c) ∧ (¬ P x → r' x = r x) :=
 ⟨fun x => @ite _ (P x) (Classical.propDecidable _) (r x + c) (r x), fun x => ⟨fun h => if_pos h, fun h => if_neg h⟩⟩
theorem good_with {e : Int} {t : TreeB} (h : GoodE e t) {d : Nat} (hd : d < t.nodes.length) (hk : (nodeAt t d).kind = 2) {s : ByteArray} (hs : s ∉ (nodeAt t d).names) (ho : okB s = true ∧ s.size ≤ 12) {a : Int} (ha : a ≠ 1 ∧ ∃ m ∈ t.nodes, m.ino = a)
 (hd0 : (nodeAt t d).ino = 1 ∨ 0 < kidsB t (nodeAt t d).ino) (hm20 : kidsB t a < 20) (hdir : IsDir t a → kidsB t a = 0 ∧ ¬ Hangs t a (nodeAt t d).ino) (he : e = 0 ∨ e = a) : GoodE 0 (setB t d (withB (nodeAt t d) s a)) := by
 have ok := h.each _ (nodeAt_mem hd)
 have hkids : ∀ i, kidsB (setB t d (withB (nodeAt t d) s a)) i = kidsB t i + if a = i then 1 else 0 := fun i => by
  have h1 := kids_set t d (withB (nodeAt t d) s a) hd i
  rw [count_with] at h1
  omega
 refine good_set h hd rfl rfl (with_ok ok hk hs ho a) (fun i hi => ?_) (fun i => ?_) (fun i hi => ?_) (fun m hm h1 h0 => ?_) ?_
 · rcases with_sub hi with h1 | h1
   · rw [h1]; exact ha
   · exact h.leads _ (nodeAt_mem hd) i h1
 · rw [hkids]
   have := h.many i
   split
   · rename_i e1; subst e1; omega
   · omega
 · rw [hkids]
   split
   · rename_i e1; subst e1; rw [(hdir hi).1]; omega
   · obtain ⟨m, hm, rfl, hk2⟩ := hi
     have := h.once m hm hk2; omega
 · rw [hkids] at h0
   have e1 : ¬ a = m.ino := fun e1 => by rw [if_pos e1] at h0; omega
   rw [if_neg e1] at h0
   rcases set_mem hm with h3 | h3
   · rcases h.free m h3 h1 (by omega) with h6 | h6
     · exact .inl h6
     · rcases he with he | he
       · have := h.pos m h3; omega
       · exact absurd (by rw [h6, he]) e1
   · have h4 : m.ino = (nodeAt t d).ino := by rw [h3]; rfl
     rw [h4] at h1 h0
     rcases hd0 with h5 | h5
     · exact absurd h5 h1
     · omega
 · obtain ⟨r, hr⟩ := h.rank
   by_cases hda : IsDir t a
   · obtain ⟨ha0, hna⟩ := hdir hda
     obtain ⟨r', hr'⟩ := shifted (Hangs t a) r (r (nodeAt t d).ino + 1)
     refine ⟨r', fun m hm hne i hi hdi => ?_, fun i hi hdi => ?_⟩
     · have hlt := hr m hm i hi hdi
       by_cases h1 : Hangs t a m.ino
       · have h2 : Hangs t a i := by obtain ⟨k, hk⟩ := h1; exact ⟨k + 1, m, hm, hk, hi⟩
         rw [(hr' _).1 h1, (hr' _).1 h2]; omega
       · rw [(hr' _).2 h1, (hr' _).2 (hang_up h ha0 hm hi hdi h1)]; exact hlt
     · have en : (withB (nodeAt t d) s a).ino = (nodeAt t d).ino := rfl
       rw [en, (hr' _).2 hna]
       rcases with_sub hi with h1 | h1
       · subst h1
         rw [(hr' _).1 ⟨0, rfl⟩]; omega
       · rw [(hr' _).2 (hang_up h ha0 (nodeAt_mem hd) h1 hdi hna)]
         exact hr _ (nodeAt_mem hd) i h1 hdi
   · refine ⟨r, fun m hm _ i hi hdi => hr m hm i hi hdi, fun i hi hdi => ?_⟩
     rcases with_sub hi with h1 | h1
     · subst h1; exact absurd hdi hda
     · exact hr _ (nodeAt_mem hd) i h1 hdi
end Go.Proofs.YtbebgobboccjcaaGreatDoor
namespace Go.Proofs.YtbebgobboccjcaaGreatDoor
open Go.RowKit Kit
set_option linter.unusedVariables false

variable {e : Int} {t : TreeB}
theorem step_ok (h : GoodE e t) {k x : Nat} (hk : k < t.nodes.length) {s : ByteArray} {r : List ByteArray} (hw : walkB t k (s :: r) = .ok x) :
 (nodeAt t k).kind = 2 ∧ ∃ y, y < t.nodes.length ∧ placeO t (nameB (nodeAt t k) s) = some y ∧ nameB (nodeAt t k) s ≠ 0 ∧ (nodeAt t y).ino = nameB (nodeAt t k) s ∧ nameB (nodeAt t k) s ∈ (nodeAt t k).inos ∧ walkB t y r = .ok x := by
 rw [walkB] at hw
 split at hw
 · cases hw
 · rename_i hkind
   have hkind : (nodeAt t k).kind = 2 := Decidable.byContradiction hkind
   split at hw
   · cases hw
   · rename_i hn
     have ok := h.each _ (nodeAt_mem hk)
     obtain ⟨_, i, hi, hs, hin⟩ := nameB_some ok.len hn
     have hmem : nameB (nodeAt t k) s ∈ (nodeAt t k).inos := by rw [← hin]; exact List.getElem_mem _
     obtain ⟨_, m, hm, hmi⟩ := h.leads _ (nodeAt_mem hk) _ hmem
     obtain ⟨y, hy⟩ := placeO_of hm
     rw [hmi] at hy
     obtain ⟨h1, h2⟩ := placeO_some hy
     rw [hy] at hw
     exact ⟨hkind, y, h1, hy, hn, h2, hmem, hw⟩
theorem walk_lt (h : GoodE e t) : ∀ (l : List ByteArray) {k x : Nat}, k < t.nodes.length → walkB t k l = .ok x → x < t.nodes.length
 | [], k, x, hk, hw => by
   rw [walkB] at hw; cases hw; exact hk
 | s :: r, k, x, hk, hw => by
   obtain ⟨_, y, hy, _, _, _, _, hw2⟩ := step_ok h hk hw
   exact walk_lt h r hy hw2
theorem walk_append (h : GoodE e t) : ∀ (l r : List ByteArray) {k x : Nat}, k < t.nodes.length → (walkB t k (l ++ r) = .ok x ↔ ∃ y, walkB t k l = .ok y ∧ walkB t y r = .ok x)
 | [], r, k, x, hk => by simp [walkB]
 | s :: l, r, k, x, hk => by
   rw [List.cons_append]
   constructor
   · intro hw
     obtain ⟨hkind, y, hy, hp, hn, h1, hm, hw2⟩ := step_ok h hk hw
     obtain ⟨z, hz1, hz2⟩ := (walk_append h l r hy).1 hw2
     refine ⟨z, ?_, hz2⟩
     rw [walkB, if_neg (by simp [hkind]), if_neg hn, hp]; exact hz1
   · rintro ⟨z, hz1, hz2⟩
     obtain ⟨hkind, y, hy, hp, hn, h1, hm, hw2⟩ := step_ok h hk hz1
     rw [walkB, if_neg (by simp [hkind]), if_neg hn, hp]
     exact (walk_append h l r hy).2 ⟨z, hw2, hz2⟩
theorem walk_one (h : GoodE e t) : ∀ (l1 l2 : List ByteArray) {x : Nat}, walkB t 0 l1 = .ok x → walkB t 0 l2 = .ok x → (nodeAt t x).kind = 2 → l1 = l2 := by
 have h0 := h.root0
 have base : ∀ (l : List ByteArray) (s : ByteArray), walkB t 0 (l ++ [s]) ≠ .ok 0 := by
  intro l s hw
  obtain ⟨y, hy1, hy2⟩ := (walk_append h l [s] h0.1).1 hw
  obtain ⟨_, z, hz, _, _, hzi, hzm, hw2⟩ := step_ok h (walk_lt h l h0.1 hy1) hy2
  rw [walkB] at hw2
  cases hw2
  rw [← hzi, h0.2.1] at hzm
  exact (h.leads _ (nodeAt_mem (walk_lt h l h0.1 hy1)) _ hzm).1 rfl
 intro l1
 induction hn : l1.length generalizing l1 with
 | zero =>
   intro l2 x hw1 hw2 hk
   have e1 : l1 = [] := List.eq_nil_of_length_eq_zero hn
   subst e1
   rw [walkB] at hw1
   cases hw1
   rcases List.eq_nil_or_concat l2 with e2 | ⟨l, s, e2⟩
   · exact e2.symm
   · rw [List.concat_eq_append] at e2
     subst e2
     exact absurd hw2 (base l s)
 | succ n ih =>
   intro l2 x hw1 hw2 hk
   rcases List.eq_nil_or_concat l1 with e1 | ⟨a, s, e1⟩
   · subst e1; simp at hn
   rw [List.concat_eq_append] at e1
   subst e1
   rcases List.eq_nil_or_concat l2 with e2 | ⟨b, q, e2⟩
   · subst e2
     rw [walkB] at hw2
     cases hw2
     exact absurd hw1 (base a s)
   · rw [List.concat_eq_append] at e2
     subst e2
     obtain ⟨y1, hy1, hs1⟩ := (walk_append h a [s] h0.1).1 hw1
     obtain ⟨y2, hy2, hs2⟩ := (walk_append h b [q] h0.1).1 hw2
     have l1t := walk_lt h a h0.1 hy1
     have l2t := walk_lt h b h0.1 hy2
     obtain ⟨k1, z1, hz1, _, n1, i1, m1, e1⟩ := step_ok h l1t hs1
     obtain ⟨k2, z2, hz2, _, n2, i2, m2, e2⟩ := step_ok h l2t hs2
     rw [walkB] at e1 e2
     cases e1
     cases e2
     have hon := h.once _ (nodeAt_mem hz1) hk
     have hy : y1 = y2 := once_home hon l1t l2t (i1 ▸ m1) (i2 ▸ m2)
     subst hy
     have ok := h.each _ (nodeAt_mem l1t)
     obtain ⟨_, j1, hj1, hq1, hv1⟩ := nameB_some ok.len n1
     obtain ⟨_, j2, hj2, hq2, hv2⟩ := nameB_some ok.len n2
     have hcount : (nodeAt t y1).inos.count (nodeAt t x).ino ≤ 1 := by
      have := sum_ge (f := fun n : NodeB => n.inos.count (nodeAt t x).ino) (nodeAt_mem l1t)
      unfold kidsB at hon
      omega
     have hj : j1 = j2 := count_index (by rw [← ok.len]; exact hj1) (by rw [← ok.len]; exact hj2) hcount (hv1.trans i1.symm) (hv2.trans i2.symm)
     subst hj
     have hsq : s = q := hq1.symm.trans hq2
     subst hsq
     have := ih a (by simpa using hn) b hy1 hy2 k1
     rw [this]
theorem hangs_walk (h : GoodE e t) {k : Nat} (hk : k < t.nodes.length) : ∀ (n : Nat) (x : Int), hangs t (nodeAt t k).ino n x → ∃ l y, walkB t k l = .ok y ∧ (nodeAt t y).ino = x
 | 0, x, hx => ⟨[], k, rfl, hx.symm⟩
 | n + 1, x, hx => by
   obtain ⟨m, hm, hm1, hm2⟩ := hx
   obtain ⟨l, y, hw, hy⟩ := hangs_walk h hk n m.ino hm1
   have hyl := walk_lt h l hk hw
   have hmy : nodeAt t y = m := rises_eq h.rise (nodeAt_mem hyl) hm hy
   have ok := h.each _ hm
   obtain ⟨j, hj, hjx⟩ := List.mem_iff_getElem.1 hm2
   have hj2 : j < m.names.length := by rw [ok.len]; exact hj
   have hkind := ok.dir (fun e0 => by rw [e0] at hm2; simp at hm2)
   have hnm := nameB_at hkind ok.len ok.1 hj2
   obtain ⟨hx1, mx, hmx, hmxi⟩ := h.leads m hm x hm2
   obtain ⟨z, hz⟩ := placeO_of hmx
   rw [hmxi] at hz
   obtain ⟨hz1, hz2⟩ := placeO_some hz
   refine ⟨l ++ [m.names[j]], z, (walk_append h l _ hk).2 ⟨y, hw, ?_⟩, hz2⟩
   have hnx : nameB (nodeAt t y) m.names[j] = x := by rw [hmy, hnm]; exact hjx
   have hx0 : x ≠ 0 := by have := h.pos mx hmx; omega
   rw [walkB, if_neg (by rw [hmy]; simp [hkind]), hnx, if_neg hx0, hz]
   rfl
theorem find_ok (h : GoodE e t) {p : ByteArray} {k : Nat} (hf : findB t p = .ok k) : (splitB p).2 = 0 ∧ walkB t 0 (splitB p).1 = .ok k ∧ k < t.nodes.length := by
 unfold findB at hf
 split at hf
 · cases hf
 · rename_i h1
   have h1 : (splitB p).2 = 0 := Decidable.byContradiction h1
   have hr : rootP t = 0 := by unfold rootP; rw [h.one]; rfl
   rw [hr] at hf
   exact ⟨h1, hf, walk_lt h _ h.root0.1 hf⟩
theorem parent_ok {p : ByteArray} (h : (parentB p).2.2 = 0) : (splitB p).2 = 0 ∧ ∃ l s, (splitB p).1 = l ++ [s] ∧ parentB p = (joinB l, s, 0) ∧ splitB (joinB l) = (l, 0) ∧ okB s = true ∧ s.size ≤ 12 := by
 unfold parentB at h
 split at h
 · rename_i h1; exact absurd h h1
 · rename_i h1
   have h1 : (splitB p).2 = 0 := Decidable.byContradiction h1
   split at h
   · cases h
   · rename_i h2
     rcases List.eq_nil_or_concat (splitB p).1 with e1 | ⟨l, s, e1⟩
     · rw [e1] at h2; exact absurd rfl h2
     · rw [List.concat_eq_append] at e1
       have ht := split_take h1 l.length
       rw [e1, List.take_left] at ht
       have hn := names_ok h1
       rw [e1] at hn
       refine ⟨h1, l, s, e1, ?_, ht, ?_, ?_⟩
       · unfold parentB
         rw [if_neg (by simp [h1]), if_neg h2, e1]
         simp
       · exact List.all_eq_true.1 hn.1 s (by simp)
       · have := hn.2.1
         rw [List.any_eq_false] at this
         have h3 := this s (by simp)
         simp [longB] at h3
         omega
theorem home_ok (h : GoodE e t) {p : ByteArray} {d : Nat} {s : ByteArray} (hh : homeB t p = .ok (d, s)) :
 d < t.nodes.length ∧ (nodeAt t d).kind = 2 ∧ okB s = true ∧ s.size ≤ 12 ∧ (parentB p).2.2 = 0 ∧ ∃ l, (splitB p).2 = 0 ∧ (splitB p).1 = l ++ [s] ∧ walkB t 0 l = .ok d := by
 unfold homeB at hh
 split at hh
 · cases hh
 · rename_i h1
   have h1 : (parentB p).2.2 = 0 := Decidable.byContradiction h1
   obtain ⟨h2, l, q, e1, e2, e3, o1, o2⟩ := parent_ok h1
   rw [e2] at hh
   simp only at hh
   cases hf : findB t (joinB l) with
   | error x => rw [hf] at hh; cases hh
   | ok k =>
     rw [hf] at hh
     simp only at hh
     obtain ⟨_, hw, hlt⟩ := find_ok h hf
     rw [e3] at hw
     split at hh
     · cases hh
     · rename_i hk
       cases hh
       exact ⟨hlt, Decidable.byContradiction hk, o1, o2, h1, l, h2, e1, hw⟩
theorem find_home (h : GoodE e t) {p : ByteArray} {k : Nat} (hp : (parentB p).2.2 = 0) (hf : findB t p = .ok k) :
 ∃ d s l, homeB t p = .ok (d, s) ∧ (splitB p).1 = l ++ [s] ∧ walkB t 0 l = .ok d ∧ d < t.nodes.length ∧ (nodeAt t d).kind = 2 ∧ nameB (nodeAt t d) s = (nodeAt t k).ino ∧ nameB (nodeAt t d) s ≠ 0 := by
 obtain ⟨h2, l, s, e1, e2, e3, o1, o2⟩ := parent_ok hp
 obtain ⟨_, hw, hlt⟩ := find_ok h hf
 rw [e1] at hw
 obtain ⟨d, hw1, hw2⟩ := (walk_append h l [s] h.root0.1).1 hw
 have hd := walk_lt h l h.root0.1 hw1
 obtain ⟨hk, y, hy, hpl, hn, hi, hm, hw3⟩ := step_ok h hd hw2
 rw [walkB] at hw3
 cases hw3
 refine ⟨d, s, l, ?_, e1, hw1, hd, hk, hi.symm, hn⟩
 have hfd : findB t (joinB l) = .ok d := by
  unfold findB
  have hr : rootP t = 0 := by unfold rootP; rw [h.one]; rfl
  rw [e3, if_neg (by simp), hr]; exact hw1
 unfold homeB
 rw [if_neg (by simp [hp]), e2]
 simp only
 rw [hfd]
 simp only
 rw [if_neg (by simp [hk])]
theorem loop_told (h : GoodE e t) {p q : ByteArray} {k d : Nat} {s : ByteArray} (hf : findB t p = .ok k) (hk : (nodeAt t k).kind = 2) (hh : homeB t q = .ok (d, s)) (hx : Hangs t (nodeAt t k).ino (nodeAt t d).ino) : q ≠ p ∧ underB q p = true := by
 obtain ⟨hp0, hw, hlt⟩ := find_ok h hf
 obtain ⟨hd, hdk, _, _, _, l, hq0, hql, hwl⟩ := home_ok h hh
 obtain ⟨n, hn⟩ := hx
 obtain ⟨l', y, hw', hy⟩ := hangs_walk h hlt n _ hn
 have hyl := walk_lt h l' hlt hw'
 have hyd : y = d := rises_inj h.rise hyl hd hy
 subst hyd
 have hall : walkB t 0 ((splitB p).1 ++ l') = .ok y := (walk_append h _ _ h.root0.1).2 ⟨k, hw, hw'⟩
 have hlp := walk_one h l _ hwl hall hdk
 constructor
 · intro eq
   subst eq
   have := congrArg List.length hql
   rw [hlp] at this
   simp at this
 · unfold underB
   refine decide_eq_true ⟨hq0, hp0, ?_⟩
   rw [hql, hlp, List.append_assoc, List.take_left]
end Go.Proofs.YtbebgobboccjcaaGreatDoor
namespace Go.Proofs.YtbebgobboccjcaaGreatDoor
open Go.RowKit Kit
set_option linter.unusedVariables false

theorem Good.e {t : TreeB} (h : Good t) : GoodE 0 t := h.1
theorem Good.held {t : TreeB} (h : Good t) {d : Nat} (hd : d < t.nodes.length) : (nodeAt t d).ino = 1 ∨ 0 < kidsB t (nodeAt t d).ino := by
 by_cases h1 : (nodeAt t d).ino = 1
 · exact .inl h1
 · exact .inr (h.2 _ (nodeAt_mem hd) h1)
theorem name_free {t : TreeB} (h : GoodE 0 t) {d : Nat} (hd : d < t.nodes.length) (hk : (nodeAt t d).kind = 2) {s : ByteArray} (hn : nameB (nodeAt t d) s = 0) : s ∉ (nodeAt t d).names := by
 refine nameB_zero hk (h.each _ (nodeAt_mem hd)).len (fun i hi => ?_) hn
 obtain ⟨_, m, hm, e⟩ := h.leads _ (nodeAt_mem hd) i hi
 have := h.pos m hm
 omega
theorem good_more {t : TreeB} (h : GoodE 0 t) (h1 : t.nodes.length < 60) (h2 : t.next < 1099511627776) (n : NodeB) (hi : n.ino = t.next) (hn : n.inos = []) (ok : NodeOK n) : GoodE 0 ⟨t.nodes ++ [n], t.next + 1⟩ ∧ (∀ i, kidsB ⟨t.nodes ++ [n], t.next + 1⟩ i = kidsB t i) := by
 have hkids : ∀ i, kidsB ⟨t.nodes ++ [n], t.next + 1⟩ i = kidsB t i := fun i => by
  unfold kidsB
  simp [hn]
 refine ⟨⟨?_, ?_, ?_, ?_, ?_, ?_, ?_, ?_, ?_, ?_, ?_⟩, hkids⟩
 · obtain ⟨r, l, hl, h3, h4⟩ := h.root
   exact ⟨r, l ++ [n], by simp [hl], h3, h4⟩
 · simp; omega
 · show t.next + 1 ≤ _
   omega
 · unfold Rises
   simp only
   rw [List.pairwise_append]
   refine ⟨h.rise, by simp, fun x hx y hy => ?_⟩
   simp at hy
   subst hy
   rw [hi]
   exact h.below x hx
 · intro m hm
   show m.ino < t.next + 1
   simp at hm
   rcases hm with hm | hm
   · have := h.below m hm; omega
   · rw [hm, hi]; omega
 · intro m hm
   simp at hm
   rcases hm with hm | hm
   · exact h.each m hm
   · rw [hm]; exact ok
 · intro m hm i hmi
   simp at hm
   rcases hm with hm | hm
   · obtain ⟨h3, q, hq, h4⟩ := h.leads m hm i hmi
     exact ⟨h3, q, by simp [hq], h4⟩
   · rw [hm, hn] at hmi; simp at hmi
 · intro i; rw [hkids]; exact h.many i
 · intro m hm hk
   rw [hkids]
   simp at hm
   rcases hm with hm | hm
   · exact h.once m hm hk
   · have : kidsB t m.ino = 0 := by
      rcases Nat.eq_zero_or_pos (kidsB t m.ino) with h0 | h0
      · exact h0
      · obtain ⟨q, hq, hqi⟩ := kids_pos.1 h0
        obtain ⟨_, z, hz, hzi⟩ := h.leads q hq _ hqi
        have := h.below z hz
        rw [hzi, hm, hi] at this
        omega
     omega
 · intro m hm h3 h4
   rw [hkids] at h4
   simp at hm
   rcases hm with hm | hm
   · exact h.free m hm h3 h4
   · rw [hm]; exact .inl hn
 · obtain ⟨r, hr⟩ := h.rank
   refine ⟨r, fun m hm i hmi hdi => ?_⟩
   simp at hm
   rcases hm with hm | hm
   · refine hr m hm i hmi ?_
     obtain ⟨q, hq, hqi, hqk⟩ := hdi
     simp at hq
     rcases hq with hq | hq
     · exact ⟨q, hq, hqi, hqk⟩
     · obtain ⟨_, z, hz, hzi⟩ := h.leads m hm i hmi
       have := h.below z hz
       rw [hzi, ← hqi, hq, hi] at this
       omega
   · rw [hm, hn] at hmi; simp at hmi
theorem makes_good {t : TreeB} (h : Good t) (o : OpB) : Good (makesB t o).1 := by
 unfold makesB
 cases hh : homeB t o.path with
 | error x => exact h
 | ok ds =>
   obtain ⟨d, s⟩ := ds
   obtain ⟨hd, hk, o1, o2, _, l, _, _, _⟩ := home_ok h.e hh
   simp only
   split
   · exact h
   · rename_i hn
     have hn : nameB (nodeAt t d) s = 0 := Decidable.byContradiction hn
     split
     · exact h
     · rename_i hlim
       simp only [not_or, Nat.not_le, Int.not_le] at hlim
       have hnew : NodeOK ⟨t.next, if o.kind = 2 then 2 else 1, [], [], []⟩ := by
        refine ⟨List.Pairwise.nil, by simp, ?_⟩
        by_cases h2 : o.kind = 2
        · rw [if_pos h2]; exact .inl ⟨rfl, rfl, rfl⟩
        · rw [if_neg h2]; exact .inr ⟨rfl, rfl, rfl, by simp, by intro z hz; simp at hz⟩
       obtain ⟨g1, gk⟩ := good_more h.e hlim.1 hlim.2 ⟨t.next, if o.kind = 2 then 2 else 1, [], [], []⟩ rfl rfl hnew
       generalize hnn : (⟨t.next, if o.kind = 2 then 2 else 1, [], [], []⟩ : NodeB) = n at *
       have hni : n.ino = t.next := by rw [← hnn]
       have hnc : n.inos = [] := by rw [← hnn]
       have hat : nodeAt ⟨t.nodes ++ [n], t.next + 1⟩ d = nodeAt t d := by
        unfold nodeAt
        simp [List.getD, List.getElem?_append_left hd]
       have hd1 : d < (⟨t.nodes ++ [n], t.next + 1⟩ : TreeB).nodes.length := by simp; omega
       have hlt := h.e.below _ (nodeAt_mem hd)
       have hk0 : kidsB t t.next = 0 := by
        rcases Nat.eq_zero_or_pos (kidsB t t.next) with h0 | h0
        · exact h0
        · obtain ⟨q, hq, hqi⟩ := kids_pos.1 h0
          obtain ⟨_, z, hz, hzi⟩ := h.e.leads q hq _ hqi
          have := h.e.below z hz
          omega
       have g2 := good_with g1 hd1 (by rw [hat]; exact hk) (s := s) (by rw [hat]; exact name_free h.e hd hk hn) ⟨o1, o2⟩ (a := t.next) ⟨by
        have := h.e.pos _ (nodeAt_mem hd); omega, n, by simp, hni⟩ (by rw [hat, gk]; exact h.held hd) (by rw [gk, hk0]; omega) (fun _ => ⟨by rw [gk, hk0], by
        rw [hat]
        rintro ⟨k, hk⟩
        cases k with
        | zero => have : (nodeAt t d).ino = t.next := hk; omega
        | succ k =>
          have none : ∀ k x, hangs ⟨t.nodes ++ [n], t.next + 1⟩ t.next k x → x = t.next := by
           intro k
           induction k with
           | zero => intro x hx; exact hx
           | succ k ih =>
             rintro x ⟨m, hm, hm1, hm2⟩
             have hmi := ih _ hm1
             have hmn : m = n := rises_eq g1.rise hm (by simp) (hmi.trans hni.symm)
             rw [hmn, hnc] at hm2
             simp at hm2
          have := none _ _ hk
          omega⟩) (.inl rfl)
       rw [hat] at g2
       have heq : setB ⟨t.nodes ++ [n], t.next + 1⟩ d (withB (nodeAt t d) s t.next) = ⟨t.nodes.set d (withB (nodeAt t d) s t.next) ++ [n], t.next + 1⟩ := by
        unfold setB
        simp only
        rw [List.set_append_left _ _ hd]
       refine ⟨heq ▸ g2, fun m hm h1 => ?_⟩
       have hkk : ∀ i, kidsB (⟨t.nodes.set d (withB (nodeAt t d) s t.next) ++ [n], t.next + 1⟩ : TreeB) i = kidsB t i + if t.next = i then 1 else 0 := fun i => by
        have e1 := kids_set ⟨t.nodes ++ [n], t.next + 1⟩ d (withB (nodeAt t d) s t.next) hd1 i
        rw [heq, hat, count_with, gk] at e1
        omega
       show 0 < kidsB _ _
       rw [hkk]
       simp at hm
       rcases hm with hm | hm
       · rcases List.mem_or_eq_of_mem_set hm with h3 | h3
         · have := h.2 m h3 h1; omega
         · have e3 : m.ino = (nodeAt t d).ino := by rw [h3]; rfl
           rw [e3] at h1 ⊢
           have := h.2 _ (nodeAt_mem hd) h1
           omega
       · rw [hm, hni]; simp
theorem removes_good {t : TreeB} (h : Good t) (o : OpB) (ho : o.kind = 3 ∨ o.kind = 4) : Good (removesB t o).1 := by
 unfold removesB
 split
 · exact h
 · rename_i hp
   have hp : (parentB o.path).2.2 = 0 := Decidable.byContradiction hp
   cases hf : findB t o.path with
   | error x => exact h
   | ok k =>
     obtain ⟨_, _, hk⟩ := find_ok h.e hf
     simp only
     split
     · exact h
     split
     · exact h
     split
     · exact h
     rename_i c1 c2 c3
     obtain ⟨d, s, l, hh, _, _, hd, hdk, hnm, hn0⟩ := find_home h.e hp hf
     rw [hh]
     simp only
     have ok := h.e.each _ (nodeAt_mem hd)
     obtain ⟨_, j, hj, hs, hv⟩ := nameB_some ok.len hn0
     have okk := h.e.each _ (nodeAt_mem hk)
     have hleaf : (nodeAt t k).inos = [] := by
      rcases okk.2.2 with h1 | h1
      · rcases ho with h3 | h3
        · exact absurd ⟨h3, h1.1⟩ c1
        · have : (nodeAt t k).names.length = 0 := by
           rcases Nat.eq_zero_or_pos (nodeAt t k).names.length with h0 | h0
           · exact h0
           · exact absurd ⟨h3, h0⟩ c3
          exact List.eq_nil_of_length_eq_zero (by rw [← okk.len]; exact this)
      · exact h1.2.2.1
     have := good_without h.e hd hdk hj (c := (nodeAt t k).ino) (hv.trans hnm) (e' := 0) (.inl rfl) (.inr fun m hm hmi => by
      rw [rises_eq h.e.rise hm (nodeAt_mem hk) hmi]; exact hleaf)
     rw [hs] at this
     exact good_sweep this
theorem hangs_sub {x y : TreeB} (h : ∀ n ∈ y.nodes, ∃ m ∈ x.nodes, m.ino = n.ino ∧ ∀ i ∈ n.inos, i ∈ m.inos) {a : Int} : ∀ k i, hangs y a k i → hangs x a k i
 | 0, i, hi => hi
 | k + 1, i, hi => by
   obtain ⟨n, hn, h1, h2⟩ := hi
   obtain ⟨m, hm, e1, e2⟩ := h n hn
   exact ⟨m, hm, by rw [e1]; exact hangs_sub h k _ h1, e2 i h2⟩
theorem moved_good {x : TreeB} (h : GoodE 0 x) {p d : Nat} (hp : p < x.nodes.length) (hpk : (nodeAt x p).kind = 2) {old : ByteArray} {a : Int} (ha : nameB (nodeAt x p) old = a) (ha0 : a ≠ 0) (hd : d < x.nodes.length) (hdk : (nodeAt x d).kind = 2) {s : ByteArray} (hs : s ∉ (nodeAt x d).names)
 (ho : okB s = true ∧ s.size ≤ 12) (hda : (nodeAt x d).ino ≠ a) (hd0 : (nodeAt x d).ino = 1 ∨ 0 < kidsB x (nodeAt x d).ino) (hloop : IsDir x a → ¬ Hangs x a (nodeAt x d).ino) : GoodE 0 (movedB x p old d s a) := by
 have ok := h.each _ (nodeAt_mem hp)
 have hn0 : nameB (nodeAt x p) old ≠ 0 := by rw [ha]; exact ha0
 obtain ⟨_, j, hj, hsj, hv⟩ := nameB_some ok.len hn0
 have hv2 := hv.trans ha
 have g1 := good_without h hp hpk hj (c := a) hv2 (e' := a) (.inl rfl) (.inl rfl)
 have hkids : ∀ i, kidsB (setB x p (withoutB (nodeAt x p) (nodeAt x p).names[j])) i + (if a = i then 1 else 0) = kidsB x i := fun i => by
  have := kids_without hp ok hj i
  rw [hv2] at this
  exact this
 rw [hsj] at g1 hkids
 unfold movedB
 have hi1 : (withoutB (nodeAt x p) old).ino = (nodeAt x p).ino := rfl
 have hk1 : (withoutB (nodeAt x p) old).kind = (nodeAt x p).kind := rfl
 have hdino : (nodeAt (setB x p (withoutB (nodeAt x p) old)) d).ino = (nodeAt x d).ino ∧ (nodeAt (setB x p (withoutB (nodeAt x p) old)) d).kind = 2 ∧ s ∉ (nodeAt (setB x p (withoutB (nodeAt x p) old)) d).names := by
  by_cases e : p = d
  · subst e
    rw [set_at hp]
    refine ⟨rfl, hpk, fun hm => hs ?_⟩
    have : (withoutB (nodeAt x p) old).names = (nodeAt x p).names.filter fun q => decide (q ≠ old) := names_without_keep _ _ _ ok.len
    rw [this] at hm
    exact (List.mem_filter.1 hm).1
  · rw [set_at_ne e]
    exact ⟨rfl, hdk, hs⟩
 have ha1 : a ∈ (nodeAt x p).inos := by rw [← hv2]; exact List.getElem_mem _
 obtain ⟨hne, m, hm, hmi⟩ := h.leads _ (nodeAt_mem hp) a ha1
 have hka := hkids a
 rw [if_pos rfl] at hka
 refine good_with g1 (by rw [set_len]; exact hd) hdino.2.1 hdino.2.2 ho ⟨hne, (set_has hp hi1 a).2 ⟨m, hm, hmi⟩⟩ ?_ ?_ (fun hdir => ⟨?_, ?_⟩) (.inr rfl)
 · rw [hdino.1]
   rcases hd0 with h1 | h1
   · exact .inl h1
   · have := hkids (nodeAt x d).ino
     rw [if_neg (fun e => hda e.symm)] at this
     right
     omega
 · have := h.many a; omega
 · have hdx := (set_dir h.rise hp hi1 hk1 a).1 hdir
   obtain ⟨q, hq, hqi, hqk⟩ := hdx
   have := h.once q hq hqk
   rw [hqi] at this
   omega
 · rw [hdino.1]
   rintro ⟨k, hk⟩
   refine hloop ((set_dir h.rise hp hi1 hk1 a).1 hdir) ⟨k, hangs_sub (fun n hn => ?_) k _ hk⟩
   rcases set_mem hn with h1 | h1
   · exact ⟨n, h1, rfl, fun i hi => hi⟩
   · exact ⟨nodeAt x p, nodeAt_mem hp, by rw [h1]; rfl, fun i hi => by rw [h1] at hi; exact without_sub hi⟩
theorem without_name {n : NodeB} (ok : NodeOK n) (hk : n.kind = 2) {s q : ByteArray} (hq : q ≠ s) (hn : nameB n q ≠ 0) : nameB (withoutB n s) q = nameB n q := by
 obtain ⟨_, j, hj, h1, h2⟩ := nameB_some ok.len hn
 have okw := without_ok ok hk s
 have hmem : (q, nameB n q) ∈ (pairsB n).filter fun p => decide (p.1 ≠ s) := by
  rw [List.mem_filter]
  refine ⟨?_, by simpa using hq⟩
  unfold pairsB
  refine List.mem_iff_getElem.2 ⟨j, by rw [List.length_zip, ← ok.len]; omega, ?_⟩
  rw [List.getElem_zip, h1, h2]
 obtain ⟨i, hi, hi2⟩ := List.mem_iff_getElem.1 hmem
 have hin : i < (withoutB n s).names.length := by simpa [withoutB] using hi
 have e1 : (withoutB n s).names[i] = q := by
  show (((pairsB n).filter fun p => decide (p.1 ≠ s)).map Prod.fst)[i]'(by simpa using hi) = q
  rw [List.getElem_map, hi2]
 have e2 : (withoutB n s).inos[i]'(by simpa [withoutB] using hi) = nameB n q := by
  show (((pairsB n).filter fun p => decide (p.1 ≠ s)).map Prod.snd)[i]'(by simpa using hi) = nameB n q
  rw [List.getElem_map, hi2]
 have := nameB_at (n := withoutB n s) hk okw.len okw.1 hin
 rw [e1] at this
 rw [this]; exact e2
theorem rename_good {t : TreeB} (h : Good t) (o : OpB) : Good (renameB t o).1 := by
 unfold renameB
 split
 · exact h
 rename_i hp
 have hp : (parentB o.path).2.2 = 0 := Decidable.byContradiction hp
 split
 · exact h
 cases hf : findB t o.path with
 | error x => exact h
 | ok k =>
   obtain ⟨_, _, hk⟩ := find_ok h.e hf
   simp only
   split
   · exact h
   rename_i hlp
   cases hh : homeB t o.to with
   | error x => exact h
   | ok ds =>
     obtain ⟨d, s⟩ := ds
     obtain ⟨hd, hdk, o1, o2, _, l, _, _, _⟩ := home_ok h.e hh
     obtain ⟨p, old, lp, hph, _, _, hpl, hpk, hpn, hpn0⟩ := find_home h.e hp hf
     simp only
     rw [hph]
     simp only
     have hloop : IsDir t (nodeAt t k).ino → ¬ Hangs t (nodeAt t k).ino (nodeAt t d).ino := by
      rintro ⟨m, hm, hmi, hmk⟩ hx
      have hkk : (nodeAt t k).kind = 2 := by rw [← rises_eq h.e.rise hm (nodeAt_mem hk) hmi]; exact hmk
      obtain ⟨q1, q2⟩ := loop_told h.e hf hkk hh hx
      exact hlp ⟨hkk, q1, q2⟩
     have hda : (nodeAt t d).ino ≠ (nodeAt t k).ino := by
      intro e
      exact hloop ⟨nodeAt t d, nodeAt_mem hd, e, hdk⟩ ⟨0, e⟩
     have ha0 : (nodeAt t k).ino ≠ 0 := by have := h.e.pos _ (nodeAt_mem hk); omega
     split
     · rename_i hn
       split
       · exact h
       rename_i hc
       split
       · exact h
       split
       · exact h
       split
       · exact h
       rename_i c1 c2 c3
       have ok := h.e.each _ (nodeAt_mem hd)
       obtain ⟨_, j, hj, hsj, hv⟩ := nameB_some ok.len hn
       have hcm : nameB (nodeAt t d) s ∈ (nodeAt t d).inos := by rw [← hv]; exact List.getElem_mem _
       obtain ⟨hc1, m, hm, hmi⟩ := h.e.leads _ (nodeAt_mem hd) _ hcm
       obtain ⟨y, hy⟩ := placeO_of hm
       rw [hmi] at hy
       obtain ⟨hyl, hyi⟩ := placeO_some hy
       rw [hy] at c3
       simp only [Option.getD_some] at c3
       have okm := h.e.each _ (nodeAt_mem hyl)
       have hleaf : (nodeAt t y).inos = [] := List.eq_nil_of_length_eq_zero (by rw [← okm.len]; omega)
       have g0 := good_without h.e hd hdk hj (c := nameB (nodeAt t d) s) hv (e' := 0) (.inl rfl) (.inr fun q hq hqi => by
        rw [rises_eq h.e.rise hq (nodeAt_mem hyl) (hqi.trans hyi.symm)]; exact hleaf)
       have hkids : ∀ i, kidsB (setB t d (withoutB (nodeAt t d) (nodeAt t d).names[j])) i + (if nameB (nodeAt t d) s = i then 1 else 0) = kidsB t i := fun i => by
        have := kids_without hd ok hj i
        rw [hv] at this
        exact this
       rw [hsj] at g0 hkids
       have hi1 : (withoutB (nodeAt t d) s).ino = (nodeAt t d).ino := rfl
       have hk1 : (withoutB (nodeAt t d) s).kind = (nodeAt t d).kind := rfl
       have hdc : (nodeAt t d).ino ≠ nameB (nodeAt t d) s := by
        intro e
        obtain ⟨r, hr⟩ := h.e.rank
        have := hr _ (nodeAt_mem hd) _ hcm ⟨nodeAt t d, nodeAt_mem hd, e, hdk⟩
        rw [← e] at this
        omega
       have hp2 : p < (setB t d (withoutB (nodeAt t d) s)).nodes.length := by rw [set_len]; exact hpl
       have hd2 : d < (setB t d (withoutB (nodeAt t d) s)).nodes.length := by rw [set_len]; exact hd
       have hpp : (nodeAt (setB t d (withoutB (nodeAt t d) s)) p).kind = 2 ∧ nameB (nodeAt (setB t d (withoutB (nodeAt t d) s)) p) old = (nodeAt t k).ino := by
        by_cases e : d = p
        · subst e
          rw [set_at hd]
          refine ⟨hpk, ?_⟩
          have hne : old ≠ s := by
           intro e2
           subst e2
           exact hc hpn
          rw [without_name ok hdk hne hpn0]; exact hpn
        · rw [set_at_ne e]; exact ⟨hpk, hpn⟩
       refine good_sweep (moved_good g0 hp2 hpp.1 hpp.2 ha0 hd2 (by rw [set_at hd]; exact hdk) (by
        rw [set_at hd]
        have : (withoutB (nodeAt t d) s).names = (nodeAt t d).names.filter fun q => decide (q ≠ s) := names_without_keep _ _ _ ok.len
        rw [this]
        intro hms
        have := (List.mem_filter.1 hms).2
        simp at this) ⟨o1, o2⟩ (by rw [set_at hd]; exact hda) ?_ (fun hdir => ?_))
       · rw [set_at hd]
         show (nodeAt t d).ino = 1 ∨ 0 < kidsB _ (nodeAt t d).ino
         rcases h.held hd with h1 | h1
         · exact .inl h1
         · have := hkids (nodeAt t d).ino
           rw [if_neg (fun e => hdc e.symm)] at this
           right
           omega
       · rw [set_at hd]
         rintro ⟨kk, hkk⟩
         refine hloop ((set_dir h.e.rise hd hi1 hk1 _).1 hdir) ⟨kk, hangs_sub (fun n hn => ?_) kk _ hkk⟩
         rcases set_mem hn with h1 | h1
         · exact ⟨n, h1, rfl, fun i hi => hi⟩
         · exact ⟨nodeAt t d, nodeAt_mem hd, by rw [h1]; rfl, fun i hi => by rw [h1] at hi; exact without_sub hi⟩
     · rename_i hn
       have hn : nameB (nodeAt t d) s = 0 := Decidable.byContradiction hn
       exact good_sweep (moved_good h.e hpl hpk hpn ha0 hd hdk (name_free h.e hd hdk hn) ⟨o1, o2⟩ hda (h.held hd) hloop)
theorem link_good {t : TreeB} (h : Good t) (o : OpB) : Good (linkB t o).1 := by
 unfold linkB
 split
 · exact h
 cases hf : findB t o.path with
 | error x => exact h
 | ok k =>
   obtain ⟨_, _, hk⟩ := find_ok h.e hf
   simp only
   split
   · exact h
   rename_i hkk
   cases hh : homeB t o.to with
   | error x => exact h
   | ok ds =>
     obtain ⟨d, s⟩ := ds
     obtain ⟨hd, hdk, o1, o2, _, l, _, _, _⟩ := home_ok h.e hh
     simp only
     split
     · exact h
     rename_i hn
     have hn : nameB (nodeAt t d) s = 0 := Decidable.byContradiction hn
     split
     · exact h
     rename_i h20
     have h1 : (nodeAt t k).ino ≠ 1 := by
      intro e
      have := rises_inj h.e.rise hk h.e.root0.1 (e.trans h.e.root0.2.1.symm)
      subst this
      exact hkk h.e.root0.2.2
     rw [links_kids h.e (nodeAt_mem hk) h1] at h20
     have g := good_with h.e hd hdk (name_free h.e hd hdk hn) ⟨o1, o2⟩ ⟨h1, nodeAt t k, nodeAt_mem hk, rfl⟩ (h.held hd) (by omega) (fun hdir => by
      obtain ⟨m, hm, hmi, hmk⟩ := hdir
      rw [rises_eq h.e.rise hm (nodeAt_mem hk) hmi] at hmk
      exact absurd hmk hkk) (.inl rfl)
     refine ⟨g, fun m hm hm1 => ?_⟩
     have hkids : ∀ i, kidsB t i ≤ kidsB (setB t d (withB (nodeAt t d) s (nodeAt t k).ino)) i := fun i => by
      have h2 := kids_set t d (withB (nodeAt t d) s (nodeAt t k).ino) hd i
      rw [count_with] at h2
      omega
     rcases set_mem hm with h3 | h3
     · exact Nat.lt_of_lt_of_le (h.2 m h3 hm1) (hkids _)
     · have e3 : m.ino = (nodeAt t d).ino := by rw [h3]; rfl
       rw [e3] at hm1 ⊢
       exact Nat.lt_of_lt_of_le (h.2 _ (nodeAt_mem hd) hm1) (hkids _)
theorem data_good {t : TreeB} (h : Good t) {k : Nat} (hk : k < t.nodes.length) (hkk : (nodeAt t k).kind ≠ 2) {b : List Int} (hb : b.length ≤ 2000) (hi : bytesIn b) : Good (dataB t k b) := by
 unfold dataB
 have ok := h.e.each _ (nodeAt_mem hk)
 have hkids : ∀ i, kidsB (setB t k { nodeAt t k with data := b }) i = kidsB t i := fun i => by
  exact Nat.add_right_cancel (kids_set t k { nodeAt t k with data := b } hk i)
 have hf : (nodeAt t k).kind = 1 ∧ (nodeAt t k).names = [] ∧ (nodeAt t k).inos = [] ∧ (nodeAt t k).data.length ≤ 2000 ∧ bytesIn (nodeAt t k).data := by
  rcases ok.2.2 with h1 | h1
  · exact absurd h1.1 hkk
  · exact h1
 refine ⟨good_set h.e hk rfl rfl ⟨ok.1, ok.2.1, .inr ⟨hf.1, hf.2.1, hf.2.2.1, hb, hi⟩⟩ (fun i hi => h.e.leads _ (nodeAt_mem hk) i hi) (fun i => by rw [hkids]; exact h.e.many i) (fun i hi => by
  rw [hkids]
  obtain ⟨m, hm, rfl, hmk⟩ := hi
  exact h.e.once m hm hmk) (fun m hm h1 h0 => ?_) ?_, fun m hm h1 => ?_⟩
 · rw [hkids] at h0
   rcases set_mem hm with h3 | h3
   · exact h.e.free m h3 h1 h0
   · rw [h3]; exact .inl hf.2.2.1
 · obtain ⟨r, hr⟩ := h.e.rank
   exact ⟨r, fun m hm _ i hi hdi => hr m hm i hi hdi, fun i hi hdi => hr _ (nodeAt_mem hk) i hi hdi⟩
 · rw [hkids]
   rcases set_mem hm with h3 | h3
   · exact h.2 m h3 h1
   · have e3 : m.ino = (nodeAt t k).ino := by rw [h3]
     rw [e3] at h1 ⊢
     exact h.2 _ (nodeAt_mem hk) h1
theorem bytesB_len (b : List Int) (n : Nat) : (bytesB b n).length = n := by unfold bytesB; simp; omega
theorem bytesB_in {b : List Int} (h : bytesIn b) (n : Nat) : bytesIn (bytesB b n) := by
 intro z hz
 unfold bytesB at hz
 rcases List.mem_append.1 hz with h1 | h1
 · exact h z (List.mem_of_mem_take h1)
 · have := List.eq_of_mem_replicate h1
   subst this
   decide
theorem laidB_len (b : List Int) (off : Nat) (d : List Int) (h : off + d.length ≤ b.length) : (laidB b off d).length = b.length := by unfold laidB; simp; omega
theorem laidB_in {b d : List Int} (h : bytesIn b) (hd : bytesIn d) (off : Nat) : bytesIn (laidB b off d) := by
 intro z hz
 unfold laidB at hz
 rcases List.mem_append.1 hz with h1 | h1
 · rcases List.mem_append.1 h1 with h2 | h2
   · exact h z (List.mem_of_mem_take h2)
   · exact hd z h2
 · exact h z (List.mem_of_mem_drop h1)
theorem file_good {t : TreeB} (h : Good t) (o : OpB) (hd : bytesIn o.data) : Good (fileB t o).1 := by
 unfold fileB
 cases hf : findB t o.path with
 | error x => exact h
 | ok k =>
   obtain ⟨_, _, hk⟩ := find_ok h.e hf
   simp only
   split
   · exact h
   rename_i hkk
   have ok := h.e.each _ (nodeAt_mem hk)
   have hin : bytesIn (nodeAt t k).data ∧ (nodeAt t k).data.length ≤ 2000 := by
    rcases ok.2.2 with h1 | h1
    · exact absurd h1.1 hkk
    · exact ⟨h1.2.2.2.2, h1.2.2.2.1⟩
   split
   · split
     · exact h
     · exact h
   split
   · split
     · exact h
     rename_i hr
     split
     · exact h
     refine data_good h hk hkk ?_ (laidB_in (bytesB_in hin.1 _) hd _)
     rw [laidB_len _ _ _ (by rw [bytesB_len]; omega), bytesB_len]
     omega
   split
   · exact h
   rename_i hr
   refine data_good h hk hkk ?_ (bytesB_in hin.1 _)
   rw [bytesB_len]; omega
theorem looks_good {t : TreeB} (o : OpB) : (looksB t o).1 = t := by
 unfold looksB
 cases findB t o.path with
 | error x => rfl
 | ok k =>
   simp only
   split
   · rfl
   · split <;> rfl
theorem do_good {t : TreeB} (h : Good t) (o : OpB) (hd : bytesIn o.data) : Good (doB t o).1 := by
 unfold doB
 split
 · exact makes_good h o
 split
 · rename_i h3; exact removes_good h o h3
 split
 · exact rename_good h o
 split
 · exact link_good h o
 split
 · exact file_good h o hd
 split
 · rw [looks_good]; exact h
 · exact h
end Go.Proofs.YtbebgobboccjcaaGreatDoor
namespace Go.Proofs.YtbebgobboccjcaaGreatDoor
open Go.RowKit Kit
set_option linter.unusedVariables false

def intsV (k : IntKind) (l : List Int) : List Value := l.map (Value.int k)
theorem intsV_len (k : IntKind) (l : List Int) : (intsV k l).length = l.length := by simp [intsV]
theorem intsV_at (k : IntKind) (l : List Int) (j : Nat) (h : j < l.length) : (intsV k l)[j]? = some (.int k (l.getD j 0)) := by simp [intsV, h, List.getD]
structure FN where
 n : NodeB
 d : Value
 m : Value
 i : Value
def FN.cells (f : FN) : List Value := [.int .i64 f.n.ino, .int .i64 f.n.kind, f.d, f.m, f.i]
def FN.val (f : FN) : Value := .agg #[.int .i64 f.n.ino, .int .i64 f.n.kind, f.d, f.m, f.i]
def FN.is (w : World) (f : FN) : Prop := Sees w f.d (intsV .u8 f.n.data) ∧ Sees w f.m (strs f.n.names) ∧ Sees w f.i (intsV .i64 f.n.inos)
theorem FN.is.below {w w' : World} {f : FN} (h : f.is w) (hb : Below w.heap.size w w') : f.is w' := ⟨h.1.below hb, h.2.1.below hb, h.2.2.below hb⟩
def flat (fs : List FN) : List Value := fs.flatMap FN.cells
theorem flat_len (fs : List FN) : (flat fs).length = fs.length * 5 := by
 induction fs with
 | nil => rfl
 | cons f fs ih => unfold flat at *; rw [List.flatMap_cons, List.length_append, ih]; simp [FN.cells]; omega
def noFN : FN := ⟨noNode, .slice none 0 0, .slice none 0 0, .slice none 0 0⟩
theorem flat_at : ∀ (fs : List FN) (k : Nat) (h : k < fs.length) (j : Nat) (hj : j < 5), (flat fs)[k * 5 + j]? = (fs[k].cells)[j]?
 | f :: fs, 0, _, j, hj => by
   unfold flat
   rw [List.flatMap_cons, List.getElem?_append_left (by simp [FN.cells]; omega)]
   simp
 | f :: fs, k + 1, h, j, hj => by
   have ih := flat_at fs k (by simpa using h) j hj
   unfold flat at *
   rw [List.flatMap_cons, List.getElem?_append_right (by simp [FN.cells]; omega)]
   have e : (k + 1) * 5 + j - f.cells.length = k * 5 + j := by simp [FN.cells]; omega
   rw [e, ih]; rfl
def SeesN (w : World) (v : Value) (fs : List FN) : Prop :=
 ∃ ao cap, v = .slice ao fs.length cap ∧ fs.length ≤ cap ∧ cap ≤ maxLen ∧ (ao = none → cap = 0) ∧ (0 < fs.length → ∃ b off, ao = some ⟨b, off, none⟩ ∧ b < w.heap.size ∧ ∀ j x, (flat fs)[j]? = some x → w.cell? ⟨b, off + j, none⟩ = some x)
theorem SeesN.below {w w' : World} {v : Value} {fs : List FN} (h : SeesN w v fs) (hb : Below w.heap.size w w') : SeesN w' v fs := by
 obtain ⟨ao, cap, h1, h2, h3, h4, h5⟩ := h
 refine ⟨ao, cap, h1, h2, h3, h4, fun h0 => ?_⟩
 obtain ⟨b, off, e, hl, hh⟩ := h5 h0
 exact ⟨b, off, e, Nat.lt_of_lt_of_le hl hb.size, fun i x hx => (hb.cell (by exact hl)).trans (hh i x hx)⟩
def At5 (w : World) (b o : Nat) (f : FN) : Prop :=
 w.cell? ⟨b, o, none⟩ = some (.int .i64 f.n.ino) ∧ w.cell? ⟨b, o + 1, none⟩ = some (.int .i64 f.n.kind) ∧ w.cell? ⟨b, o + 2, none⟩ = some f.d ∧ w.cell? ⟨b, o + 3, none⟩ = some f.m ∧ w.cell? ⟨b, o + 4, none⟩ = some f.i
theorem at5_of {w : World} {b off : Nat} {fs : List FN} (hh : ∀ j x, (flat fs)[j]? = some x → w.cell? ⟨b, off + j, none⟩ = some x) {k : Nat} (hk : k < fs.length) : At5 w b (off + k * 5) fs[k] := by
 have hc : ∀ j, j < 5 → ∀ x, (fs[k].cells)[j]? = some x → w.cell? ⟨b, off + k * 5 + j, none⟩ = some x := fun j hj x hx => by
  have := hh (k * 5 + j) x ((flat_at fs k hk j hj).trans hx)
  rw [Nat.add_assoc]; exact this
 exact ⟨hc 0 (by omega) _ rfl, hc 1 (by omega) _ rfl, hc 2 (by omega) _ rfl, hc 3 (by omega) _ rfl, hc 4 (by omega) _ rfl⟩
theorem At5.below {w w' : World} {b o : Nat} {f : FN} (h : At5 w b o f) (hl : b < w.heap.size) (hb : Below w.heap.size w w') : At5 w' b o f :=
 ⟨(hb.cell hl).trans h.1, (hb.cell hl).trans h.2.1, (hb.cell hl).trans h.2.2.1, (hb.cell hl).trans h.2.2.2.1, (hb.cell hl).trans h.2.2.2.2⟩
def TreeAt (w : World) (v : Value) (t : TreeB) : Prop := ∃ sv fs, v = .agg #[sv, .int .i64 t.next] ∧ SeesN w sv fs ∧ fs.map FN.n = t.nodes ∧ ∀ f ∈ fs, f.is w
theorem TreeAt.below {w w' : World} {v : Value} {t : TreeB} (h : TreeAt w v t) (hb : Below w.heap.size w w') : TreeAt w' v t := by
 obtain ⟨sv, fs, h1, h2, h3, h4⟩ := h
 exact ⟨sv, fs, h1, h2.below hb, h3, fun f hf => (h4 f hf).below hb⟩
theorem fs_at {fs : List FN} {t : TreeB} (h : fs.map FN.n = t.nodes) {k : Nat} (hk : k < fs.length) : nodeAt t k = fs[k].n := by
 unfold nodeAt
 rw [← h]
 simp [List.getD, hk]
theorem fs_len {fs : List FN} {t : TreeB} (h : fs.map FN.n = t.nodes) : fs.length = t.nodes.length := by rw [← h, List.length_map]
theorem TreeAt.opened {w : World} {v : Value} {t : TreeB} (h : TreeAt w v t) : ∃ (ao : Option Addr) (cap : Nat) (fs : List FN), v = .agg #[.slice ao t.nodes.length cap, .int .i64 t.next] ∧ t.nodes.length ≤ cap ∧ cap ≤ maxLen ∧ fs.map FN.n = t.nodes ∧ (∀ f ∈ fs, f.is w) ∧
 (0 < t.nodes.length → ∃ b off, ao = some ⟨b, off, none⟩ ∧ b < w.heap.size ∧ ∀ k (hk : k < fs.length), At5 w b (off + k * 5) fs[k]) := by
 obtain ⟨sv, fs, rfl, ⟨ao, cap, rfl, h2, h3, h4, h5⟩, h6, h7⟩ := h
 have hl := fs_len h6
 refine ⟨ao, cap, fs, by rw [hl], by omega, h3, h6, h7, fun h0 => ?_⟩
 obtain ⟨b, off, e, hb, hh⟩ := h5 (by omega)
 exact ⟨b, off, e, hb, fun k hk => at5_of hh hk⟩
set_option maxRecDepth 4000 in
set_option maxHeartbeats 4000000 in
theorem place_any (v : Value) (t : TreeB) (i : Int) (w : World) (hT : TreeAt w v t) :
 Calls Tryz.prog 23 #[v, .int .i64 i] w fun e w' => e = .returned (.int .i64 (placeB t i)) ∧ Below w.heap.size w w' := by
 obtain ⟨ao, cap, fs, rfl, h1, h2, h3, h4, h5⟩ := hT.opened
 have hl := fs_len h3
 have lm : (t.nodes.length : Int) ≤ 9223372036854775807 := by unfold maxLen at h2; omega
 have H5 : Hid (_ → _) := h5
 have H3 : Hid (fs.map FN.n = t.nodes) := h3
 clear h1 h2 h3 h4 h5 hT
 go_enter Tryz.func23, Tryz.ntmps23
 go_wp2
 go_loopw [5] (fun s wr => ∃ k : Nat, k ≤ t.nodes.length ∧ s = .int .i64 (k : Int) ∧ wr = w.alloc (.cells #[.slice ao t.nodes.length cap, .int .i64 t.next] 29) ∧ Hid (∀ j, j < k → (nodeAt t j).ino ≠ i)) (fun s _ => t.nodes.length - (intOf s).toNat)
 case atStart => exact ⟨0, Nat.zero_le _, rfl, rfl, fun j hj => by omega⟩
 case round =>
  obtain ⟨k, hk, rfl, rfl, HN⟩ := hrel
  by_cases hlt : k < t.nodes.length
  · obtain ⟨b, off, hao, hb, hc⟩ := H5.out (by omega)
    subst hao
    have c := At5.below (hc k (by omega)) hb ((Below.refl w.heap.size w).alloc (Nat.le_refl _) (.cells #[.slice (some ⟨b, off, none⟩) t.nodes.length cap, .int .i64 t.next] 29))
    have hn : fs[k].n = nodeAt t k := (fs_at H3.out (by omega)).symm
    obtain ⟨c0, _, _, _, _⟩ := c
    rw [hn] at c0
    obtain ⟨x, hx⟩ : ∃ x, (nodeAt t k).ino = x := ⟨_, rfl⟩
    rw [hx] at c0
    have HX : Hid ((nodeAt t k).ino = x) := hx
    have j0 : (k : Int) < (t.nodes.length : Int) := by omega
    have j1 : (0 : Int) ≤ (k : Int) := by omega
    clear hc hn hx
    by_cases hxi : x = i
    · subst hxi
      have HR : Hid (placeB t x = (k : Int)) := by
       show _ = _
       have : placeO t x = some k := by
        unfold placeO
        rw [List.findIdx?_eq_some_iff_getElem]
        refine ⟨hlt, by rw [← nodeAt_eq t k hlt, HX.out]; simp, fun j hj => ?_⟩
        have := HN.out j hj
        rw [nodeAt_eq t j (by omega)] at this
        simpa using this
       unfold placeB
       rw [this]
      clear HN HX
      go_wp2
      go_ret
      exact ⟨by rw [HR.out]; rfl, (Below.refl _ _).alloc (Nat.le_refl _) _⟩
    · have hxe : (x == i) = false := beq_eq_false_iff_ne.2 hxi
      have HN2 : Hid (∀ j, j < k + 1 → (nodeAt t j).ino ≠ i) := fun j hj => by
       by_cases e : j = k
       · subst e; rw [HX.out]; exact hxi
       · exact HN.out j (by omega)
      clear HN HX hxi
      go_wp2
      go_roundw
      case rel => exact ⟨k + 1, by omega, by simp, by simp, HN2⟩
      case measure => simp [intOf]; omega
  · obtain rfl : k = t.nodes.length := by omega
    have HR : Hid (placeB t i = -1) := by
     show _ = _
     have : placeO t i = none := by
      unfold placeO
      rw [List.findIdx?_eq_none_iff]
      intro n hn
      obtain ⟨j, hj, rfl⟩ := List.mem_iff_getElem.1 hn
      have := HN.out j hj
      rw [nodeAt_eq t j hj] at this
      simpa using this
     unfold placeB
     rw [this]
    clear HN
    go_wp2
    go_ret
    exact ⟨by rw [HR.out]; rfl, (Below.refl _ _).alloc (Nat.le_refl _) _⟩
end Go.Proofs.YtbebgobboccjcaaGreatDoor
namespace Go.Proofs.YtbebgobboccjcaaGreatDoor
open Go.RowKit Kit
set_option linter.unusedVariables false

structure DN where
 n : NodeB
 d : Value
 s : Value
def DN.val (f : DN) : Value := .agg #[.int .i64 f.n.kind, f.d, f.s]
def DN.ent (f : DN) : Int × Value := (f.n.ino, f.val)
def slotC (p : ByteArray × Int) : List Value := [.string p.1, .int .i64 p.2]
def flatS (ps : List (ByteArray × Int)) : List Value := ps.flatMap slotC
theorem flatS_len (ps : List (ByteArray × Int)) : (flatS ps).length = ps.length * 2 := by
 induction ps with
 | nil => rfl
 | cons f fs ih => unfold flatS at *; rw [List.flatMap_cons, List.length_append, ih]; simp [slotC]; omega
theorem flatS_append (a b : List (ByteArray × Int)) : flatS (a ++ b) = flatS a ++ flatS b := by unfold flatS; rw [List.flatMap_append]
theorem flatS_at : ∀ (fs : List (ByteArray × Int)) (k : Nat) (h : k < fs.length) (j : Nat) (hj : j < 2), (flatS fs)[k * 2 + j]? = (slotC fs[k])[j]?
 | f :: fs, 0, _, j, hj => by
   unfold flatS
   rw [List.flatMap_cons, List.getElem?_append_left (by simp [slotC]; omega)]
   simp
 | f :: fs, k + 1, h, j, hj => by
   have ih := flatS_at fs k (by simpa using h) j hj
   unfold flatS at *
   rw [List.flatMap_cons, List.getElem?_append_right (by simp [slotC]; omega)]
   have e : (k + 1) * 2 + j - (slotC f).length = k * 2 + j := by simp [slotC]; omega
   rw [e, ih]; rfl
def SeesS (w : World) (v : Value) (ps : List (ByteArray × Int)) : Prop :=
 ∃ ao cap, v = .slice ao ps.length cap ∧ ps.length ≤ cap ∧ cap ≤ maxLen ∧ (ao = none → cap = 0) ∧ (0 < ps.length → ∃ b off, ao = some ⟨b, off, none⟩ ∧ b < w.heap.size ∧ ∀ j x, (flatS ps)[j]? = some x → w.cell? ⟨b, off + j, none⟩ = some x)
theorem SeesS.below {w w' : World} {v : Value} {ps : List (ByteArray × Int)} (h : SeesS w v ps) (hb : Below w.heap.size w w') : SeesS w' v ps := by
 obtain ⟨ao, cap, h1, h2, h3, h4, h5⟩ := h
 refine ⟨ao, cap, h1, h2, h3, h4, fun h0 => ?_⟩
 obtain ⟨b, off, e, hl, hh⟩ := h5 h0
 exact ⟨b, off, e, Nat.lt_of_lt_of_le hl hb.size, fun i x hx => (hb.cell (by exact hl)).trans (hh i x hx)⟩
theorem at2_of {w : World} {b off : Nat} {ps : List (ByteArray × Int)} (hh : ∀ j x, (flatS ps)[j]? = some x → w.cell? ⟨b, off + j, none⟩ = some x) {k : Nat} (hk : k < ps.length) :
 w.cell? ⟨b, off + k * 2, none⟩ = some (.string ps[k].1) ∧ w.cell? ⟨b, off + k * 2 + 1, none⟩ = some (.int .i64 ps[k].2) := by
 have hc : ∀ j, j < 2 → ∀ x, (slotC ps[k])[j]? = some x → w.cell? ⟨b, off + k * 2 + j, none⟩ = some x := fun j hj x hx => by
  have := hh (k * 2 + j) x ((flatS_at ps k hk j hj).trans hx)
  rw [Nat.add_assoc]; exact this
 exact ⟨hc 0 (by omega) _ rfl, hc 1 (by omega) _ rfl⟩
def DN.is (w : World) (f : DN) : Prop := Sees w f.d (intsV .u8 f.n.data) ∧ SeesS w f.s (pairsB f.n)
theorem DN.is.below {w w' : World} {f : DN} (h : f.is w) (hb : Below w.heap.size w w') : f.is w' := ⟨h.1.below hb, h.2.below hb⟩
def DAt (w : World) (p b : Nat) (ds : List DN) (nx : Int) : Prop :=
 w.heap[p]? = some (.cells #[.map (some b), .int .i64 nx] 52) ∧ MapIs Tryz.prog 3 w b (ds.map DN.ent) ∧ ∀ f ∈ ds, f.is w
def DTree (w : World) (p b : Nat) (t : TreeB) : Prop := ∃ ds, DAt w p b ds t.next ∧ ds.map DN.n = t.nodes
structure Turn (p b : Nat) (w w' : World) : Prop where
 os : w'.os = w.os
 tape : w'.tape = w.tape
 output : w'.output = w.output
 size : w.heap.size ≤ w'.heap.size
 block : ∀ k, k < w.heap.size → k ≠ p → k ≠ b → w'.heap[k]? = w.heap[k]?
theorem Turn.refl (p b : Nat) (w : World) : Turn p b w w := ⟨rfl, rfl, rfl, Nat.le_refl _, fun _ _ _ _ => rfl⟩
theorem Turn.trans {p b : Nat} {w w1 w2 : World} (h : Turn p b w w1) (k : Turn p b w1 w2) : Turn p b w w2 :=
 ⟨k.os.trans h.os, k.tape.trans h.tape, k.output.trans h.output, Nat.le_trans h.size k.size, fun i h1 h2 h3 => (k.block i (Nat.lt_of_lt_of_le h1 h.size) h2 h3).trans (h.block i h1 h2 h3)⟩
theorem turn_below {p b : Nat} {w w' : World} (h : Below w.heap.size w w') : Turn p b w w' := ⟨h.os, h.tape, h.output, h.size, fun k h1 _ _ => h.block k h1⟩
theorem turn_grown {p b : Nat} {w w' : World} (h : w.grownBy w' (some b)) : Turn p b w w' := ⟨h.os, h.tape, h.output, h.size, fun k h1 _ h3 => h.block k h1 (fun e => by injection e with e; exact h3 e)⟩
theorem turn_set (p b : Nat) (w : World) (o : Nat) (v : Value) : Turn p b w (w.setCell ⟨p, o, none⟩ v) := ⟨rfl, rfl, rfl, by simp [World.setCell], fun k _ h2 _ => Below.heap_setCell _ _ _ k h2⟩
theorem Turn.below {p b B : Nat} {w0 w w' : World} (h : Turn p b w w') (h0 : Below B w0 w) (hB : B ≤ w.heap.size) (hp : B ≤ p) (hb : B ≤ b) : Below B w0 w' :=
 h0.trans ⟨h.os, h.tape, h.output, h.size, fun k hk => h.block k (by omega) (by omega) (by omega)⟩
theorem sees_turn {p b : Nat} {w w' : World} {v : Value} {l : List Int} {ds : List DN} {nx : Int} (h : Sees w v (intsV .u8 l)) (hd : DAt w p b ds nx) (ht : Turn p b w w') : Sees w' v (intsV .u8 l) := by
 obtain ⟨ao, cap, h1, h2, h3, h4, h5⟩ := h
 refine ⟨ao, cap, h1, h2, h3, h4, fun h0 => ?_⟩
 obtain ⟨g, off, e, hl, hh⟩ := h5 h0
 have h00 := hh 0 _ (intsV_at .u8 l 0 (by rw [intsV_len] at h0; exact h0))
 have hp : g ≠ p := fun e2 => by
  subst e2
  simp only [World.cell?, hd.1] at h00
  match off with
  | 0 => simp at h00
  | 1 => simp at h00
  | o + 2 => simp at h00
 have hb : g ≠ b := fun e2 => by
  subst e2
  rw [hd.2.1.nocell] at h00
  cases h00
 refine ⟨g, off, e, Nat.lt_of_lt_of_le hl ht.size, fun i x hx => ?_⟩
 rw [← hh i x hx]
 simp only [World.cell?, ht.block g hl hp hb]
theorem SeesS.turn {p b : Nat} {w w' : World} {v : Value} {ps : List (ByteArray × Int)} {ds : List DN} {nx : Int} (h : SeesS w v ps) (hd : DAt w p b ds nx) (ht : Turn p b w w') : SeesS w' v ps := by
 obtain ⟨ao, cap, h1, h2, h3, h4, h5⟩ := h
 refine ⟨ao, cap, h1, h2, h3, h4, fun h0 => ?_⟩
 obtain ⟨g, off, e, hl, hh⟩ := h5 h0
 have h00 := (at2_of hh h0).1
 have hp : g ≠ p := fun e2 => by
  subst e2
  simp only [World.cell?, hd.1] at h00
  match off with
  | 0 => simp at h00
  | 1 => simp at h00
  | o + 2 => simp at h00
 have hb : g ≠ b := fun e2 => by
  subst e2
  rw [hd.2.1.nocell] at h00
  cases h00
 refine ⟨g, off, e, Nat.lt_of_lt_of_le hl ht.size, fun i x hx => ?_⟩
 rw [← hh i x hx]
 simp only [World.cell?, ht.block g hl hp hb]
theorem DN.is.turn {p b : Nat} {w w' : World} {f : DN} {ds : List DN} {nx : Int} (h : f.is w) (hd : DAt w p b ds nx) (ht : Turn p b w w') : f.is w' := ⟨sees_turn h.1 hd ht, h.2.turn hd ht⟩
theorem DAt.ne {w : World} {p b : Nat} {ds : List DN} {nx : Int} (h : DAt w p b ds nx) : p ≠ b := fun e => by
 obtain ⟨xs, c, hb⟩ := h.2.1.isMap
 rw [← e, h.1] at hb
 cases hb
theorem DAt.lt {w : World} {p b : Nat} {ds : List DN} {nx : Int} (h : DAt w p b ds nx) : p < w.heap.size ∧ b < w.heap.size := ⟨(Array.getElem?_eq_some_iff.1 h.1).1, h.2.1.lt⟩
theorem DAt.below {w w' : World} {p b : Nat} {ds : List DN} {nx : Int} (h : DAt w p b ds nx) (hb : Below w.heap.size w w') : DAt w' p b ds nx :=
 ⟨(hb.block p h.lt.1).trans h.1, h.2.1.below hb, fun f hf => (h.2.2 f hf).below hb⟩
theorem DTree.below {w w' : World} {p b : Nat} {t : TreeB} (h : DTree w p b t) (hb : Below w.heap.size w w') : DTree w' p b t := by
 obtain ⟨ds, h1, h2⟩ := h
 exact ⟨ds, h1.below hb, h2⟩
theorem DAt.cells {w : World} {p b : Nat} {ds : List DN} {nx : Int} (h : DAt w p b ds nx) : w.cell? ⟨p, 0, none⟩ = some (.map (some b)) ∧ w.cell? ⟨p, 1, none⟩ = some (.int .i64 nx) ∧ (∀ j, w.frozen? ⟨p, j, none⟩ = false) := by
 have := h.1
 simp [World.cell?, World.frozen?, this]
theorem DAt.setNext {w : World} {p b : Nat} {ds : List DN} {nx : Int} (h : DAt w p b ds nx) (n : Int) : DAt (w.setCell ⟨p, 1, none⟩ (.int .i64 n)) p b ds n := by
 have hne := h.ne
 refine ⟨?_, h.2.1.block (Below.heap_setCell _ _ _ b (fun e => hne e.symm)), fun f hf => (h.2.2 f hf).turn h (turn_set p b w 1 _)⟩
 have := h.1
 simp [World.setCell, Array.getElem?_modify, this]
theorem DAt.mapTo {w w' : World} {p b : Nat} {ds ds' : List DN} {nx : Int} (h : DAt w p b ds nx) (hm : MapIs Tryz.prog 3 w' b (ds'.map DN.ent)) (hg : w.grownBy w' (some b)) (hf : ∀ f ∈ ds', f ∈ ds ∨ f.is w) : DAt w' p b ds' nx := by
 have ht : Turn p b w w' := turn_grown hg
 refine ⟨(hg.block p h.lt.1 (fun e => by injection e with e; exact h.ne e)).trans h.1, hm, fun f h1 => ?_⟩
 rcases hf f h1 with h2 | h2
 · exact (h.2.2 f h2).turn h ht
 · exact h2.turn h ht
def zeroN : Value := .agg #[.int .i64 0, .slice none 0 0, .slice none 0 0]
theorem get_ent {ds : List DN} {t : TreeB} (h : ds.map DN.n = t.nodes) (i : Int) : getK (ds.map DN.ent) i = (placeO t i).map fun k => (ds.getD k ⟨noNode, zeroN, zeroN⟩).val := by
 unfold getK placeO
 rw [← h]
 clear h
 induction ds with
 | nil => rfl
 | cons f r ih =>
   rw [List.map_cons, List.map_cons, List.find?_cons, List.findIdx?_cons]
   have : (f.ent.1 == i) = (f.n.ino == i) := rfl
   rw [this]
   cases f.n.ino == i
   · rw [ih]
     simp only [Bool.false_eq_true, if_false, Option.map_map]
     rfl
   · rfl
end Go.Proofs.YtbebgobboccjcaaGreatDoor
namespace Go.Proofs.YtbebgobboccjcaaGreatDoor
open Go.RowKit Kit
set_option linter.unusedVariables false

theorem newT_at {w : World} {p b : Nat} (hp : w.heap[p]? = some (.cells #[.map (some b), .int .i64 2] 52)) (hm : MapIs Tryz.prog 3 w b [(1, .agg #[.int .i64 2, .slice none 0 0, .slice none 0 0])]) : DTree w p b newB := by
 refine ⟨[⟨⟨1, 2, [], [], []⟩, .slice none 0 0, .slice none 0 0⟩], ⟨hp, hm, ?_⟩, rfl⟩
 intro f hf
 simp at hf
 subst hf
 exact ⟨⟨none, 0, rfl, by simp [intsV], by simp, fun _ => rfl, fun h => by simp [intsV] at h⟩, ⟨none, 0, rfl, by simp [pairsB], by simp, fun _ => rfl, fun h => by simp [pairsB] at h⟩⟩
set_option maxRecDepth 4000 in
set_option maxHeartbeats 4000000 in
theorem dnew_any (w : World) : Calls Tryz.prog 9 #[] w fun e w' => ∃ p b, e = .returned (.pointer (some ⟨p, 0, none⟩)) ∧ DTree w' p b newB ∧ w.heap.size ≤ p ∧ w.heap.size ≤ b ∧ w'.heap.size = w.heap.size + 2 ∧ Below w.heap.size w w' := by
 have hmm := @run_makeMap Tryz.prog
 obtain ⟨w1, hrun, m1, g1, s1⟩ := (mapIs_made Tryz.prog 3 w).put (t := 50) (e := 70) Tryz.underlying3 Tryz.underlying50 (by simp [maxLen]) (i := 1) (by omega) (.agg #[.int .i64 2, .slice none 0 0, .slice none 0 0])
 have H1 : Hid (MapIs Tryz.prog 3 w1 w.heap.size [(1, .agg #[.int .i64 2, .slice none 0 0, .slice none 0 0])] ∧ w1.heap.size = w.heap.size + 1 ∧ Below w.heap.size w w1) := ⟨m1, by rw [s1]; simp, ((Below.refl _ w).alloc (Nat.le_refl _) _).grown g1 (by simp) (fun k hk => by injection hk with hk; omega)⟩
 clear m1 g1 s1
 go_enter Tryz.func9, Tryz.ntmps9
 go_wp2
 go_ret
 have hs := H1.out.2.1
 refine ⟨w1.heap.size, w.heap.size, by first | rfl | simp, newT_at (MapKept.heap_alloc w1 _).1 (H1.out.1.block (Below.heap_alloc _ _ _ (by omega))), by omega, Nat.le_refl _, by simp; omega, H1.out.2.2.alloc (by omega) _⟩
set_option maxRecDepth 4000 in
set_option maxHeartbeats 4000000 in
theorem dmade_any (w : World) (p b : Nat) (t : TreeB) (h : DTree w p b t) : Calls Tryz.prog 32 #[.pointer (some ⟨p, 0, none⟩)] w fun e w' => e = .returned (.pointer (some ⟨p, 0, none⟩)) ∧ w' = w := by
 obtain ⟨ds, hd, _⟩ := h
 obtain ⟨c0, _, _⟩ := hd.cells
 have hq := Go.run_eql_map_nil (P := Tryz.prog) w 50 3 70 (some b) Tryz.underlying50
 clear hd
 go_enter Tryz.func32, Tryz.ntmps32
 go_wp2
 go_ret
 first | exact ⟨rfl, rfl⟩ | trivial
end Go.Proofs.YtbebgobboccjcaaGreatDoor
