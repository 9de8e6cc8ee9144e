/- Maps from texts to values of whatever shape: what a map holds, as a function. (No program in it: the types' numbers and facts are handed in.) -/
import Derived.WalkKit
import Derived.ProofKit
import Derived.Below
import Derived.Maps.RangeWalk
import Derived.Sort.KeysCollected
namespace Go.Proofs.Ythjcmagionaepaa.Kit
open Go.RowKit Go.Maps
set_option linter.unusedVariables false

/-- An element is told by itself. -/
def heldS (v : Value) : Option (DataW Value × List MemPlace) := some (.held v, [])
def litS (s : ByteArray) : Lit := .string s.data.toList
theorem litS_inj {a b : ByteArray} (h : litS a = litS b) : a = b := by
  cases a; cases b
  unfold litS at h
  injection h with h
  exact congrArg ByteArray.mk (Array.toList_inj.1 h)
theorem encS (s : ByteArray) : encStr s.data.toList = .string s := by simp [encStr]
/-- What a map tells of each text. -/
def TellsS (D : DataW Value) (g : ByteArray → Option Value) : Prop := (∀ s z, D.atKey (litS s) (.held z) = .held ((g s).getD z)) ∧ ∀ s, Maps.has D (litS s) = (g s).isSome
/-- Block b is a map that tells g. -/
def MapS (P : Program) (k : TypeId) (w : World) (b : Nat) (g : ByteArray → Option Value) : Prop := ∃ D : DataW Value, w.ownsMap P k heldS b (Maps.size D) D ∧ TellsS D g
def putS (g : ByteArray → Option Value) (x : ByteArray) (v : Value) : ByteArray → Option Value := fun s => if s = x then some v else g s
theorem putS_same (g : ByteArray → Option Value) (x : ByteArray) (v : Value) : putS g x v x = some v := if_pos rfl
theorem putS_other {g : ByteArray → Option Value} {x s : ByteArray} {v : Value} (h : s ≠ x) : putS g x v s = g s := if_neg h
section
variable {P : Program} {k : TypeId} {w : World} {b : Nat} {g : ByteArray → Option Value}
theorem ownsS_tight {n : Nat} {D : DataW Value} (h : w.ownsMap P k heldS b n D) : w.ownsMap P k heldS b (Maps.size D) D := by
  obtain ⟨es, clock, hb, F, hs, rfl⟩ := h
  exact ⟨es, clock, hb, F, by simp [Maps.size, length_sorted], rfl⟩
theorem mapS_made (P : Program) (k : TypeId) (w : World) : MapS P k (w.alloc (.map #[] 0)) w.heap.size fun _ => none :=
  ⟨.map [], ownsS_tight (World.ownsMap_made w P k heldS), fun s z => rfl, fun s => rfl⟩
theorem MapS.lt (h : MapS P k w b g) : b < w.heap.size := by obtain ⟨D, h, _⟩ := h; exact h.lt
theorem MapS.block {w' : World} (h : MapS P k w b g) (e : w'.heap[b]? = w.heap[b]?) : MapS P k w' b g := by
  obtain ⟨D, ⟨xs, clock, hb, r⟩, h2⟩ := h
  exact ⟨D, ⟨xs, clock, e.trans hb, r⟩, h2⟩
theorem MapS.isMap (h : MapS P k w b g) : ∃ xs c, w.heap[b]? = some (.map xs c) := by
  obtain ⟨D, ⟨xs, clock, hb, r⟩, h2⟩ := h
  exact ⟨_, _, hb⟩
theorem MapS.below {w' : World} (h : MapS P k w b g) (hb : Below w.heap.size w w') : MapS P k w' b g := h.block (hb.block b h.lt)
theorem MapS.ncells (h : MapS P k w b g) {cs : Array Value} {ty : TypeId} {q : Nat × Nat} : w.heap[b]? ≠ some (.cells cs ty q) := by
  obtain ⟨xs, c, hb⟩ := h.isMap
  rw [hb]
  intro e
  cases e
theorem keyS {s : ByteArray} (hk : P.underlying k = some .string) (h : s.size ≤ maxLen) : keyOf P k (.string s) = some (litS s) := by
  simp [keyOf, hk, mapKey, litS, h]
/-- m[s]. -/
theorem MapS.look {t e : TypeId} (h : MapS P k w b g) (hk : P.underlying k = some .string) (ht : P.underlying t = some (.map k e)) {z : Value} (hz : (zeroValue e).run P w = .ok z w) {s : ByteArray} (hs : s.size ≤ maxLen) :
    (Instr.lookup t (.map (some b)) (.string s) false).run P w = .ok ((g s).getD z) w := by
  obtain ⟨D, h, hD⟩ := h
  obtain ⟨v, ps, h1, h2⟩ := h.lookup (string_keyed hk) ht hz (zd := .held z) (zp := []) rfl (keyS hk hs)
  rw [hD.1] at h2
  have : v = (g s).getD z := by
    unfold heldS at h2
    injection h2 with h2
    injection h2 with h2 _
    injection h2
  rw [← this]; exact h1
theorem look_nilS {t e : TypeId} (w : World) (hk : P.underlying k = some .string) (ht : P.underlying t = some (.map k e)) {z : Value} (hz : (zeroValue e).run P w = .ok z w) {s : ByteArray} (hs : s.size ≤ maxLen) :
    (Instr.lookup t (.map none) (.string s) false).run P w = .ok z w := Maps.look_nil false (string_keyed hk) ht hz (keyS hk hs)
/-- A map's size is no more than any list that has its keys. -/
theorem nodup_le : ∀ (l m : List (List UInt8)), l.Nodup → (∀ x ∈ l, x ∈ m) → l.length ≤ m.length
  | [], m, _, _ => Nat.zero_le _
  | a :: r, m, h, hm => by
    obtain ⟨h1, h2⟩ := List.nodup_cons.1 h
    have ha := hm a List.mem_cons_self
    have := nodup_le r (m.erase a) h2 (fun x hx => (List.mem_erase_of_ne (by intro e; subst e; exact h1 hx)).2 (hm x (List.mem_cons_of_mem _ hx)))
    rw [List.length_erase_of_mem ha] at this
    have := List.length_pos_of_mem ha
    simp only [List.length_cons]
    omega
theorem keysS_of {n : Nat} {D : DataW Value} (h : w.ownsMap P k heldS b n D) (hk : P.underlying k = some .string) : (strKeys D).Nodup ∧ (strKeys D).length = Maps.size D ∧ ∀ x, x ∈ strKeys D ↔ Maps.has D (.string x) = true := by
  obtain ⟨es, rfl, hp, _⟩ := h.entries (string_keyed hk)
  obtain ⟨es', e', hks⟩ := h.keysOf
  injection e' with e'
  subst e'
  have hstr : ∀ p ∈ es, ∃ x, p.1 = .string x := fun p hp' => by
    obtain ⟨v, hv⟩ := hks p hp'
    obtain ⟨x, _, h2, _⟩ := Maps.keyOf_str hk hv
    exact ⟨x, h2⟩
  have hnd : (strKeys (.map es) : List (List UInt8)).Nodup := by
    show (es.map fun p => strOf p.1).Nodup
    refine List.pairwise_map.2 (hp.imp_of_mem fun {p q} hp' hq' hne e => hne ?_)
    obtain ⟨a, ha⟩ := hstr p hp'
    obtain ⟨c, hc⟩ := hstr q hq'
    rw [ha, hc] at e ⊢
    exact congrArg _ e
  refine ⟨hnd, by simp [strKeys, Maps.size], fun x => ?_⟩
  rw [has_eq, List.any_eq_true]
  show x ∈ (es.map fun p => strOf p.1) ↔ _
  rw [List.mem_map]
  constructor
  · rintro ⟨p, hp', rfl⟩
    obtain ⟨y, hy⟩ := hstr p hp'
    refine ⟨p, hp', ?_⟩
    rw [hy]
    exact WideAt.sameKey_self (by trivial)
  · rintro ⟨p, hp', hsk⟩
    obtain ⟨y, hy⟩ := hstr p hp'
    refine ⟨p, hp', ?_⟩
    have := WideAt.sameKey_eq hsk
    rw [this]
    rfl
theorem MapS.count (h : MapS P k w b g) (hk : P.underlying k = some .string) (L : List ByteArray) (hL : ∀ s, (g s).isSome = true → s ∈ L) : ∃ D : DataW Value, w.ownsMap P k heldS b (Maps.size D) D ∧ TellsS D g ∧ Maps.size D ≤ L.length := by
  obtain ⟨D, h, hD⟩ := h
  obtain ⟨h1, h2, h3⟩ := keysS_of h hk
  refine ⟨D, h, hD, ?_⟩
  rw [← h2, ← List.length_map (f := fun s : ByteArray => s.data.toList) (as := L)]
  refine nodup_le _ _ h1 fun x hx => ?_
  have h4 := (h3 x).1 hx
  have h5 := hD.2 ⟨x.toArray⟩
  have e : litS ⟨x.toArray⟩ = .string x := by simp [litS]
  rw [e, h4] at h5
  exact List.mem_map.2 ⟨⟨x.toArray⟩, hL _ h5.symm, by simp⟩
/-- m[x] = v. -/
theorem MapS.put {t e : TypeId} (h : MapS P k w b g) (hk : P.underlying k = some .string) (ht : P.underlying t = some (.map k e)) (L : List ByteArray) (hL : ∀ s, (g s).isSome = true → s ∈ L) (hn : L.length < maxLen) {x : ByteArray} (hx : x.size ≤ maxLen) (v : Value) :
    ∃ w', (Instr.mapUpdate t (.map (some b)) (.string x) v).run P w = .ok () w' ∧ MapS P k w' b (putS g x v) ∧ w.grownBy w' (some b) ∧ w'.heap.size = w.heap.size := by
  obtain ⟨D, h, hD, hs⟩ := h.count hk L hL
  obtain ⟨w', hrun, r1, r2⟩ := h.store (string_keyed hk) ht (Nat.lt_of_le_of_lt hs hn) (keyS hk hx) (d := .held v) (ps := []) rfl
  refine ⟨w', hrun, ⟨D.put (litS x) (.held v), ownsS_tight r1, fun s z => ?_, fun s => ?_⟩, r2.grown, by obtain ⟨_, _, _, _, _, rfl⟩ := r2; simp [ChangeMaps.setBlock]⟩
  · by_cases hsx : s = x
    · subst hsx
      rw [putS_same, atKey_put_same h.isMap (by trivial)]
      rfl
    · rw [putS_other hsx, atKey_put_other (fun e => hsx (litS_inj e))]
      exact hD.1 s z
  · by_cases hsx : s = x
    · subst hsx
      rw [putS_same, has_put_same h.isMap (by trivial)]
      rfl
    · rw [putS_other hsx, has_put_other (fun e => hsx (litS_inj e))]
      exact hD.2 s
/-- A range over it, under way: ss have come. -/
def RangeS (P : Program) (k : TypeId) (w : World) (b r : Nat) (g : ByteArray → Option Value) (ss : List ByteArray) (cnt : Nat) : Prop :=
  ∃ (D : DataW Value) (left : Lit → Bool), w.ranges P k heldS b r (Maps.size D) D left cnt ∧ TellsS D g ∧ (∀ s, left (litS s) = true ↔ (g s).isSome = true ∧ s ∉ ss) ∧ ss.length + cnt ≤ Maps.size D
theorem RangeS.map {r cnt : Nat} {ss : List ByteArray} (h : RangeS P k w b r g ss cnt) : MapS P k w b g := by
  obtain ⟨D, left, h1, h2, _⟩ := h
  exact ⟨D, h1.owns, h2⟩
theorem RangeS.below {w' : World} {r cnt : Nat} {ss : List ByteArray} (h : RangeS P k w b r g ss cnt) (hb : Below w.heap.size w w') : RangeS P k w' b r g ss cnt := by
  obtain ⟨D, left, h1, h2, h3, h4⟩ := h
  refine ⟨D, left, ?_, h2, h3, h4⟩
  have l1 := h1.owns.lt
  have l2 := h1.lt
  obtain ⟨xs, clock, since, seen, c0, hb1, F, hs, hD, hr, rest⟩ := h1
  exact ⟨xs, clock, since, seen, c0, (hb.block b l1).trans hb1, F, hs, hD, (hb.block r l2).trans hr, rest⟩
theorem RangeS.left_eq {r cnt : Nat} {ss : List ByteArray} (h : RangeS P k w b r g ss cnt) : w.rangeLeft b r = cnt := by
  obtain ⟨D, left, h1, _⟩ := h
  exact h1.left_eq
theorem RangeS.rlt {r cnt : Nat} {ss : List ByteArray} (h : RangeS P k w b r g ss cnt) : r < w.heap.size := by
  obtain ⟨D, left, h1, _⟩ := h
  exact h1.lt
theorem RangeS.le {r cnt : Nat} {ss : List ByteArray} (h : RangeS P k w b r g ss cnt) (hk : P.underlying k = some .string) (L : List ByteArray) (hL : ∀ s, (g s).isSome = true → s ∈ L) : ss.length + cnt ≤ L.length := by
  obtain ⟨D, left, h1, h2, h3, h4⟩ := h
  obtain ⟨k1, k2, k3⟩ := keysS_of h1.owns hk
  refine Nat.le_trans h4 ?_
  rw [← k2, ← List.length_map (f := fun s : ByteArray => s.data.toList) (as := L)]
  refine nodup_le _ _ k1 fun x hx => ?_
  have h6 := (k3 x).1 hx
  have h5 := h2.2 ⟨x.toArray⟩
  have e : litS ⟨x.toArray⟩ = .string x := by simp [litS]
  rw [e, h6] at h5
  exact List.mem_map.2 ⟨⟨x.toArray⟩, hL _ h5.symm, by simp⟩
theorem MapS.range {t e : TypeId} (h : MapS P k w b g) (hk : P.underlying k = some .string) (ht : P.underlying t = some (.map k e)) :
    ∃ w' cnt, (Instr.range t (.map (some b))).run P w = .ok (.pointer (some ⟨w.heap.size, 0, none⟩)) w' ∧ RangeS P k w' b w.heap.size g [] cnt ∧ w.grownBy w' none ∧ w'.heap.size = w.heap.size + 1 := by
  obtain ⟨D, h, hD⟩ := h
  obtain ⟨w', h1, h2, h3, h4⟩ := h.range (string_keyed hk) ht
  exact ⟨w', _, h1, ⟨D, _, h2, hD, fun s => by rw [hD.2 s]; simp, by simp⟩, h3, h4⟩
theorem wpList_nextS {ops : Array Oper} {rest : List Oper} {o : Oper} {a : Act} {Q : Exit → Act → World → Prop} (hg : o.guard = none) (it : Operand) (hop : o.op = Op.next it false) (k : TypeId) (hk : P.underlying k = some .string)
    (b r : Nat) (g : ByteArray → Option Value) (ss : List ByteArray) (cnt : Nat) (hit : a.eval it = .pointer (some ⟨r, 0, none⟩)) (h : RangeS P k w b r g ss cnt)
    (hDone : (∀ s, (g s).isSome = true → s ∈ ss) → wpList P ops Q rest (a.put o.dst (.tuple #[.bool false])) w)
    (hMore : ∀ (x : ByteArray) (v : Value) (w' : World) (cnt' : Nat), g x = some v → x ∉ ss → x.size ≤ maxLen → RangeS P k w' b r g (ss ++ [x]) cnt' → cnt' < cnt → w.grownBy w' (some r) → w'.heap.size = w.heap.size →
      (Instr.entry (.pointer (some ⟨r, 0, none⟩))).run P w' = .ok (.tuple #[.string x, v]) w' → wpList P ops Q rest (a.put o.dst (.tuple #[.bool true, .string x, v])) w') :
    wpList P ops Q (o :: rest) a w := by
  refine wpList_plain hg fun K' hK' => ?_
  unfold Oper.wp
  obtain ⟨D, left, h1, hD, hL, hc⟩ := h
  rcases h1.next (string_keyed hk) o.type with ⟨h0, hl, hrun⟩ | ⟨key, v, kl, y, w', cnt', hkey, hlk, hv, hat, hrun, hrg, hlt, hgr, hsz, hen⟩
  · simp [execOp, hop, hit, hrun, Result.andThen]
    refine hK' _ _ (hDone fun s hs => ?_)
    have h2 := hL s
    rw [hl, hs] at h2
    simpa using h2
  · obtain ⟨xl, rfl, rfl, hxs⟩ := Maps.keyOf_str hk hkey
    obtain ⟨x, hx⟩ : ∃ x : ByteArray, xl = x.data.toList := ⟨⟨xl.toArray⟩, by simp⟩
    subst hx
    have hl2 : left (litS x) = true := hlk
    rw [hL x] at hl2
    have hy : y.1 = .held v := by
      unfold heldS at hv
      injection hv with hv
      rw [← hv]
    obtain ⟨u, hu⟩ := Option.isSome_iff_exists.1 hl2.1
    have huv : u = v := by
      have e1 := hat (.held v)
      have e2 := hD.1 x v
      rw [show (Lit.string x.data.toList) = litS x from rfl, e2, hu, hy] at e1
      injection e1
    subst huv
    rw [encS] at hrun hen
    simp [execOp, hop, hit, hrun, Result.andThen]
    refine hK' _ _ (hMore x u w' cnt' hu hl2.2 (by simpa using hxs) ⟨D, _, hrg, hD, fun s => ?_, ?_⟩ hlt hgr hsz hen)
    · show (left (litS s) && !(litS s).sameKey (litS x)) = true ↔ _
      rw [Bool.and_eq_true, hL s]
      by_cases hsx : s = x
      · subst hsx
        rw [WideAt.sameKey_self (by trivial)]
        simp
      · rw [sameKey_ne (fun e => hsx (litS_inj e))]
        simp [hsx]
    · simp only [List.length_append, List.length_cons, List.length_nil]
      omega
end
end Go.Proofs.Ythjcmagionaepaa.Kit
