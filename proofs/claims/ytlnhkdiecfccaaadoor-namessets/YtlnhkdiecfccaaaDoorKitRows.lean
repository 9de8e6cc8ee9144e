/- Slices of integers, of whatever program: a row of the call's own, what a slice shows, bytes as a string, append. (No program in it: the types' numbers and facts are handed in.) -/
import Derived.WalkKit
import Derived.ProofKit
import Derived.OpenShut
import Derived.Below
import Derived.Laws.IdiomStrings
import Derived.Laws.StructEq
import Derived.Laws.AppendOwnNone
import Derived.Lib.AppendStr
namespace Go.Proofs.YtlnhkdiecfccaaaDoor.Kit
open Go.ChangeShapes Go.WideShapes Go.ChangeAt Go.RowKit
set_option linter.unusedVariables false

/-- Each number is a byte; a word. -/
def bytesIn (zs : List Int) : Prop := ∀ z ∈ zs, 0 ≤ z ∧ z < 256
def wordsIn (zs : List Int) : Prop := ∀ z ∈ zs, 0 ≤ z ∧ z < 18446744073709551616
theorem bytesIn_get {zs : List Int} (h : bytesIn zs) {i : Nat} (hi : i < zs.length) : 0 ≤ zs.getD i 0 ∧ zs.getD i 0 < 256 := by
  have := h zs[i] (List.getElem_mem hi); simpa [List.getD, hi] using this
theorem wordsIn_get {zs : List Int} (h : wordsIn zs) {i : Nat} (hi : i < zs.length) : 0 ≤ zs.getD i 0 ∧ zs.getD i 0 < 18446744073709551616 := by
  have := h zs[i] (List.getElem_mem hi); simpa [List.getD, hi] using this
theorem bytesIn_drop {zs : List Int} (h : bytesIn zs) (k : Nat) : bytesIn (zs.drop k) := fun z hz => h z (List.mem_of_mem_drop hz)
theorem bytesIn_take {zs : List Int} (h : bytesIn zs) (k : Nat) : bytesIn (zs.take k) := fun z hz => h z (List.mem_of_mem_take hz)
theorem bytesIn_append {xs ys : List Int} (hx : bytesIn xs) (hy : bytesIn ys) : bytesIn (xs ++ ys) := fun z hz => by
  rcases List.mem_append.1 hz with h | h
  · exact hx z h
  · exact hy z h
theorem bytesIn_set {xs : List Int} (hx : bytesIn xs) (i : Nat) {z : Int} (h0 : 0 ≤ z) (h1 : z < 256) : bytesIn (xs.set i z) := fun y hy => by
  rcases List.mem_or_eq_of_mem_set hy with h | rfl
  · exact hx y h
  · exact ⟨h0, h1⟩

/-- The slice value v is a row of the call's own (blocks from 'base' on), and holds the numbers zs. -/
def Row (w : World) (base : Nat) (k : IntKind) (e : TypeId) (v : Value) (zs : List Int) : Prop := w.ownsRow base e 1 v zs.length (zs.map (Value.int k))
/-- What a slice value shows; where it shows something it lies below block B. -/
def Vw (B : Nat) (w : World) (k : IntKind) (v : Value) (zs : List Int) : Prop :=
  (zs = [] ∧ ∃ ao cap, v = .slice ao 0 cap ∧ (ao = none → cap = 0) ∧ cap ≤ maxLen) ∨
  (0 < zs.length ∧ ∃ b off cap, v = .slice (some ⟨b, off, none⟩) zs.length cap ∧ zs.length ≤ cap ∧ cap ≤ maxLen ∧ b < B ∧ ∀ i, i < zs.length → w.cell? ⟨b, off + i, none⟩ = some (.int k (zs.getD i 0)))

theorem row_form {w : World} {base : Nat} {k : IntKind} {e : TypeId} {v : Value} {zs : List Int} (h : Row w base k e v zs) (hz : 0 < zs.length) :
    ∃ g cap, v = .slice (some ⟨g, 0, none⟩) zs.length cap ∧ base ≤ g ∧ g < w.heap.size ∧ zs.length ≤ cap ∧ cap ≤ maxLen ∧ ∀ i, i < zs.length → w.cell? ⟨g, i, none⟩ = some (.int k (zs.getD i 0)) := by
  have h0 := h
  unfold Row at h
  obtain ⟨h1, h2⟩ := h
  rcases h2 with ⟨_, h2⟩ | ⟨g, cap, cur, hv, hg, hh, hn, hm, _, _⟩
  · omega
  · refine ⟨g, cap, hv, hg, ?_, hn, hm, ?_⟩
    · exact (Array.getElem?_eq_some_iff.1 hh).1
    · intro i hi
      subst hv
      unfold Row at h0
      rw [h0.cellAt i (by omega)]
      simp [hi]
theorem row_shape {w : World} {base : Nat} {k : IntKind} {e : TypeId} {v : Value} {zs : List Int} (h : Row w base k e v zs) : ∃ ao cap, v = .slice ao zs.length cap := by
  unfold Row at h
  obtain ⟨h1, h2⟩ := h
  rcases h2 with ⟨h2, h3⟩ | ⟨g, cap, cur, hv, _⟩
  · exact ⟨none, 0, by rw [h3]; exact h2⟩
  · exact ⟨_, cap, hv⟩
theorem row_view {w : World} {base : Nat} {k : IntKind} {e : TypeId} {v : Value} {zs : List Int} (h : Row w base k e v zs) : Vw w.heap.size w k v zs := by
  by_cases hz : 0 < zs.length
  · obtain ⟨g, cap, hv, _, h1, h2, h3, h4⟩ := row_form h hz
    exact .inr ⟨hz, g, 0, cap, hv, h2, h3, h1, by simpa using h4⟩
  · have e0 : zs = [] := List.eq_nil_of_length_eq_zero (by omega)
    subst e0
    refine .inl ⟨rfl, ?_⟩
    obtain ⟨h1, h2⟩ := h
    rcases h2 with ⟨h2, _⟩ | ⟨g, cap, cur, hv, hg, hh, hn, hm, _, _⟩
    · exact ⟨none, 0, h2, fun _ => rfl, by simp⟩
    · exact ⟨_, cap, hv, by simp, hm⟩
theorem Vw.below {B : Nat} {w w' : World} {k : IntKind} {v : Value} {zs : List Int} (h : Vw B w k v zs) (hb : Below B w w') : Vw B w' k v zs := by
  rcases h with h | ⟨hz, b, off, cap, hv, h1, h2, h3, h4⟩
  · exact .inl h
  · exact .inr ⟨hz, b, off, cap, hv, h1, h2, h3, fun i hi => (hb.cell (by exact h3)).trans (h4 i hi)⟩
theorem Vw.mono {B B' : Nat} {w : World} {k : IntKind} {v : Value} {zs : List Int} (h : Vw B w k v zs) (hB : B ≤ B') : Vw B' w k v zs := by
  rcases h with h | ⟨hz, b, off, cap, hv, h1, h2, h3, h4⟩
  · exact .inl h
  · exact .inr ⟨hz, b, off, cap, hv, h1, h2, by omega, h4⟩
theorem Vw.cut {B : Nat} {w : World} {k : IntKind} {b off n cap : Nat} {zs : List Int} (h : Vw B w k (.slice (some ⟨b, off, none⟩) n cap) zs) (j : Nat) (hj : j ≤ zs.length) : Vw B w k (.slice (some ⟨b, off, none⟩) j cap) (zs.take j) := by
  have hl : (zs.take j).length = j := by rw [List.length_take]; omega
  rcases h with ⟨rfl, ao, c, he, hn, hm⟩ | ⟨hz, b', off', c, he, h1, h2, h3, h4⟩
  · simp at hj
    subst hj
    simp only [Value.slice.injEq] at he
    exact .inl ⟨by simp, _, cap, rfl, by simp, by rw [he.2.2]; exact hm⟩
  · simp only [Value.slice.injEq, Option.some.injEq, Addr.mk.injEq, and_true] at he
    obtain ⟨⟨rfl, rfl⟩, rfl, rfl⟩ := he
    by_cases h0 : j = 0
    · subst h0; exact .inl ⟨by simp, _, cap, rfl, by simp, h2⟩
    · refine .inr ⟨by omega, b, off, cap, by rw [hl], by omega, h2, h3, ?_⟩
      intro i hi
      rw [h4 i (by omega)]
      simp [List.getD, show i < j by omega]
/-- Bytes as a string. -/
def strOf (zs : List Int) : ByteArray := ⟨(zs.map fun n => UInt8.ofNat n.toNat).toArray⟩
theorem strOf_inj {xs ys : List Int} (hx : bytesIn xs) (hy : bytesIn ys) (h : strOf xs = strOf ys) : xs = ys := by
  have h1 : (xs.map fun n => UInt8.ofNat n.toNat) = ys.map fun n => UInt8.ofNat n.toNat := by
    have := congrArg (fun b : ByteArray => b.data.toList) h; simpa [strOf] using this
  have key : ∀ n : Int, 0 ≤ n → n < 256 → ((UInt8.ofNat n.toNat).toNat : Int) = n := fun n a b => by
    rw [UInt8.toNat_ofNat', Nat.mod_eq_of_lt (by omega)]; omega
  have h2 := congrArg (List.map fun u : UInt8 => (u.toNat : Int)) h1
  simp only [List.map_map] at h2
  have ex : ∀ zs : List Int, bytesIn zs → zs.map ((fun u : UInt8 => (u.toNat : Int)) ∘ fun n => UInt8.ofNat n.toNat) = zs := fun zs hz => by
    conv => rhs; rw [← List.map_id zs]
    exact List.map_congr_left fun z hz' => key z (hz z hz').1 (hz z hz').2
  rwa [ex xs hx, ex ys hy] at h2
theorem str_eq {xs ys : List Int} (hx : bytesIn xs) (hy : bytesIn ys) : ((strOf xs).toList == (strOf ys).toList) = decide (xs = ys) := by
  by_cases h : xs = ys
  · subst h; simp
  · have k : ¬ (strOf xs).toList = (strOf ys).toList := fun k => by
      rw [ByteArray.toList_eq, ByteArray.toList_eq] at k
      exact h (strOf_inj hx hy (WideShapes.bytes_inj k))
    rw [beq_eq_false_iff_ne.2 k]; simp [h]
theorem strOf_fold : ∀ (l : List Int) (r : ByteArray), l.foldl (fun r n => r.push (UInt8.ofNat n.toNat)) r = ⟨r.data ++ (l.map fun n => UInt8.ofNat n.toNat).toArray⟩
  | [], r => by simp
  | b :: l, r => by
    simp only [List.map_cons, List.foldl_cons]
    rw [strOf_fold l]
    simp [ByteArray.push]
/-- 'string(b)' of a slice of bytes. -/
theorem conv_view {P : Program} {T S E : TypeId} (hT : P.underlying T = some (.slice E)) (hE : P.underlying E = some (.int .u8)) (hS : P.underlying S = some .string) {B : Nat} {w : World} {v : Value} {zs : List Int} (h : Vw B w .u8 v zs) : (convert T S v).run P w = .ok (.string (strOf zs)) w := by
  have fin : ∀ l : List Int, l.foldl (fun r n => r.push (UInt8.ofNat n.toNat)) ByteArray.empty = strOf l := fun l => by
    rw [strOf_fold]; unfold strOf; rw [show ByteArray.empty.data = #[] from rfl]; simp
  rcases h with ⟨rfl, ao, cap, rfl, hn, _⟩ | ⟨hz, b, off, cap, rfl, h1, h2, h3, h4⟩
  · rw [run_convert_bytes_string w T S E ao 0 cap hT hE hS]
    cases ao with
    | none => rw [hn rfl]; rfl
    | some a =>
      have hl := run_loadCells_list (P := P) w a (([] : List Int).map (Value.int .u8)) (fun j v hj => by simp at hj)
      rw [run_bytesToString w a 0 cap [] hl, fin]
  · rw [run_convert_bytes_string w T S E _ _ cap hT hE hS]
    have hl := run_loadCells_list (P := P) w ⟨b, off, none⟩ (zs.map (Value.int .u8)) (fun j v hj => by
      have hj' : j < zs.length := by have := (List.getElem?_eq_some_iff.1 hj).1; simpa using this
      rw [Addr.add_lit, h4 j hj']
      rw [← hj]; simp [hj'])
    rw [List.length_map] at hl
    rw [run_bytesToString w _ _ cap zs hl, fin]
theorem conv_empty {P : Program} {T S E : TypeId} (hT : P.underlying T = some (.slice E)) (hE : P.underlying E = some (.int .u8)) (hS : P.underlying S = some .string) (ao : Option Addr) (cap : Nat) (w : World) : (convert T S (.slice ao 0 cap)).run P w = .ok (.string ⟨#[]⟩) w := by
  rw [run_convert_bytes_string w T S E ao 0 cap hT hE hS]
  cases ao with
  | none => rfl
  | some a =>
    have hl := run_loadCells_list (P := P) w a (([] : List Int).map (Value.int .u8)) (fun j v hj => by simp at hj)
    rw [run_bytesToString w a 0 cap [] hl]; rfl
/-- The bytes at a..b of what a slice shows. -/
theorem conv_part {P : Program} {T S E : TypeId} (hT : P.underlying T = some (.slice E)) (hE : P.underlying E = some (.int .u8)) (hS : P.underlying S = some .string) (b off cap c at' m : Nat) (zs : List Int) (w : World) (hm : at' + m ≤ zs.length)
    (hc : ∀ i, i < zs.length → w.cell? ⟨b, off + i, none⟩ = some (.int .u8 (zs.getD i 0))) (hcap : (c : Int) ≤ 9223372036854775807) (hmc : m ≤ c) :
    (convert T S (.slice (some ⟨b, off + at', none⟩) m c)).run P w = .ok (.string (strOf ((zs.drop at').take m))) w := by
  have hl : ((zs.drop at').take m).length = m := by rw [List.length_take, List.length_drop]; omega
  by_cases h0 : 0 < m
  · refine conv_view hT hE hS (B := b + 1) (.inr ⟨by omega, b, off + at', c, by rw [hl], by omega, by unfold maxLen; omega, by omega, ?_⟩)
    intro i hi
    rw [Nat.add_assoc, hc (at' + i) (by omega)]
    simp [List.getD, show i < m by omega]
  · have e : m = 0 := by omega
    subst e
    rw [conv_empty hT hE hS]; rfl
theorem row_block {w : World} {base : Nat} {k : IntKind} {e : TypeId} {v : Value} {zs : List Int} (h : Row w base k e v zs) : ∀ j, v.ownBlock = some j → base ≤ j := by
  intro j hj
  unfold Row at h
  exact (h.lt j hj).1
theorem size_ok {n bytes : Nat} (hb : bytes ≤ 8) (h : n * 8 ≤ 140737488355328) : n * bytes ≤ 140737488355328 := Nat.le_trans (Nat.mul_le_mul_left n hb) h
theorem wpList_app {P : Program} {T E : TypeId} {k : IntKind} {bytes : Nat} (hT : P.underlying T = some (.slice E)) (hI : (P.info? E).map (fun i => (i.zero, i.size, i.bytes)) = some (some (.int k 0), 1, bytes)) (hby : bytes ≤ 8) {ops : Array Oper} {rest : List Oper} {o : Oper} {a : Act} {Q : Exit → Act → World → Prop} {w : World} (hgd : o.guard = none) (s x : Operand)
    (ho : o.op = .call { callee := .builtin .append, args := #[s, x], argTypes := #[T, T] }) (base : Nat) (v : Value) (xs : List Int) (hs : a.eval s = v) (hown : Row w base k E v xs)
    (B : Nat) (y : Value) (news : List Int) (hx : a.eval x = y) (hv : Vw B w k y news) (hlen : (xs.length + news.length) * 8 ≤ 140737488355328) (hbase : base ≤ w.heap.size)
    (h : ∀ v' w', Row w' base k E v' (xs ++ news) → Below base w w' → wpList P ops Q rest (a.put o.dst v') w') : wpList P ops Q (o :: rest) a w := by
  obtain ⟨i0, hi, hz0, hz1, hz2⟩ := info_parts hI
  have fin : ∀ v' w', w'.ownsRow base E 1 v' (xs.length + news.length) (xs.map (Value.int k) ++ news.map (Value.int k)) → w.grownBy w' v.ownBlock → wpList P ops Q rest (a.put o.dst v') w' := by
    intro v' w' h1 h2
    refine h v' w' ?_ ((Below.refl _ _).grown h2 hbase (row_block hown))
    unfold Row
    rw [List.map_append, List.length_append]; exact h1
  rcases hv with ⟨rfl, ao, cap, rfl, hn, hcm⟩ | ⟨hz, b, off, cap, rfl, h1, h2, h3, h4⟩
  · cases ao with
    | none =>
      rw [hn rfl] at hx
      refine wpList_append_own_none hgd s x T ho base E i0 1 hT hi v xs.length (xs.map (Value.int k)) hs hown hx (h v w ?_ (Below.refl _ _))
      rw [List.append_nil]; exact hown
    | some ad =>
      refine wpList_append_own _ hgd s x T ho base E i0 (.int k 0) 1 bytes hT hi hz0 hz1 hz2 rfl (by omega) v xs.length (xs.map (Value.int k)) hs hown ad 0 cap [] hx rfl (by intro j u hj; simp at hj) (by intro u hu; simp at hu) (by unfold maxLen; simp at hlen; omega) (size_ok hby (by simp at hlen ⊢; omega)) hbase ?_
      intro v' w' k1 k2 _
      exact fin v' w' (by simpa using k1) k2
  · refine wpList_append_own _ hgd s x T ho base E i0 (.int k 0) 1 bytes hT hi hz0 hz1 hz2 rfl (by omega) v xs.length (xs.map (Value.int k)) hs hown ⟨b, off, none⟩ news.length cap (news.map (Value.int k)) hx (by simp) ?_ (ints_oneCell _ _) (by unfold maxLen; omega) (size_ok hby hlen) hbase ?_
    · intro j u hj
      have hj' : j < news.length := by have := (List.getElem?_eq_some_iff.1 hj).1; simpa using this
      rw [Addr.add_lit, h4 j hj', ← hj]; simp [hj']
    · intro v' w' k1 k2 _
      exact fin v' w' k1 k2
/-- A new row with nothing in it: '[]byte{}'. -/
theorem row_empty (w : World) (k : IntKind) (e : TypeId) (base : Nat) (hb : base ≤ w.heap.size) : Row (w.alloc (.cells #[] e)) base k e (.slice (some ⟨w.heap.size, 0, none⟩) 0 0) [] :=
  World.ownsRow_lit (size := 1) w #[] 0 hb (by simp) rfl
/-- A new row with one byte in it: what 'append(b, x)' lays first. -/
theorem view_one (w : World) (k : IntKind) (e : TypeId) (z : Int) (H : Nat) (hH : w.heap.size = H) : Vw (H + 1) (w.alloc (.cells #[.int k z] e)) k (.slice (some ⟨H, 0, none⟩) 1 1) [z] := by
  subst hH
  refine .inr ⟨by simp, w.heap.size, 0, 1, rfl, by simp, by unfold maxLen; omega, by omega, ?_⟩
  intro i hi
  match i, hi with
  | 0, _ => simp
theorem Row.mono {w : World} {base base' : Nat} {k : IntKind} {e : TypeId} {v : Value} {zs : List Int} (h : Row w base k e v zs) (hb : base' ≤ base) : Row w base' k e v zs := by
  obtain ⟨h1, h2⟩ := h
  refine ⟨h1, ?_⟩
  rcases h2 with h2 | ⟨g, cap, cur, hv, hg, r⟩
  · exact .inl h2
  · exact .inr ⟨g, cap, cur, hv, by omega, r⟩
theorem Row.alloc {w : World} {base : Nat} {k : IntKind} {e : TypeId} {v : Value} {zs : List Int} (h : Row w base k e v zs) (o : Obj) : Row (w.alloc o) base k e v zs := World.ownsRow.alloc h o
/-- A row stands where nothing below some block has turned, and its own block is below it. -/
theorem Row.below {w w' : World} {base B : Nat} {k : IntKind} {e : TypeId} {v : Value} {zs : List Int} (h : Row w base k e v zs) (hb : Below B w w') (hB : ∀ j, v.ownBlock = some j → j < B) : Row w' base k e v zs := by
  obtain ⟨h1, h2⟩ := h
  refine ⟨h1, ?_⟩
  rcases h2 with h2 | ⟨g, cap, cur, hv, hg, hh, r⟩
  · exact .inl h2
  · exact .inr ⟨g, cap, cur, hv, hg, by rw [hb.block g (hB g (by rw [hv]; rfl))]; exact hh, r⟩
theorem Row.lt {w : World} {base : Nat} {k : IntKind} {e : TypeId} {v : Value} {zs : List Int} (h : Row w base k e v zs) : ∀ j, v.ownBlock = some j → j < w.heap.size := fun j hj => (World.ownsRow.lt h j hj).2
theorem Row.stored {w : World} {base g cap n : Nat} {k : IntKind} {e : TypeId} {zs : List Int} (h : Row w base k e (.slice (some ⟨g, 0, none⟩) n cap) zs) (hn : zs.length = n) (j : Nat) (z : Int) : Row (w.setCell ⟨g, j, none⟩ (.int k z)) base k e (.slice (some ⟨g, 0, none⟩) n cap) (zs.set j z) := by
  unfold Row at *
  subst hn
  have := h.stored j (.int k z)
  rw [List.length_set, List.map_set]; exact this.1
theorem Row.frozen {w : World} {base g cap n : Nat} {k : IntKind} {e : TypeId} {zs : List Int} (h : Row w base k e (.slice (some ⟨g, 0, none⟩) n cap) zs) (hn : zs.length = n) (j : Nat) : w.frozen? ⟨g, j, none⟩ = false := by
  unfold Row at h; subst hn; exact h.frozenAt j
theorem row_cell {w : World} {base g cap n : Nat} {k : IntKind} {e : TypeId} {zs : List Int} (h : Row w base k e (.slice (some ⟨g, 0, none⟩) n cap) zs) (hn : zs.length = n) (j : Nat) (hj : j < n) : w.cell? ⟨g, j, none⟩ = some (.int k (zs.getD j 0)) := by
  unfold Row at h
  subst hn
  rw [h.cellAt j (by omega)]
  simp [hj]
/-- WHAT THE WALK IS TOLD OF A SLICE OF INTEGERS THAT CAME IN. -/
def IsRow (k : IntKind) (w : World) (a : Option Addr) (len cap : Nat) (zs : List Int) : Prop :=
  (a = none ∧ len = 0 ∧ cap = 0 ∧ zs = []) ∨
  ∃ x, a = some x ∧ len ≤ cap ∧ cap ≤ maxLen ∧ zs.length = cap ∧ (∀ i, i < zs.length → w.cell? (x.add i) = some (.int k (zs.getD i 0))) ∧ ∀ n ∈ zs, (Lit.int k n).wf = true
theorem cell_lt {w : World} {a : Addr} {v : Value} (h : w.cell? a = some v) : a.block < w.heap.size := by
  by_cases hb : a.block < w.heap.size
  · exact hb
  · have : w.heap[a.block]? = none := Array.getElem?_eq_none (by omega)
    simp [World.cell?, this] at h
theorem isRow_len {k : IntKind} {w : World} {a : Option Addr} {len cap : Nat} {zs : List Int} (h : IsRow k w a len cap zs) : (zs.take len).length = len ∧ len ≤ cap ∧ cap ≤ maxLen := by
  rcases h with ⟨rfl, rfl, rfl, rfl⟩ | ⟨x, rfl, h1, h2, h3, h4, h5⟩
  · simp
  · rw [List.length_take]; omega
theorem isRow_view {k : IntKind} {w : World} {a : Option Addr} {len cap : Nat} {zs : List Int} (h : IsRow k w a len cap zs) : Vw w.heap.size w k (.slice a len cap) (zs.take len) := by
  have hl := isRow_len h
  rcases h with ⟨rfl, rfl, rfl, rfl⟩ | ⟨x, rfl, h1, h2, h3, h4, h5⟩
  · exact .inl ⟨rfl, none, 0, rfl, fun _ => rfl, by simp⟩
  · by_cases h0 : len = 0
    · subst h0; exact .inl ⟨by simp, _, cap, rfl, by simp, h2⟩
    · obtain ⟨b, off, spot⟩ := x
      have hc := h4 0 (by omega)
      have hspot : spot = none := by simpa [Addr.add] using World.cell?_spot hc
      subst hspot
      refine .inr ⟨by omega, b, off, cap, by rw [hl.1], by omega, h2, cell_lt (h4 0 (by omega)), ?_⟩
      intro i hi
      have := h4 i (by omega)
      rw [Addr.add_lit] at this
      rw [this]
      simp [List.getD, show i < len by omega]
theorem isRow_bytes {w : World} {a : Option Addr} {len cap : Nat} {zs : List Int} (h : IsRow .u8 w a len cap zs) : bytesIn (zs.take len) := by
  rcases h with ⟨rfl, rfl, rfl, rfl⟩ | ⟨x, rfl, h1, h2, h3, h4, h5⟩
  · intro z hz; simp at hz
  · intro z hz
    have := bounds_u8 (h5 z (List.mem_of_mem_take hz)); omega
theorem isRow_words {w : World} {a : Option Addr} {len cap : Nat} {zs : List Int} (h : IsRow .u64 w a len cap zs) : wordsIn (zs.take len) := by
  rcases h with ⟨rfl, rfl, rfl, rfl⟩ | ⟨x, rfl, h1, h2, h3, h4, h5⟩
  · intro z hz; simp at hz
  · intro z hz
    have := bounds_u64 (h5 z (List.mem_of_mem_take hz)); omega

/-- The ways of a drawn region meet again: 'apply tailcut (F := ..)' ahead of the branch; P is found at the first way's end. -/
theorem tailcut {F : Value → Value → World → Prop} {P : Value → Value → World → Prop} {G : Prop} (h : (∀ a b c, F a b c → P a b c) → G) (t : ∀ a b c, F a b c → P a b c) : G := h t

/-- A string's bytes. -/
def bytesOf (s : ByteArray) : List Int := s.data.toList.map fun b => (b.toNat : Int)
theorem bytesOf_len (s : ByteArray) : (bytesOf s).length = s.size := by rw [bytesOf, List.length_map, Array.length_toList]; rfl
theorem bytesOf_in (s : ByteArray) : bytesIn (bytesOf s) := by
  intro z hz
  simp only [bytesOf, List.mem_map] at hz
  obtain ⟨b, _, rfl⟩ := hz
  have := b.toNat_lt
  omega
theorem strCells_is (s : ByteArray) : Lib.strCells s = (bytesOf s).map (Value.int .u8) := by
  unfold Lib.strCells bytesOf; rw [List.map_map]; rfl
theorem strOf_bytesOf (s : ByteArray) : strOf (bytesOf s) = s := by
  apply WideShapes.bytes_inj
  unfold strOf bytesOf
  rw [List.map_map]
  show (List.toArray _).toList = _
  rw [show ((fun n : Int => UInt8.ofNat n.toNat) ∘ fun b : UInt8 => (b.toNat : Int)) = id from funext fun b => by simp]
  simp
/-- 'append(b, s...)', b a row of bytes of the call's own, s a string. -/
theorem wpList_appStr {P : Program} {T S E : TypeId} (hT : P.underlying T = some (.slice E)) (hS : P.underlying S = some .string) (hI : (P.info? E).map (fun i => (i.zero, i.size, i.bytes)) = some (some (.int .u8 0), 1, 1)) {ops : Array Oper} {rest : List Oper} {o : Oper} {a : Act} {Q : Exit → Act → World → Prop} {w : World} (hgd : o.guard = none) (s x : Operand)
    (ho : o.op = .call { callee := .builtin .append, args := #[s, x], argTypes := #[T, S] }) (base : Nat) (v : Value) (xs : List Int) (hs : a.eval s = v) (hown : Row w base .u8 E v xs)
    (t : ByteArray) (hx : a.eval x = .string t) (hlen : xs.length + t.size ≤ 140737488355328) (hbase : base ≤ w.heap.size)
    (h : ∀ v' w', Row w' base .u8 E v' (xs ++ bytesOf t) → Below base w w' → wpList P ops Q rest (a.put o.dst v') w') : wpList P ops Q (o :: rest) a w := by
  obtain ⟨i0, hi, hz0, hz1, hz2⟩ := info_parts hI
  refine Lib.wpList_append_own_string _ hgd s x T S ho base E i0 hT hS hi hz0 hz1 hz2 v xs.length (xs.map (Value.int .u8)) hs hown t hx (by unfold maxLen; omega) hlen hbase ?_
  intro v' w' k1 k2 _
  refine h v' w' ?_ ((Below.refl _ _).grown k2 hbase (row_block hown))
  unfold Row
  rw [List.map_append, List.length_append, bytesOf_len, ← strCells_is]; exact k1

end Go.Proofs.YtlnhkdiecfccaaaDoor.Kit
