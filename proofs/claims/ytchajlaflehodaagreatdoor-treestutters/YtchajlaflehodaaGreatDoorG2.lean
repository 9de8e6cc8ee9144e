/- Several texts in one: First More RCut RJoin. -/
import Derived.Test.YtchajlaflehodaaGreatDoorIs
import Derived.Test.YtchajlaflehodaaGreatDoorRLetter
import Derived.Test.YtchajlaflehodaaGreatDoorG1
/- The first one of a type within; what errors.as leaves. -/
namespace Go.Proofs.YtchajlaflehodaaGreatDoor
open Go.RowKit Go.Extern.Stop Go.Stop Go.Extern
set_option linter.unusedVariables false

def firstOf (T : Nat) (ns : List Nd) : Option Value := (ns.find? fun x => x.1 == T).map fun x => x.2.1
theorem firstOf_skip (T t : Nat) (x : Value × List (ByteArray × ByteArray)) (ns : List Nd) (h : (t == T) = false) : firstOf T ((t, x) :: ns) = firstOf T ns := by
  unfold firstOf; rw [List.find?_cons]; simp only [h]
theorem firstOf_hit (T : Nat) (x : Value) (l : List (ByteArray × ByteArray)) (ns : List Nd) : firstOf T ((T, x, l) :: ns) = some x := by
  unfold firstOf; rw [List.find?_cons]; simp
theorem firstOf_nil (T : Nat) : firstOf T [] = none := rfl
theorem firstOf_left (T : Nat) (a b : List Nd) (x : Value) (h : firstOf T a = some x) : firstOf T (a ++ b) = some x := by
  unfold firstOf at *
  rw [List.find?_append]
  obtain ⟨y, hy, rfl⟩ := Option.map_eq_some_iff.1 h
  rw [hy]; rfl
theorem firstOf_right (T : Nat) (a b : List Nd) (h : firstOf T a = none) : firstOf T (a ++ b) = firstOf T b := by
  unfold firstOf at *
  rw [List.find?_append]
  rw [Option.map_eq_none_iff.1 h]; rfl
theorem chainOf_skip (t : Nat) (x : Value × List (ByteArray × ByteArray)) (ns : List Nd) (h : (t == 86) = false) : chainOf ((t, x) :: ns) = chainOf ns := by
  unfold chainOf; rw [List.find?_cons]; simp only [h]
theorem chainOf_hit (x : Value) (l : List (ByteArray × ByteArray)) (ns : List Nd) : chainOf ((86, x, l) :: ns) = l := by
  unfold chainOf; rw [List.find?_cons]; simp
theorem chainOf_none (ns : List Nd) (h : firstOf 86 ns = none) : chainOf ns = [] := by
  unfold chainOf firstOf at *
  rw [Option.map_eq_none_iff.1 h]; rfl
theorem chainOf_left (a b : List Nd) (x : Value) (h : firstOf 86 a = some x) : chainOf (a ++ b) = chainOf a := by
  unfold chainOf firstOf at *
  rw [List.find?_append]
  obtain ⟨y, hy, rfl⟩ := Option.map_eq_some_iff.1 h
  rw [hy]; rfl
theorem chainOf_right (a b : List Nd) (h : firstOf 86 a = none) : chainOf (a ++ b) = chainOf b := by
  unfold chainOf firstOf at *
  rw [List.find?_append]
  rw [Option.map_eq_none_iff.1 h]; rfl
/-- The first Fault within: its cells, and what is within its own error. -/
theorem Pre.fault {w : World} : ∀ {f : Nat} {v : Value} {ns : List Nd} {x : Value}, Pre w f v ns → firstOf 86 ns = some x →
    ∃ (b : Nat) (op path : ByteArray) (e : Value) (ms : List Nd) (k : Nat), x = .pointer (some ⟨b, 0, none⟩) ∧ w.cell? ⟨b, 0, none⟩ = some (.string op) ∧ w.cell? ⟨b, 1, none⟩ = some (.string path) ∧ w.cell? ⟨b, 2, none⟩ = some e ∧ (op.size ≤ 1000 ∧ path.size ≤ 1000) ∧ e ≠ .nilIface ∧ Pre w k e ms ∧ k < f ∧ chainOf ns = (op, path) :: chainOf ms
  | 0, v, ns, x, h, hx => by rw [h.2] at hx; cases hx
  | f + 1, v, ns, x, h, hx => by
    rcases h with h | ⟨m, h, hm⟩ | ⟨b, op, path, e, ms', h, h2, h3, h4, h9, h5, h6, hm⟩
    · rw [h.2] at hx; cases hx
    · subst hm; rw [firstOf_skip 86 68 _ _ rfl, firstOf_nil] at hx; cases hx
    · subst hm
      rw [firstOf_hit] at hx
      cases hx
      exact ⟨b, op, path, e, ms', f, rfl, h2, h3, h4, h9, h5, h6, Nat.lt_succ_self _, chainOf_hit _ _ _⟩
/-- What errors.as leaves: nothing that was there has turned; or the target holds x. -/
def AsPost (w w' : World) (t : Addr) : Option Value → Prop
  | none => Below w.heap.size w w'
  | some x => ∃ w1, Below w.heap.size w w1 ∧ w' = w1.setCell t x
theorem frozen_old {w w' : World} {a : Addr} {v : Value} (hb : Below w.heap.size w w') (h : w.cell? a = some v) (hf : w.frozen? a = false) : w'.frozen? a = false := by
  have hlt : a.block < w.heap.size := by
    rcases Nat.lt_or_ge a.block w.heap.size with h' | h'
    · exact h'
    · simp [World.cell?, Array.getElem?_eq_none h'] at h
  exact (hb.frozen hlt).trans hf
theorem AsPost.from {w w0 w' : World} {t : Addr} {r : Option Value} (h : AsPost w0 w' t r) (hb : Below w.heap.size w w0) : AsPost w w' t r := by
  cases r with
  | none => exact bel2e hb h
  | some x => obtain ⟨w1, h1, h2⟩ := h; exact ⟨w1, bel2e hb h1, h2⟩
end Go.Proofs.YtchajlaflehodaaGreatDoor
/- Of an error: its numbers; how long its chain is; what single Unwraps lead to. -/
namespace Go.Proofs.YtchajlaflehodaaGreatDoor
open Go.RowKit Go.Extern.Stop Go.Stop Go.Extern
set_option linter.unusedVariables false

theorem nums_skip (t : Nat) (x : Value × List (ByteArray × ByteArray)) (a : List Nd) (h : (t == 68) = false) : nums ((t, x) :: a) = nums a := by unfold nums; simp [h]
/-- The first number within. -/
theorem Pre.number {w : World} : ∀ {f : Nat} {v : Value} {ns : List Nd}, Pre w f v ns → (firstOf 68 ns = none ∧ nums ns = []) ∨ ∃ n l, firstOf 68 ns = some (.int .i64 n) ∧ nums ns = n :: l
  | 0, v, ns, h => .inl ⟨by rw [h.2]; rfl, by rw [h.2]; rfl⟩
  | f + 1, v, ns, h => by
    rcases h with h | ⟨m, h, hm⟩ | ⟨b, op, path, e, ms', h, h2, h3, h4, h9, h5, h6, hm⟩
    · exact .inl ⟨by rw [h.2]; rfl, by rw [h.2]; rfl⟩
    · subst hm; exact .inr ⟨m, [], firstOf_hit _ _ _ _, rfl⟩
    · subst hm; rw [firstOf_skip 68 86 _ _ rfl, nums_skip 86 _ _ rfl]; exact Pre.number h6
/-- A chain is no longer than the error is deep. -/
theorem Pre.short {w : World} : ∀ (f : Nat) {v : Value} {ns : List Nd}, Pre w f v ns → (chainOf ns).length ≤ f := by
  intro f
  induction f using Nat.strongRecOn with
  | _ f ih =>
    intro v ns h
    rcases hh : firstOf 86 ns with _ | x
    · rw [chainOf_none _ hh]; simp
    · obtain ⟨b, op, path, e, ms, k, _, _, _, _, _, _, h7, h8, h9⟩ := Pre.fault h hh
      have := ih k h8 h7
      rw [h9]; simp; omega
/-- What single Unwraps lead to: the Faults ahead are gone. -/
def innerOf (ns : List Nd) : List Nd := ns.dropWhile fun x => x.1 == 86
theorem innerOf_fault (x : Value × List (ByteArray × ByteArray)) (ns : List Nd) : innerOf ((86, x) :: ns) = innerOf ns := by unfold innerOf; simp
theorem innerOf_skip (t : Nat) (x : Value × List (ByteArray × ByteArray)) (ns : List Nd) (h : (t == 86) = false) : innerOf ((t, x) :: ns) = (t, x) :: ns := by unfold innerOf; simp [h]
theorem pre_num (w : World) (f : Nat) (n : Int) : Pre w (f + 1) (.iface 68 (.int .i64 n)) [(68, .int .i64 n, [])] := .inr (.inl (⟨n, rfl, rfl⟩))
theorem pre_fault {w : World} {f b : Nat} {op path : ByteArray} {e : Value} {ms : List Nd} (h2 : w.cell? ⟨b, 0, none⟩ = some (.string op)) (h3 : w.cell? ⟨b, 1, none⟩ = some (.string path)) (h4 : w.cell? ⟨b, 2, none⟩ = some e) (ho : op.size ≤ 1000) (ha : path.size ≤ 1000) (he : e ≠ .nilIface) (hp : Pre w f e ms) :
    Pre w (f + 1) (.iface 86 (.pointer (some ⟨b, 0, none⟩))) ((86, .pointer (some ⟨b, 0, none⟩), (op, path) :: chainOf ms) :: ms) := .inr (.inr (⟨b, op, path, e, ms, rfl, h2, h3, h4, ⟨ho, ha⟩, he, hp, rfl⟩))
end Go.Proofs.YtchajlaflehodaaGreatDoor
/- dolmenref1.Cut: what one call answers. -/
namespace Go.Proofs.YtchajlaflehodaaGreatDoor
open Go.RowKit Kit
set_option linter.unusedVariables false

/-- A text at each place of a byte. -/
def cutL (c : Int) : List Int → List (List Int)
  | [] => [[]]
  | x :: r => if x = c then [] :: cutL c r else match cutL c r with
    | [] => [[x]]
    | p :: q => (x :: p) :: q
theorem cutL_free (c : Int) : ∀ p : List Int, (∀ x ∈ p, x ≠ c) → cutL c p = [p]
  | [], _ => rfl
  | x :: p, h => by
    rw [cutL, if_neg (h x (by simp)), cutL_free c p (fun y hy => h y (by simp [hy]))]
theorem cutL_at (c : Int) (r : List Int) : ∀ p : List Int, (∀ x ∈ p, x ≠ c) → cutL c (p ++ c :: r) = p :: cutL c r
  | [], _ => by show cutL c (c :: r) = _; rw [cutL, if_pos rfl]
  | x :: p, h => by
    show cutL c (x :: (p ++ c :: r)) = _
    rw [cutL, if_neg (h x (by simp)), cutL_at c r p (fun y hy => h y (by simp [hy]))]
/-- Texts in cells. -/
def txtsL (l : List (List Int)) : List Value := l.map fun p => .string (strOf p)
theorem txtsL_len (l : List (List Int)) : (txtsL l).length = l.length := by simp [txtsL]
theorem extract_strOf (s : ByteArray) (i j : Nat) : s.extract i j = strOf (((bytesOf s).drop i).take (j - i)) := by
  have h : s = ⟨s.data.toList.toArray⟩ := by cases s; simp
  conv => lhs; rw [h, ByteArray.extract_mk]
  unfold strOf bytesOf
  rw [← List.map_drop, ← List.map_take, List.map_map]
  congr 1
  have e : ((fun n : Int => UInt8.ofNat n.toNat) ∘ fun b : UInt8 => (b.toNat : Int)) = id := by funext b; simp
  rw [e, List.map_id]
theorem byte_at (s : ByteArray) (k : Nat) (h : k < s.size) : ((s[k]'h).toNat : Int) = (bytesOf s).getD k 0 := by
  have h2 : k < s.data.size := h
  show ((s.data[k]'h2).toNat : Int) = _
  unfold bytesOf
  rw [List.getD, List.getElem?_map, Array.getElem?_toList, Array.getElem?_eq_getElem h2]; rfl
theorem cut_last {c : Int} {l : List Int} {done : List (List Int)} {f k : Nat} (hk : k = l.length) (h1 : cutL c l = done ++ cutL c (l.drop f)) (h2 : ∀ x ∈ (l.drop f).take (k - f), x ≠ c) : cutL c l = done ++ [(l.drop f).take (k - f)] := by
  have e : (l.drop f).take (k - f) = l.drop f := List.take_of_length_le (by simp; omega)
  rw [e] at h2
  rw [h1, cutL_free c _ h2, e]
theorem cut_next {c : Int} {l : List Int} {done : List (List Int)} {f k : Nat} (hk : k < l.length) (hf : f ≤ k) (h1 : cutL c l = done ++ cutL c (l.drop f)) (h2 : ∀ x ∈ (l.drop f).take (k - f), x ≠ c) (hc : l.getD k 0 = c) : cutL c l = (done ++ [(l.drop f).take (k - f)]) ++ cutL c (l.drop (k + 1)) := by
  have e : l.drop f = (l.drop f).take (k - f) ++ c :: l.drop (k + 1) := by
    have e1 := (List.take_append_drop (k - f) (l.drop f)).symm
    rw [List.drop_drop, show f + (k - f) = k by omega, List.drop_eq_getElem_cons hk] at e1
    rw [← hc, List.getD, List.getElem?_eq_getElem hk]
    exact e1
  rw [h1]
  conv => lhs; rw [e, cutL_at c _ _ h2]
  simp
theorem cut_more {c : Int} {l : List Int} {f k : Nat} (hk : k < l.length) (hf : f ≤ k) (h2 : ∀ x ∈ (l.drop f).take (k - f), x ≠ c) (hc : l.getD k 0 ≠ c) : ∀ x ∈ (l.drop f).take (k + 1 - f), x ≠ c := by
  intro x hx
  rw [show k + 1 - f = (k - f) + 1 by omega, List.take_add_one] at hx
  rcases List.mem_append.1 hx with hx | hx
  · exact h2 x hx
  · have e : (l.drop f)[k - f]? = some (l.getD k 0) := by
      rw [List.getElem?_drop, show f + (k - f) = k by omega, List.getElem?_eq_getElem hk]; simp [List.getD, hk]
    rw [e] at hx
    simp only [Option.toList, List.mem_singleton] at hx
    rw [hx]; exact hc
theorem bel2v {w w1 w2 : World} (h : Below w.heap.size w w1) (k : Below w1.heap.size w1 w2) : Below w.heap.size w w2 := h.trans (k.mono h.size)
theorem infoS : (Tryz.prog.info? 9).map (fun i => (i.zero, i.size, i.bytes)) = some (some (.string ⟨#[]⟩), 1, 16) := by kernel_rfl

set_option maxRecDepth 4000 in
set_option maxHeartbeats 4000000 in
theorem cut_any (s : ByteArray) (c : Int) (w : World) (hs : s.size ≤ 100000) :
    Calls Tryz.prog 53 #[.string s, .int .u8 c] w fun e w' => ∃ r, e = .returned r ∧ RowV w' w.heap.size 9 r (txtsL (cutL c (bytesOf s))) ∧ Below w.heap.size w w' := by
  have HS : Hid (s.size ≤ 100000) := hs
  have hm : (s.size : Int) ≤ 100000 := by omega
  obtain ⟨l, hl⟩ : ∃ l, bytesOf s = l := ⟨_, rfl⟩
  have HLE : Hid (bytesOf s = l ∧ l.length = s.size) := ⟨hl, by rw [← hl]; exact bytesOf_len s⟩
  rw [hl]
  clear hs hl
  go_enter Tryz.func53, Tryz.ntmps53
  go_wp2
  go_loopw [5, 6, 7] (fun o f i wr => ∃ (k from_ : Nat) (done : List (List Int)), k ≤ s.size + 1 ∧ from_ ≤ k ∧ i = .int .i64 (k : Int) ∧ f = .int .i64 (from_ : Int) ∧
      Hid ((k ≤ s.size → cutL c l = done ++ cutL c (l.drop from_) ∧ ∀ x ∈ (l.drop from_).take (k - from_), x ≠ c) ∧ (k = s.size + 1 → cutL c l = done) ∧ done.length ≤ k ∧ RowV wr w.heap.size 9 o (txtsL done) ∧ Below w.heap.size w wr)) (fun _ _ i _ => s.size + 1 - (intOf i).toNat)
  case atStart => exact ⟨0, 0, [], Nat.zero_le _, Nat.le_refl _, rfl, rfl, ⟨fun _ => ⟨rfl, fun x hx => by simp at hx⟩, fun h => by omega, Nat.le_refl _, rowV_nil _ _ _, Below.refl _ _⟩⟩
  case round =>
    obtain ⟨k, from_, done, hk, hf, rfl, rfl, HR⟩ := hrel
    have i2 : (0 : Int) ≤ (from_ : Int) := by omega
    have i3 : (from_ : Int) ≤ (k : Int) := by omega
    have i4 : (0 : Int) ≤ (k : Int) := by omega
    by_cases h1 : k = s.size + 1
    · have HE : Hid (RowV wr w.heap.size 9 u5 (txtsL (cutL c l)) ∧ Below w.heap.size w wr) := by
        rw [HR.out.2.1 h1]; exact HR.out.2.2.2
      have h2 : ¬ (k : Int) ≤ (s.size : Int) := by omega
      clear HR h1
      go_wp2
      go_ret
      exact ⟨_, rfl, HE.out⟩
    · have hks : k ≤ s.size := by omega
      have h2 : (k : Int) ≤ (s.size : Int) := by omega
      obtain ⟨g1, g2⟩ := HR.out.1 hks
      have HG : Hid (cutL c l = done ++ cutL c (l.drop from_) ∧ ∀ x ∈ (l.drop from_).take (k - from_), x ≠ c) := ⟨g1, g2⟩
      clear g1 g2
      by_cases h3 : k = s.size
      · have h4 : ((k : Int) == (s.size : Int)) = true := by rw [h3]; simp
        have HC : Hid (cutL c l = done ++ [(l.drop from_).take (k - from_)]) := cut_last (by rw [HLE.out.2]; exact h3) HG.out.1 HG.out.2
        have H3 : Hid (k = s.size) := h3
        clear h3 h1 HG
        have B1 : Hid (Below wr.heap.size wr (wr.alloc (.cells #[.string (s.extract from_ k)] 9))) := (Below.refl _ _).alloc (Nat.le_refl _) _
        have S1 : Hid (Sees (wr.alloc (.cells #[.string (s.extract from_ k)] 9)) (.slice (some ⟨wr.heap.size, 0, none⟩) 1 1) [.string (s.extract from_ k)]) := sees_one _ _ _ _ rfl
        have hd : done.length ≤ 100001 := by have := HR.out.2.2.1; omega
        have HD : Hid (done.length ≤ 100001) := hd
        clear hd
        go_wp2_with (at_builtin; refine wpList_appV Tryz.underlying31 infoS rfl (by decide) rfl _ _ rfl w.heap.size u5 (txtsL done) rfl (HR.out.2.2.2.1.below B1.out) (.slice (some ⟨wr.heap.size, 0, none⟩) 1 1) _ rfl S1.out ?c1 ?c2 ?c3 ?_)
        case c1 => first | rfl | (intro y hy; simp at hy; subst hy; rfl)
        case c2 => have := HD.out; rw [txtsL_len]; simp; omega
        case c3 => have := HR.out.2.2.2.2.size; simp; omega
        intro l3 w3 hr hb3
        have HN : Hid (∃ (k' from' : Nat) (done' : List (List Int)), k' ≤ s.size + 1 ∧ from' ≤ k' ∧ (.int .i64 ((k : Int) + 1) : Value) = .int .i64 (k' : Int) ∧ (.int .i64 ((k : Int) + 1) : Value) = .int .i64 (from' : Int) ∧
          Hid ((k' ≤ s.size → cutL c l = done' ++ cutL c (l.drop from') ∧ ∀ x ∈ (l.drop from').take (k' - from'), x ≠ c) ∧ (k' = s.size + 1 → cutL c l = done') ∧ done'.length ≤ k' ∧ RowV w3 w.heap.size 9 l3 (txtsL done') ∧ Below w.heap.size w w3)) :=
          ⟨k + 1, k + 1, done ++ [(l.drop from_).take (k - from_)], by omega, Nat.le_refl _, by simp, by simp, fun h => by have := H3.out; omega, fun _ => HC.out, by simp; exact HR.out.2.2.1, by
            unfold txtsL at *
            rw [List.map_append, List.map_cons, List.map_nil, ← HLE.out.1, ← extract_strOf]; exact hr, (bel2v HR.out.2.2.2.2 B1.out).trans hb3⟩
        clear hr hb3 B1 S1 HR HC HD
        go_wp2
        go_roundw
        case rel => exact HN.out
        case measure => simp [intOf]; omega
      · have hkl : k < s.size := by omega
        have h4 : ((k : Int) == (s.size : Int)) = false := beq_eq_false_iff_ne.2 (by omega)
        have h5 : (k : Int) < (s.size : Int) := by omega
        have hb := byte_at s k hkl
        rw [HLE.out.1] at hb
        have hkl2 : k < l.length := by rw [HLE.out.2]; exact hkl
        by_cases h6 : l.getD k 0 = c
        · have h7 : (((s[k]'hkl).toNat : Int) == c) = true := by rw [hb, h6]; simp
          have HC : Hid (cutL c l = (done ++ [(l.drop from_).take (k - from_)]) ++ cutL c (l.drop (k + 1))) := cut_next hkl2 hf HG.out.1 HG.out.2 h6
          clear h1 h3 HG hb h6 hkl2
          have B1 : Hid (Below wr.heap.size wr (wr.alloc (.cells #[.string (s.extract from_ k)] 9))) := (Below.refl _ _).alloc (Nat.le_refl _) _
          have S1 : Hid (Sees (wr.alloc (.cells #[.string (s.extract from_ k)] 9)) (.slice (some ⟨wr.heap.size, 0, none⟩) 1 1) [.string (s.extract from_ k)]) := sees_one _ _ _ _ rfl
          have hd : done.length ≤ 100001 := by have := HR.out.2.2.1; omega
          have HD : Hid (done.length ≤ 100001) := hd
          clear hd
          go_wp2_with (at_builtin; refine wpList_appV Tryz.underlying31 infoS rfl (by decide) rfl _ _ rfl w.heap.size u5 (txtsL done) rfl (HR.out.2.2.2.1.below B1.out) (.slice (some ⟨wr.heap.size, 0, none⟩) 1 1) _ rfl S1.out ?c1 ?c2 ?c3 ?_)
          case c1 => first | rfl | (intro y hy; simp at hy; subst hy; rfl)
          case c2 => have := HD.out; rw [txtsL_len]; simp; omega
          case c3 => have := HR.out.2.2.2.2.size; simp; omega
          intro l3 w3 hr hb3
          have HN : Hid (∃ (k' from' : Nat) (done' : List (List Int)), k' ≤ s.size + 1 ∧ from' ≤ k' ∧ (.int .i64 ((k : Int) + 1) : Value) = .int .i64 (k' : Int) ∧ (.int .i64 ((k : Int) + 1) : Value) = .int .i64 (from' : Int) ∧
            Hid ((k' ≤ s.size → cutL c l = done' ++ cutL c (l.drop from') ∧ ∀ x ∈ (l.drop from').take (k' - from'), x ≠ c) ∧ (k' = s.size + 1 → cutL c l = done') ∧ done'.length ≤ k' ∧ RowV w3 w.heap.size 9 l3 (txtsL done') ∧ Below w.heap.size w w3)) :=
            ⟨k + 1, k + 1, done ++ [(l.drop from_).take (k - from_)], by omega, Nat.le_refl _, by simp, by simp, fun _ => ⟨HC.out, fun x hx => by simp at hx⟩, fun h => by omega, by simp; exact HR.out.2.2.1, by
              unfold txtsL at *
              rw [List.map_append, List.map_cons, List.map_nil, ← HLE.out.1, ← extract_strOf]; exact hr, (bel2v HR.out.2.2.2.2 B1.out).trans hb3⟩
          clear hr hb3 B1 S1 HR HC HD
          go_wp2
          go_roundw
          case rel => exact HN.out
          case measure => simp [intOf]; omega
        · have h7 : (((s[k]'hkl).toNat : Int) == c) = false := by rw [hb]; exact beq_eq_false_iff_ne.2 h6
          have HM := cut_more hkl2 hf HG.out.2 h6
          have HN : Hid ((k + 1 ≤ s.size → cutL c l = done ++ cutL c (l.drop from_) ∧ ∀ x ∈ (l.drop from_).take (k + 1 - from_), x ≠ c) ∧ (k + 1 = s.size + 1 → cutL c l = done) ∧ done.length ≤ k + 1 ∧ RowV wr w.heap.size 9 u5 (txtsL done) ∧ Below w.heap.size w wr) :=
            ⟨fun _ => ⟨HG.out.1, HM⟩, fun h => by omega, Nat.le_succ_of_le HR.out.2.2.1, HR.out.2.2.2⟩
          clear h1 h3 HG hb h6 hkl2 HM HR
          go_wp2
          go_roundw
          case rel => exact ⟨k + 1, from_, done, by omega, by omega, by simp, rfl, HN.out⟩
          case measure => simp [intOf]; omega
end Go.Proofs.YtchajlaflehodaaGreatDoor
/- dolmenref1.Join: what one call answers. -/
namespace Go.Proofs.YtchajlaflehodaaGreatDoor
open Go.RowKit Kit
set_option linter.unusedVariables false

/-- Texts in cells. -/
def strs (l : List ByteArray) : List Value := l.map Value.string
theorem strs_len (l : List ByteArray) : (strs l).length = l.length := by simp [strs]
theorem strs_at (l : List ByteArray) (k : Nat) (h : k < l.length) : (strs l)[k]? = some (.string (l.getD k ⟨#[]⟩)) := by
  simp [strs, h, List.getD]
theorem bytes_eq (a b : ByteArray) : (a.toList == b.toList) = decide (a = b) := by
  by_cases h : a = b
  · subst h; simp
  · have : ¬ a.toList = b.toList := fun e => h (ByteArray.ext (by
      have h1 := congrArg List.toArray e
      simpa [ByteArray.toList_eq] using h1))
    rw [beq_eq_false_iff_ne.2 this]; simp [h]
theorem not_empty {s : ByteArray} (h : ¬ s = ⟨#[]⟩) : ¬ s.toList = [] := fun e => h (ByteArray.ext (by
  have h1 := congrArg List.toArray e
  simpa [ByteArray.toList_eq] using h1))
/-- The first k names with a slash ahead of each. -/
def joinTo (ss : List ByteArray) (k : Nat) : ByteArray := (ss.take k).foldl (fun s p => s ++ ⟨#[47]⟩ ++ p) ⟨#[]⟩
theorem joinTo_step (ss : List ByteArray) (k : Nat) (h : k < ss.length) : joinTo ss (k + 1) = joinTo ss k ++ ⟨#[47]⟩ ++ ss.getD k ⟨#[]⟩ := by
  unfold joinTo
  rw [List.take_add_one, List.getElem?_eq_getElem h, Option.toList_some, List.foldl_append]
  simp [List.getD, h]
def tot (ss : List ByteArray) : Nat := (ss.map fun s => s.size + 1).sum
theorem joinTo_size (ss : List ByteArray) : ∀ k, k ≤ ss.length → (joinTo ss k).size = tot (ss.take k)
  | 0, _ => rfl
  | k + 1, h => by
    rw [joinTo_step ss k h, ByteArray.size_append, ByteArray.size_append, joinTo_size ss k (by omega)]
    unfold tot
    rw [List.take_add_one, List.getElem?_eq_getElem h, Option.toList_some, List.map_append, List.sum_append]
    simp [List.getD, show k < ss.length from h]
    have : (⟨#[47]⟩ : ByteArray).size = 1 := rfl
    omega
theorem tot_take (ss : List ByteArray) (k : Nat) : tot (ss.take k) ≤ tot ss := by
  conv => rhs; rw [← List.take_append_drop k ss]
  unfold tot
  rw [List.map_append, List.sum_append]; omega
theorem tot_at (ss : List ByteArray) (k : Nat) (h : k < ss.length) : tot (ss.take k) + (ss.getD k ⟨#[]⟩).size + 1 ≤ tot ss := by
  have h1 := tot_take ss (k + 1)
  unfold tot at *
  rw [List.take_add_one, List.getElem?_eq_getElem h, Option.toList_some, List.map_append, List.sum_append] at h1
  simp [List.getD, h] at h1 ⊢
  omega
def joinB (ss : List ByteArray) : ByteArray := if ss.length = 0 then ⟨#[47]⟩ else joinTo ss ss.length

end Go.Proofs.YtchajlaflehodaaGreatDoor
