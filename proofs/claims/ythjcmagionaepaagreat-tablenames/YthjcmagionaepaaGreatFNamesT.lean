/- package table: Names. -/
import Derived.Test.YthjcmagionaepaaGreatFFindT
import Derived.Test.YthjcmagionaepaaGreatNSorted
import Derived.Test.YthjcmagionaepaaGreatLStrE
import Derived.Test.YthjcmagionaepaaGreatGKit
import Derived.Laws.IdiomRangeMap
namespace Go.Proofs.YthjcmagionaepaaGreat
open Go.RowKit Kit
set_option linter.unusedVariables false

theorem tnames_nil (pv : Value) (ep : Int) (w : World) (hk : ∀ X, Below w.heap.size w X → Calls Tryz.prog 30 #[pv] X fun x w' => x = .returned (.map none) ∧ w' = X) :
    Calls Tryz.prog 15 #[pv, .int .i64 ep] w fun x w' => ∃ r, x = .returned r ∧ Sees w' r (strs []) ∧ Below w.heap.size w w' := by
  have HK : Hid (Calls Tryz.prog 30 #[pv] w fun x w' => x = .returned (.map none) ∧ w' = w) := hk w (Below.refl _ _)
  obtain ⟨W, hW⟩ : ∃ z, z = w.alloc (.mapIter none 0 #[] 0) := ⟨_, rfl⟩
  have HB : Hid (Below w.heap.size w W) := by rw [hW]; exact bel_newG _ _
  have hrg : (Instr.range 54 (.map none)).run Tryz.prog w = .ok (.pointer (some ⟨w.heap.size, 0, none⟩)) W := by rw [hW]; exact run_range_nilMap (P := Tryz.prog) w 54 9 41 Tryz.underlying54
  have hnx : ∀ ty, (Instr.next (.pointer (some ⟨w.heap.size, 0, none⟩)) false ty).run Tryz.prog W = .ok (.tuple #[.bool false]) W := fun ty => by rw [hW]; exact run_next_nilMap w ty 0 0 #[]
  have HS : Hid (Calls Tryz.prog 35 #[.slice none 0 0] W fun e w' => ∃ r, e = .returned r ∧ Sees w' r (strs (sortedB [])) ∧ Below W.heap.size W w') := nsorted_any _ [] W ⟨none, 0, rfl, Nat.le_refl _, Nat.zero_le _, fun _ => rfl, fun h => absurd h (by simp [strs])⟩ (by simp)
  clear hk hW
  go_enter Tryz.func15, Tryz.ntmps15
  go_wp2_with (go_at_call 30; refine HK.out.mono ?_; rintro e w1 ⟨rfl, hw⟩; subst w1)
  go_loopw [5] (fun s5 wr => s5 = .slice none 0 0 ∧ Hid (wr = W)) (fun _ _ => 0)
  case atStart => exact ⟨rfl, rfl⟩
  case round =>
    obtain ⟨rfl, hwr⟩ := hrel
    have hwr := hwr.out
    subst wr
    go_wp2_with (go_at_call 35; refine HS.out.mono ?_; rintro e w2 ⟨r, rfl, hs, hb⟩)
    go_ret
    exact ⟨r, rfl, hs, bel_tr HB.out hb⟩
theorem RangeS_grown {P : Program} {k : TypeId} {w w' : World} {b r cnt : Nat} {g : ByteArray → Option Value} {ss : List ByteArray} {row : Option Nat} (h : RangeS P k w b r g ss cnt) (hg : w.grownBy w' row) (hb : some b ≠ row) (hr : some r ≠ row) : RangeS P k w' b r g ss cnt := by
  obtain ⟨D, left, h1, h2, h3, h4⟩ := h
  exact ⟨D, left, h1.kept hg hb hr, h2, h3, h4⟩
/-- A row of texts lies in no map, in no walk of one. -/
theorem range_apart {P : Program} {k : TypeId} {w : World} {b r cnt : Nat} {g : ByteArray → Option Value} {ss : List ByteArray} (h : RangeS P k w b r g ss cnt) {j : Nat} {cs : Array Value} {ty : TypeId} (hc : w.heap[j]? = some (.cells cs ty)) : b ≠ j ∧ r ≠ j := by
  obtain ⟨D, left, h1, _⟩ := h
  obtain ⟨xs, clock, since, seen, c0, hb, _, _, _, hr2, _⟩ := h1
  constructor
  · intro e; rw [e, hc] at hb; cases hb
  · intro e; rw [e, hc] at hr2; cases hr2
theorem held_out {rs : List Rw} {ep : Int} {out : List ByteArray} (h : ∀ x, x ∈ out ↔ foundB rs x ep = true) : sortedB out = heldN rs ep := by
  refine rising_ext _ _ (sorted_rising _) (sorted_rising _) fun y => ?_
  rw [sorted_mem, h y]
  exact (held_mem rs ep y).symm
set_option maxRecDepth 4000 in
set_option maxHeartbeats 4000000 in
theorem tnames_some {w : World} {p B b : Nat} {g : ByteArray → Option Value} {t : Tb} (ep : Int) (h : TabAt w p B (some b) g t) (hi : Inv t) (hl : t.rs.length ≤ 900) :
    Calls Tryz.prog 15 #[.pointer (some ⟨p, 0, none⟩), .int .i64 ep] w fun x w' => ∃ r, x = .returned r ∧ Sees w' r (strs (heldN t.rs ep)) ∧ Below w.heap.size w w' := by
  have hM : MapS Tryz.prog 9 w b g := by
    rcases h.rows.map with ⟨e, _⟩ | ⟨b', e, _, h2⟩
    · cases e
    · cases e; exact h2
  have HK : Hid (Calls Tryz.prog 30 #[.pointer (some ⟨p, 0, none⟩)] w fun x w' => x = .returned (.map (some b)) ∧ w' = w) := tkept_any h.cell
  have HL : Hid (∀ s, (g s).isSome = true → s ∈ t.rs.map Rw.name) := fun s hs => by
    have := (h.rows.isSome s).1 hs
    obtain ⟨r, hr⟩ := List.exists_mem_of_ne_nil _ this
    obtain ⟨h1, h2⟩ := List.mem_filter.1 hr
    exact List.mem_map.2 ⟨r, h1, ofN_iff.1 h2⟩
  have HG : Hid (∀ s, foundB t.rs s ep = true → (g s).isSome = true) := fun s hs => by
    obtain ⟨r, h1, h2⟩ := found_iff.1 hs
    refine (h.rows.isSome s).2 (List.ne_nil_of_mem (a := r) (List.mem_filter.2 ⟨h1, ofN_iff.2 (find_iff.1 h2).1⟩))
  have HF : Hid (∀ x X, x.size ≤ maxLen → Below w.heap.size w X → Calls Tryz.prog 12 #[.pointer (some ⟨p, 0, none⟩), .string x, .int .i64 ep] X fun e w' => e = .returned (.tuple #[.int .i64 (foundI t.rs x ep), .bool (foundB t.rs x ep)]) ∧ Below X.heap.size X w') := fun x X hx hX => tfind_any x ep (TAt.below ⟨some b, g, h, rfl⟩ hX) hi hl hx
  have HLN : Hid (t.rs.length ≤ 900) := hl
  obtain ⟨w0, cnt0, hrng, r0, g0, s0⟩ := hM.range (t := 54) (e := 41) Tryz.underlying9 Tryz.underlying54
  have HW0 : Hid (RangeS Tryz.prog 9 w0 b w.heap.size g [] cnt0 ∧ Below w.heap.size w w0) := ⟨r0, (Below.refl _ _).grown g0 (Nat.le_refl _) (fun k hk => by cases hk)⟩
  obtain ⟨rs, hrs⟩ : ∃ rs, rs = t.rs := ⟨_, rfl⟩
  rw [← hrs] at HL HG HF HLN ⊢
  clear h hi hl hM r0 g0 s0 hrs
  go_enter Tryz.func15, Tryz.ntmps15
  go_wp2_with (go_at_call 30; refine HK.out.mono ?_; rintro e w1 ⟨rfl, hw⟩; subst w1)
  clear HK
  go_loopw [5] (fun s5 wr => ∃ (ss out : List ByteArray) (cnt : Nat), Hid (RangeS Tryz.prog 9 wr b w.heap.size g ss cnt ∧ RowV wr w.heap.size 9 s5 (strs out) ∧ out.length ≤ ss.length ∧ (∀ x, x ∈ out ↔ x ∈ ss ∧ foundB rs x ep = true) ∧ Below w.heap.size w wr)) (fun _ wr => wr.rangeLeft b w.heap.size)
  case atStart => exact ⟨[], [], cnt0, HW0.out.1, rowV_nil _ _ _, Nat.le_refl _, fun x => by simp, HW0.out.2⟩
  case round =>
    obtain ⟨ss, out, cnt, HI⟩ := hrel
    have hrg := HI.out.1
    clear HW0
    go_wp2_with (at_next; refine wpList_nextS rfl _ rfl 9 Tryz.underlying9 b w.heap.size g ss cnt rfl hrg ?_ ?_; intro hl0; rotate_left; rintro x v w1 cnt1 hgx hxs hxl hrg1 hlt hg1 hs1 hen; rotate_left)
    · have HO : Hid (∀ x, x ∈ out ↔ foundB rs x ep = true) := fun x => by
        rw [HI.out.2.2.2.1 x]
        exact ⟨fun h => h.2, fun h => ⟨hl0 x (HG.out x h), h⟩⟩
      have HSR : Hid (Calls Tryz.prog 35 #[u5] wr fun e w' => ∃ r, e = .returned r ∧ Sees w' r (strs (heldN rs ep)) ∧ Below wr.heap.size wr w') := by
        have h1 := HI.out.1.le Tryz.underlying9 _ HL.out
        rw [List.length_map] at h1
        have := nsorted_any u5 out wr HI.out.2.1.sees (by have := HI.out.2.2.1; have := HLN.out; omega)
        rw [held_out HO.out] at this
        exact this
      have HB : Hid (Below w.heap.size w wr) := HI.out.2.2.2.2
      clear HI hrg hl0 HO
      go_wp2_with (go_at_call 35; refine HSR.out.mono ?_; rintro e w2 ⟨r, rfl, hs, hb⟩)
      go_ret
      exact ⟨r, rfl, hs, bel_tr HB.out hb⟩
    · have HR1 : Hid (RangeS Tryz.prog 9 w1 b w.heap.size g (ss ++ [x]) cnt1 ∧ cnt1 < cnt) := ⟨hrg1, hlt⟩
      have hb1 : Below w.heap.size w w1 := HI.out.2.2.2.2.grown hg1 HI.out.2.2.2.2.size (fun k hk => by cases hk; exact Nat.le_refl _)
      have hrow1 : RowV w1 w.heap.size 9 u5 (strs out) := rowV_stay HI.out.2.1 (fun k hk => by
        obtain ⟨cs, hc⟩ := rowV_obj HI.out.2.1 hk
        refine hg1.block k (blk_lt hc) (fun e => ?_)
        injection e with e
        obtain ⟨D, left, hr, _⟩ := hrg
        obtain ⟨xs, clock, since, seen, c0, _, _, _, _, hr2, _⟩ := hr
        rw [e, hr2] at hc
        cases hc)
      have HX : Hid (Calls Tryz.prog 12 #[.pointer (some ⟨p, 0, none⟩), .string x, .int .i64 ep] w1 fun e w' => e = .returned (.tuple #[.int .i64 (foundI rs x ep), .bool (foundB rs x ep)]) ∧ Below w1.heap.size w1 w') := HF.out x w1 hxl hb1
      have HI1 : Hid (RowV w1 w.heap.size 9 u5 (strs out) ∧ Below w.heap.size w w1 ∧ x ∉ ss) := ⟨hrow1, hb1, hxs⟩
      obtain ⟨fi, hfi⟩ : ∃ z, z = foundI rs x ep := ⟨_, rfl⟩
      obtain ⟨fb, hfb⟩ : ∃ z, z = foundB rs x ep := ⟨_, rfl⟩
      rw [← hfi, ← hfb] at HX
      have HFB : Hid (fb = foundB rs x ep) := hfb
      have HLC : Hid (cnt = wr.rangeLeft b w.heap.size) := HI.out.1.left_eq.symm
      clear hrg hrg1 hlt hg1 hs1 hb1 hrow1 hgx hxs hxl hfi hfb
      cases fb with
      | false =>
        go_wp2_with (go_at_call 12; refine HX.out.mono ?_; rintro e w2 ⟨rfl, hb2⟩)
        have HR2 := HR1.out.1.below hb2
        go_roundw
        case rel =>
          refine ⟨ss ++ [x], out, cnt1, ⟨HR2, HI1.out.1.below hb2, by have := HI.out.2.2.1; simp; omega, fun y => ?_, bel_tr HI1.out.2.1 hb2⟩⟩
          rw [HI.out.2.2.2.1 y, List.mem_append, List.mem_singleton]
          constructor
          · rintro ⟨h1, h2⟩; exact ⟨.inl h1, h2⟩
          · rintro ⟨h1 | h1, h2⟩
            · exact ⟨h1, h2⟩
            · rw [h1, ← HFB.out] at h2; cases h2
        case measure => rw [HR2.left_eq, ← HLC.out]; exact HR1.out.2
      | true =>
        go_wp2_with fail
        go_at_call 12
        refine HX.out.mono ?_
        rintro e w2 ⟨rfl, hb2⟩
        have HB2 : Hid (Below w1.heap.size w1 w2) := hb2
        clear hb2 hen HX
        have HOL : Hid (out.length ≤ 900) := by
          have h1 := HI.out.1.le Tryz.underlying9 _ HL.out
          rw [List.length_map] at h1
          have := HI.out.2.2.1; have := HLN.out
          show _ ≤ _
          omega
        have HRW : Hid (RowE sE (w2.alloc (.cells #[.string x] 9)) w.heap.size 9 u5 out ∧ SeesE sE (w2.alloc (.cells #[.string x] 9)) (.slice (some ⟨w2.heap.size, 0, none⟩) 1 1) [x] ∧ out.length + [x].length ≤ maxLen ∧ (out.length + [x].length) * 16 ≤ 140737488355328 ∧ w.heap.size ≤ (w2.alloc (.cells #[.string x] 9)).heap.size ∧ RangeS Tryz.prog 9 (w2.alloc (.cells #[.string x] 9)) b w.heap.size g (ss ++ [x]) cnt1 ∧ Below w.heap.size w (w2.alloc (.cells #[.string x] 9))) := by
          have h9 := bel_tr (bel_tr HI1.out.2.1 HB2.out) (bel_newG w2 (.cells #[.string x] 9))
          refine ⟨sE_rowE ((HI1.out.1.below HB2.out).below (bel_newG _ _)), seesE_at sE (x := x) (MapKept.heap_alloc w2 _).1, ?_, ?_, h9.size, (HR1.out.1.below HB2.out).below (bel_newG _ _), h9⟩ <;> have := HOL.out <;> simp only [List.length_cons, List.length_nil] <;> (try unfold maxLen) <;> omega
        go_wp2_with (at_builtin; refine wpList_appF (E := sE) Tryz.underlying38 infoSE rfl rfl _ _ rfl w.heap.size u5 out rfl HRW.out.1 (.slice (some ⟨w2.heap.size, 0, none⟩) 1 1) [x] rfl HRW.out.2.1 HRW.out.2.2.1 HRW.out.2.2.2.1 HRW.out.2.2.2.2.1 ?_; intro l3 w3 hr3 hg3 hf3)
        have HB3 : Hid (RowV w3 w.heap.size 9 l3 (strs (out ++ [x])) ∧ RangeS Tryz.prog 9 w3 b w.heap.size g (ss ++ [x]) cnt1 ∧ Below w.heap.size w w3) := by
          have hnb : ∀ j : Nat, (b = j ∨ w.heap.size = j) → some j ≠ u5.ownBlock := fun j hj e => by
            obtain ⟨cs, hc⟩ := rowE_obj HRW.out.1 e.symm
            obtain ⟨k1, k2⟩ := range_apart HRW.out.2.2.2.2.2.1 hc
            exact hj.elim k1 k2
          exact ⟨sE_row hr3, RangeS_grown HRW.out.2.2.2.2.2.1 hg3 (hnb b (.inl rfl)) (hnb _ (.inr rfl)), HRW.out.2.2.2.2.2.2.grown hg3 HRW.out.2.2.2.2.1 (fun k hk => HRW.out.1.block k hk)⟩
        clear hr3 hg3 hf3 HRW
        have HR2 := HB3.out.2.1
        go_wp2_with fail
        go_roundw
        case rel =>
          refine ⟨ss ++ [x], out ++ [x], cnt1, ⟨HR2, HB3.out.1, by have := HI.out.2.2.1; simp; omega, fun y => ?_, HB3.out.2.2⟩⟩
          rw [List.mem_append, List.mem_singleton, HI.out.2.2.2.1 y, List.mem_append, List.mem_singleton]
          constructor
          · rintro (⟨h1, h2⟩ | h1)
            · exact ⟨.inl h1, h2⟩
            · exact ⟨.inr h1, by rw [h1]; exact HFB.out.symm⟩
          · rintro ⟨h1 | h1, h2⟩
            · exact .inl ⟨h1, h2⟩
            · exact .inr h1
        case measure => rw [HR2.left_eq, ← HLC.out]; exact HR1.out.2
theorem tnames_any {w : World} {p B : Nat} {F : Nat → Prop} {t : Tb} (ep : Int) (h : TAt w p B F t) (hi : Inv t) (hl : t.rs.length ≤ 900) :
    Calls Tryz.prog 15 #[.pointer (some ⟨p, 0, none⟩), .int .i64 ep] w fun x w' => ∃ r, x = .returned r ∧ Sees w' r (strs (heldN t.rs ep)) ∧ Below w.heap.size w w' := by
  obtain ⟨mo, g, h1, _⟩ := h
  cases mo with
  | some b => exact tnames_some ep h1 hi hl
  | none =>
    refine (tnames_nil _ ep w (fun X hX => tkept_any (h1.below hX).cell)).mono ?_
    rintro e w' ⟨r, rfl, h2, h3⟩
    have e : heldN t.rs ep = [] := by
      rw [← held_out (rs := t.rs) (ep := ep) (out := []) (fun x => by
        constructor
        · intro h; cases h
        · intro hx
          exfalso
          obtain ⟨r, k1, k2⟩ := found_iff.1 hx
          have hg : g x = none := by
            rcases h1.rows.map with ⟨_, h4⟩ | ⟨b, h4, _⟩
            · exact h4 _
            · cases h4
          have := h1.rows.none x hg
          rw [List.filter_eq_nil_iff] at this
          exact this r k1 (ofN_iff.2 (find_iff.1 k2).1))]
      rfl
    rw [e]
    exact ⟨r, rfl, h2, h3⟩
end Go.Proofs.YthjcmagionaepaaGreat
