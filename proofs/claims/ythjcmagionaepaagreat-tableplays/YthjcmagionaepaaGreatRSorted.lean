/- dolmenref1.Sorted: what one call answers. -/
import Derived.Test.YthjcmagionaepaaGreatProg
import Derived.Test.YthjcmagionaepaaGreatGKit
import Derived.Deep.RegionHeld3
import Derived.Deep.QuietTactic
import Derived.BigQuiet
import Derived.Laws.OwnMore
import Derived.Laws.Cover1
namespace Go.Proofs.YthjcmagionaepaaGreat
open Go.RowKit Kit
set_option linter.unusedVariables false

theorem infoS : (Tryz.prog.info? 9).map (fun i => (i.zero, i.size, i.bytes)) = some (some (.string ⟨#[]⟩), 1, 16) := by kernel_rfl
/-- Where a text goes in. -/
def posB (out : List ByteArray) (x : ByteArray) : Nat → Nat
  | 0 => 0
  | k + 1 => if (!Op.bytesLess (out.getD k ⟨#[]⟩).toList x.toList && !((out.getD k ⟨#[]⟩).toList == x.toList)) = true then posB out x k else k + 1
def insB (out : List ByteArray) (x : ByteArray) : List ByteArray :=
  if 0 < posB out x out.length ∧ ((out.getD (posB out x out.length - 1) ⟨#[]⟩).toList == x.toList) = true then out else out.take (posB out x out.length) ++ x :: out.drop (posB out x out.length)
def sortedB (l : List ByteArray) : List ByteArray := l.foldl insB []
theorem insB_len (out : List ByteArray) (x : ByteArray) : (insB out x).length ≤ out.length + 1 := by
  unfold insB
  split
  · omega
  · simp; omega
theorem sortedB_step (l : List ByteArray) (i : Nat) (h : i < l.length) : sortedB (l.take (i + 1)) = insB (sortedB (l.take i)) (l.getD i ⟨#[]⟩) := by
  unfold sortedB
  rw [List.take_add_one, List.foldl_append, List.getElem?_eq_getElem h]
  simp [List.getD, h]
/-- While room is made: the place k is free. -/
def SIn (w wy : World) (g cp : Nat) (out : List ByteArray) (k : Nat) : Prop :=
  ∃ y, RowV wy w.heap.size 9 (.slice (some ⟨g, 0, none⟩) (out.length + 1) cp) (strs (out.take k ++ y :: out.drop k)) ∧ Below w.heap.size w wy
theorem gap_len (out : List ByteArray) (k : Nat) (y : ByteArray) (hk : k ≤ out.length) : (strs (out.take k ++ y :: out.drop k)).length = out.length + 1 := by
  rw [strs_len]; simp; omega
theorem SIn.bel {w wy : World} {g cp k : Nat} {out : List ByteArray} (h : SIn w wy g cp out k) : Below w.heap.size w wy := by
  obtain ⟨_, _, h⟩ := h; exact h
theorem SIn.cellB {w wy : World} {g cp k : Nat} {out : List ByteArray} (h : SIn w wy g cp out k) {j : Nat} (hj : j < k) (hk : k ≤ out.length) : wy.cell? ⟨g, j, none⟩ = some (.string (out.getD j ⟨#[]⟩)) := by
  obtain ⟨y, h1, _⟩ := h
  refine rowV_at h1 (gap_len out k y hk) ?_
  have h2 : j < out.length := by omega
  unfold strs
  rw [List.getElem?_map, List.getElem?_append_left (by simp; omega), List.getElem?_take, if_pos hj, List.getElem?_eq_getElem h2]
  simp [List.getD, h2]
theorem SIn.cellA {w wy : World} {g cp k : Nat} {out : List ByteArray} (h : SIn w wy g cp out k) (hk : k ≤ out.length) : ∃ y, wy.cell? ⟨g, k, none⟩ = some (.string y) := by
  obtain ⟨y, h1, _⟩ := h
  refine ⟨y, rowV_at h1 (gap_len out k y hk) ?_⟩
  have h2 : (out.take k).length = k := by simp; omega
  unfold strs
  rw [List.getElem?_map, List.getElem?_append_right (by omega), h2]
  simp
theorem SIn.frozenA {w wy : World} {g cp k : Nat} {out : List ByteArray} (h : SIn w wy g cp out k) (hk : k ≤ out.length) (j : Nat) : wy.frozen? ⟨g, j, none⟩ = false := by
  obtain ⟨y, h1, _⟩ := h
  exact rowV_frozen h1 (gap_len out k y hk) j
theorem gap_set (out : List ByteArray) (k : Nat) (y z : ByteArray) (hk : k ≤ out.length) : (strs (out.take k ++ y :: out.drop k)).set k (.string z) = strs (out.take k ++ z :: out.drop k) := by
  have h2 : (out.take k).length = k := by simp; omega
  unfold strs
  rw [← List.map_set, List.set_append_right _ _ (by omega), h2]
  simp
theorem SIn.move {w wy : World} {g cp j : Nat} {out : List ByteArray} (h : SIn w wy g cp out (j + 1)) (hg : w.heap.size ≤ g) (hj : j + 1 ≤ out.length) : SIn w (wy.setCell ⟨g, j + 1, none⟩ (.string (out.getD j ⟨#[]⟩))) g cp out j := by
  obtain ⟨y, h1, h2⟩ := h
  refine ⟨out.getD j ⟨#[]⟩, ?_, h2.setCell (by exact hg) _⟩
  have h3 := rowV_stored h1 (gap_len out _ y hj) (j + 1) (.string (out.getD j ⟨#[]⟩))
  rw [gap_set out _ y _ hj] at h3
  have h4 : j < out.length := by omega
  have e : out.take (j + 1) ++ out.getD j ⟨#[]⟩ :: out.drop (j + 1) = out.take j ++ out.getD j ⟨#[]⟩ :: out.drop j := by
    have e1 : out.getD j ⟨#[]⟩ = out[j] := by simp [List.getD, h4]
    rw [e1, List.take_add_one, List.getElem?_eq_getElem h4, List.drop_eq_getElem_cons h4]
    simp only [Option.toList_some, List.append_assoc, List.singleton_append]
  rw [e] at h3
  exact h3
theorem SIn.last {w wy : World} {g cp a : Nat} {out : List ByteArray} (h : SIn w wy g cp out a) (hg : w.heap.size ≤ g) (ha : a ≤ out.length) (x : ByteArray) (hi : insB out x = out.take a ++ x :: out.drop a) :
    RowV (wy.setCell ⟨g, a, none⟩ (.string x)) w.heap.size 9 (.slice (some ⟨g, 0, none⟩) (out.length + 1) cp) (strs (insB out x)) ∧ Below w.heap.size w (wy.setCell ⟨g, a, none⟩ (.string x)) := by
  obtain ⟨y, h1, h2⟩ := h
  refine ⟨?_, h2.setCell (by exact hg) _⟩
  have h3 := rowV_stored h1 (gap_len out _ y ha) a (.string x)
  rw [gap_set out _ y _ ha] at h3
  rw [hi]; exact h3
def SOut (w wr : World) (v : Value) (l : List ByteArray) (i : Nat) : Prop := RowV wr w.heap.size 9 v (strs (sortedB (l.take i))) ∧ (sortedB (l.take i)).length ≤ i ∧ Below w.heap.size w wr
theorem next_rel {w w' : World} {v : Value} {l out : List ByteArray} {x : ByteArray} {i : Nat} (hs : sortedB (l.take i) = out) (hl : out.length ≤ i) (hlt : i < l.length) (hx : l.getD i ⟨#[]⟩ = x) (hr : RowV w' w.heap.size 9 v (strs (insB out x))) (hb : Below w.heap.size w w') : SOut w w' v l (i + 1) := by
  unfold SOut
  rw [sortedB_step l i hlt, hs, hx]
  exact ⟨hr, Nat.le_trans (insB_len _ _) (by omega), hb⟩
theorem ins_here {out : List ByteArray} {x : ByteArray} {a : Nat} (hp : posB out x out.length = a) (h : a = 0 ∨ ((out.getD (a - 1) ⟨#[]⟩).toList == x.toList) = false) : insB out x = out.take a ++ x :: out.drop a := by
  unfold insB
  rw [hp, if_neg]
  rintro ⟨h1, h2⟩
  rcases h with h | h
  · omega
  · rw [h] at h2; cases h2
theorem ins_not {out : List ByteArray} {x : ByteArray} {m : Nat} (hp : posB out x out.length = m + 1) (h : ((out.getD m ⟨#[]⟩).toList == x.toList) = true) : insB out x = out := by
  unfold insB
  rw [hp, if_pos ⟨by omega, h⟩]

set_option maxRecDepth 4000 in
set_option maxHeartbeats 8000000 in
theorem sorted_any (v : Value) (l : List ByteArray) (w : World) (hv : Sees w v (strs l)) (hl : l.length ≤ 100000) :
    Calls Tryz.prog 22 #[v] w fun e w' => ∃ r, e = .returned r ∧ RowV w' w.heap.size 9 r (strs (sortedB l)) ∧ Below w.heap.size w w' := by
  obtain ⟨lo, lc, rfl, h1, h2, h3, h4⟩ := hv
  rw [strs_len] at h1 h4
  rw [strs_len]
  have H4 : Hid (_ → _) := h4
  have l1 : (l.length : Int) ≤ 100000 := by omega
  clear h1 h2 h3 h4
  go_enter Tryz.func22, Tryz.ntmps22
  go_wp2
  go_loopw [3, 4] (fun u v wr => ∃ i : Nat, i ≤ l.length ∧ v = .int .i64 (i : Int) ∧ Hid (SOut w wr u l i)) (fun _ v _ => l.length - (intOf v).toNat)
  case atStart => exact ⟨0, Nat.zero_le _, rfl, rowV_nil _ _ _, Nat.le_refl _, Below.refl _ _⟩
  case round =>
    obtain ⟨w1, hw1⟩ : ∃ z, z = wr := ⟨_, rfl⟩
    subst hw1
    obtain ⟨i, hi, rfl, HO⟩ := hrel
    by_cases hlt0 : i < l.length
    · obtain ⟨out, ho⟩ : ∃ o, sortedB (l.take i) = o := ⟨_, rfl⟩
      obtain ⟨x, hx⟩ : ∃ x, l.getD i ⟨#[]⟩ = x := ⟨_, rfl⟩
      obtain ⟨lb, lf, hlo, hlb, hlc⟩ := H4.out (by omega)
      subst hlo
      have cx := hlc i _ (strs_at l i hlt0)
      have hso := HO.out
      unfold SOut at hso
      rw [ho] at hso
      rw [hx] at cx
      have HC : Hid (lb < w.heap.size ∧ w.cell? ⟨lb, lf + i, none⟩ = some (.string x)) := ⟨hlb, cx⟩
      have HS : Hid (sortedB (l.take i) = out ∧ out.length ≤ i) := ⟨ho, hso.2.1⟩
      have HX : Hid (i < l.length ∧ l.getD i ⟨#[]⟩ = x) := ⟨hlt0, hx⟩
      have HL : Hid (out.length ≤ 100000) := by have := hso.2.1; show _ ≤ _; omega
      obtain ⟨ao, cap, rfl, _, _, _, hac⟩ := hso.1.sees
      rw [strs_len] at hac hso
      rw [strs_len]
      have HR : Hid (RowV w1 w.heap.size 9 (.slice ao out.length cap) (strs out) ∧ Below w.heap.size w w1) := ⟨hso.1, hso.2.2⟩
      have HA : Hid (_ → _) := hac
      have o1 : (out.length : Int) ≤ 100000 := by have := HL.out; omega
      have i0 : (i : Int) < (l.length : Int) := by omega
      have i1 : (0 : Int) ≤ (i : Int) := by omega
      clear hac hso ho hx cx hlc HO hlb
      go_wp2
      go_loopw [5] (fun v wx => ∃ a : Nat, a ≤ out.length ∧ v = .int .i64 (a : Int) ∧ Hid (posB out x out.length = posB out x a) ∧ Hid (Below w1.heap.size w1 wx)) (fun v _ => (intOf v).toNat)
      case atStart => exact ⟨out.length, Nat.le_refl _, rfl, rfl, Below.refl _ _⟩
      case round =>
        obtain ⟨wx, hwx⟩ : ∃ z, z = wr := ⟨_, rfl⟩
        subst hwx
        obtain ⟨a, ha, rfl, HP, HW⟩ := hrel
        have cx : wx.cell? ⟨lb, lf + i, none⟩ = some (.string x) := (HW.out.cell (by have := HR.out.2.size; have := HC.out.1; show lb < _; omega)).trans ((HR.out.2.cell (by exact HC.out.1)).trans HC.out.2)
        cases a with
        | zero =>
          have HI : Hid (insB out x = out.take 0 ++ x :: out.drop 0) := ins_here (HP.out.trans rfl) (.inl rfl)
          clear HP
          go_wp2
          go_quiet (fail)
          go_wp2
          go_quiet (fail)
          go_wp2_with (at_builtin; refine wpList_appV Tryz.underlying38 infoS rfl (by decide) rfl _ _ rfl w.heap.size (.slice ao out.length cap) (strs out) rfl ?r1 (.slice (some ⟨wx.heap.size, 0, none⟩) 1 1) [.string ⟨#[]⟩] rfl ?s1 ?c1 ?c2 ?c3 ?_)
          case r1 => exact RowV.below (HR.out.1.below (by first | exact drewNB HW.out _ | exact drewNB (drewNB HW.out _) _)) ((Below.refl _ _).alloc (Nat.le_refl _) _)
          case s1 => exact sees_one _ _ _ _ rfl
          case c1 => first | rfl | (intro y hy; simp at hy; subst hy; rfl)
          case c2 => have := HL.out; rw [strs_len]; simp; omega
          case c3 => have h1 := HR.out.2.size; have h2 := HW.out.size; simp; omega
          intro l3 w3 hr3 hb3
          have HB3 : Hid (Below w.heap.size w w3) := Below.trans (Below.alloc (bel2v HR.out.2 (by first | exact drewNB HW.out _ | exact drewNB (drewNB HW.out _) _)) (by have h1 := HR.out.2.size; have h2 := HW.out.size; simp; omega) _) hb3
          obtain ⟨g, cp, rfl, hg⟩ := rowV_some hr3 (by simp [strs])
          have el : (strs out ++ [Value.string ⟨#[]⟩]).length = out.length + 1 := by simp [strs]
          rw [el] at hr3
          rw [el]
          have HQ : Hid (w.heap.size ≤ g ∧ SIn w w3 g cp out out.length) := ⟨hg, ⟨⟨#[]⟩, by rw [List.take_length, List.drop_length]; simpa [strs] using hr3, HB3.out⟩⟩
          clear hr3 hb3 HB3 el hg
          go_wp2
          go_loopw [6] (fun v wy => ∃ k : Nat, 0 ≤ k ∧ k ≤ out.length ∧ v = .int .i64 (k : Int) ∧ Hid (SIn w wy g cp out k)) (fun v _ => (intOf v).toNat)
          case atStart => exact ⟨out.length, by omega, Nat.le_refl _, by simp, HQ.out.2⟩
          case round =>
            obtain ⟨wy, hwy⟩ : ∃ z, z = wr := ⟨_, rfl⟩
            subst hwy
            obtain ⟨k, hka, hkl, rfl, HK⟩ := hrel
            by_cases hlt : 0 < k
            · obtain ⟨j, rfl⟩ : ∃ j, k = j + 1 := ⟨k - 1, by omega⟩
              have ec : ((j + 1 : Nat) : Int) = (j : Int) + 1 := by omega
              rw [ec]
              have q0 : (0 : Int) < (j : Int) + 1 := by omega
              have q1 : (j : Int) < (out.length : Int) + 1 := by omega
              have q2 : (j : Int) + 1 < (out.length : Int) + 1 := by omega
              have q3 : (0 : Int) ≤ (j : Int) := by omega
              have q4 : (j : Int) + 1 - 1 = (j : Int) := by omega
              have d0 := HK.out.cellB (j := j) (by omega) (by omega)
              obtain ⟨y, d1⟩ := HK.out.cellA (by omega)
              have d2 := HK.out.frozenA (by omega) (j + 1)
              have HK2 := HK.out.move HQ.out.1 (by omega)
              have HK3 : Hid _ := HK2
              clear ec HK HK2
              go_wp2
              go_roundw
              case rel => exact ⟨j, by omega, by omega, by simp, HK3.out⟩
              case measure => simp [intOf]
            · obtain rfl : k = 0 := by omega
              have q0 : ¬ (0 : Int) < (0 : Int) := by omega
              have q2 : (0 : Int) < (out.length : Int) + 1 := by omega
              have q3 : (0 : Int) ≤ (0 : Int) := by omega
              obtain ⟨y, d1⟩ := HK.out.cellA (by omega)
              have d2 := HK.out.frozenA (by omega) (0)
              have HK2 := HK.out.last HQ.out.1 (by omega) x HI.out
              have dx := (HK.out.bel.cell (by exact HC.out.1)).trans HC.out.2
              have HK3 : Hid _ := HK2
              clear HK HK2
              go_wp2
              go_roundw
              case rel => exact ⟨i + 1, by omega, by simp, next_rel HS.out.1 HS.out.2 HX.out.1 HX.out.2 HK3.out.1 HK3.out.2⟩
              case measure => simp [intOf]; omega
        | succ m =>
          obtain ⟨og, of, hao, hol, hoc⟩ := HA.out (by omega)
          subst hao
          have cm := (HW.out.cell (by exact hol)).trans (hoc m _ (strs_at out m (by omega)))
          have f0 : (m : Int) + 1 - 1 = (m : Int) := by omega
          have fw : IntKind.i64.wrap (m : Int) = (m : Int) := by rw [IntKind.wrap_i64]; omega
          have f1 : (m : Int) < (out.length : Int) := by omega
          have f2 : (0 : Int) ≤ (m : Int) := by omega
          have f3 : (0 : Int) < (m : Int) + 1 := by omega
          have f4 : (m : Int) + 1 ≤ (out.length : Int) := by omega
          have ec : ((m + 1 : Nat) : Int) = (m : Int) + 1 := by omega
          rw [ec]
          have hp := HP.out
          obtain ⟨y, hy⟩ : ∃ y, out.getD m ⟨#[]⟩ = y := ⟨_, rfl⟩
          rw [posB, hy] at hp
          rw [hy] at cm
          cases hA : Op.bytesLess y.toList x.toList with
          | false =>
            cases hB : (y.toList == x.toList) with
            | false =>
              have HP2 : Hid (posB out x out.length = posB out x m) := by show _ = _; rw [hp, hA, hB]; rfl
              clear hp HP ec hoc hy
              go_wp2
              go_quiet (fail)
              go_wp2
              go_roundw
              case rel => exact ⟨m, by omega, by simp, HP2.out, drewNB HW.out _⟩
              case measure => simp [intOf]
            | true =>
              have HI : Hid (insB out x = out) := ins_not (m := m) (by rw [hp, hA, hB]; rfl) (by rw [hy]; exact hB)
              clear hp HP ec hoc hy
              go_wp2
              go_quiet (fail)
              go_wp2
              go_quiet (fail)
              go_wp2
              go_roundw
              case rel => exact ⟨i + 1, by omega, by simp, next_rel HS.out.1 HS.out.2 HX.out.1 HX.out.2 (by rw [HI.out]; exact HR.out.1.below (by first | exact drewNB HW.out _ | exact drewNB (drewNB HW.out _) _)) (bel2v HR.out.2 (by first | exact drewNB HW.out _ | exact drewNB (drewNB HW.out _) _))⟩
              case measure => simp [intOf]; omega
          | true =>
            cases hB : (y.toList == x.toList) with
            | true =>
              have HI : Hid (insB out x = out) := ins_not (m := m) (by rw [hp, hA, hB]; rfl) (by rw [hy]; exact hB)
              clear hp HP ec hoc hy
              go_wp2
              go_quiet (fail)
              go_wp2
              go_quiet (fail)
              go_wp2
              go_roundw
              case rel => exact ⟨i + 1, by omega, by simp, next_rel HS.out.1 HS.out.2 HX.out.1 HX.out.2 (by rw [HI.out]; exact HR.out.1.below (by first | exact drewNB HW.out _ | exact drewNB (drewNB HW.out _) _)) (bel2v HR.out.2 (by first | exact drewNB HW.out _ | exact drewNB (drewNB HW.out _) _))⟩
              case measure => simp [intOf]; omega
            | false =>
              have HI : Hid (insB out x = out.take (m + 1) ++ x :: out.drop (m + 1)) := ins_here (by rw [hp, hA, hB]; rfl) (.inr (by rw [Nat.add_sub_cancel, hy]; exact hB))
              clear hp HP ec hoc hy
              go_wp2
              go_quiet (fail)
              go_wp2
              go_quiet (fail)
              go_wp2_with (at_builtin; refine wpList_appV Tryz.underlying38 infoS rfl (by decide) rfl _ _ rfl w.heap.size (.slice (some ⟨og, of, none⟩) out.length cap) (strs out) rfl ?r1 (.slice (some ⟨wx.heap.size, 0, none⟩) 1 1) [.string ⟨#[]⟩] rfl ?s1 ?c1 ?c2 ?c3 ?_)
              case r1 => exact RowV.below (HR.out.1.below (by first | exact drewNB HW.out _ | exact drewNB (drewNB HW.out _) _)) ((Below.refl _ _).alloc (Nat.le_refl _) _)
              case s1 => exact sees_one _ _ _ _ rfl
              case c1 => first | rfl | (intro y hy; simp at hy; subst hy; rfl)
              case c2 => have := HL.out; rw [strs_len]; simp; omega
              case c3 => have h1 := HR.out.2.size; have h2 := HW.out.size; simp; omega
              intro l3 w3 hr3 hb3
              have HB3 : Hid (Below w.heap.size w w3) := Below.trans (Below.alloc (bel2v HR.out.2 (by first | exact drewNB HW.out _ | exact drewNB (drewNB HW.out _) _)) (by have h1 := HR.out.2.size; have h2 := HW.out.size; simp; omega) _) hb3
              obtain ⟨g, cp, rfl, hg⟩ := rowV_some hr3 (by simp [strs])
              have el : (strs out ++ [Value.string ⟨#[]⟩]).length = out.length + 1 := by simp [strs]
              rw [el] at hr3
              rw [el]
              have HQ : Hid (w.heap.size ≤ g ∧ SIn w w3 g cp out out.length) := ⟨hg, ⟨⟨#[]⟩, by rw [List.take_length, List.drop_length]; simpa [strs] using hr3, HB3.out⟩⟩
              clear hr3 hb3 HB3 el hg
              go_wp2
              go_loopw [6] (fun v wy => ∃ k : Nat, (m + 1) ≤ k ∧ k ≤ out.length ∧ v = .int .i64 (k : Int) ∧ Hid (SIn w wy g cp out k)) (fun v _ => (intOf v).toNat)
              case atStart => exact ⟨out.length, by omega, Nat.le_refl _, by simp, HQ.out.2⟩
              case round =>
                obtain ⟨wy, hwy⟩ : ∃ z, z = wr := ⟨_, rfl⟩
                subst hwy
                obtain ⟨k, hka, hkl, rfl, HK⟩ := hrel
                by_cases hlt : (m + 1) < k
                · obtain ⟨j, rfl⟩ : ∃ j, k = j + 1 := ⟨k - 1, by omega⟩
                  have ec : ((j + 1 : Nat) : Int) = (j : Int) + 1 := by omega
                  rw [ec]
                  have q0 : ((m : Int) + 1 : Int) < (j : Int) + 1 := by omega
                  have q1 : (j : Int) < (out.length : Int) + 1 := by omega
                  have q2 : (j : Int) + 1 < (out.length : Int) + 1 := by omega
                  have q3 : (0 : Int) ≤ (j : Int) := by omega
                  have q4 : (j : Int) + 1 - 1 = (j : Int) := by omega
                  have d0 := HK.out.cellB (j := j) (by omega) (by omega)
                  obtain ⟨y, d1⟩ := HK.out.cellA (by omega)
                  have d2 := HK.out.frozenA (by omega) (j + 1)
                  have HK2 := HK.out.move HQ.out.1 (by omega)
                  have HK3 : Hid _ := HK2
                  clear ec HK HK2
                  go_wp2
                  go_roundw
                  case rel => exact ⟨j, by omega, by omega, by simp, HK3.out⟩
                  case measure => simp [intOf]
                · obtain rfl : k = (m + 1) := by omega
                  have q0 : ¬ ((m : Int) + 1 : Int) < ((m : Int) + 1 : Int) := by omega
                  have q2 : ((m : Int) + 1 : Int) < (out.length : Int) + 1 := by omega
                  have q3 : (0 : Int) ≤ ((m : Int) + 1 : Int) := by omega
                  obtain ⟨y, d1⟩ := HK.out.cellA (by omega)
                  have d2 := HK.out.frozenA (by omega) ((m + 1))
                  have HK2 := HK.out.last HQ.out.1 (by omega) x HI.out
                  have dx := (HK.out.bel.cell (by exact HC.out.1)).trans HC.out.2
                  have HK3 : Hid _ := HK2
                  clear HK HK2
                  go_wp2
                  go_roundw
                  case rel => exact ⟨i + 1, by omega, by simp, next_rel HS.out.1 HS.out.2 HX.out.1 HX.out.2 HK3.out.1 HK3.out.2⟩
                  case measure => simp [intOf]; omega
    · have hkl : i = l.length := by omega
      have hso := HO.out
      unfold SOut at hso
      rw [hkl, List.take_length] at hso
      have HE : Hid (RowV w1 w.heap.size 9 u3 (strs (sortedB l)) ∧ Below w.heap.size w w1) := ⟨hso.1, hso.2.2⟩
      have h2 : ¬ (i : Int) < (l.length : Int) := by omega
      clear hso HO hkl
      go_wp2
      go_ret
      exact ⟨_, rfl, HE.out⟩
end Go.Proofs.YthjcmagionaepaaGreat
