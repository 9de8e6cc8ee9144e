/- dolmenref9.Sorted: what one call answers. -/
import Derived.Test.YtbkciencikdacaaProg
import Derived.Test.YtbkciencikdacaaKitTurn
import Derived.Deep.RegionHeld3
import Derived.Deep.QuietTactic
import Derived.BigQuiet
import Derived.Laws.OwnMore
import Derived.Laws.Cover1
namespace Go.Proofs.Ytbkciencikdacaa
open Go.RowKit Kit
set_option linter.unusedVariables false

theorem drewNB {B : Nat} {a w : World} (h : Below B a w) (n : Nat) : Below B a (w.drewN n) := ⟨h.os, h.tape, h.output, h.size, h.block⟩
theorem bel2v {w w1 w2 : World} (h : Below w.heap.size w w1) (k : Below w1.heap.size w1 w2) : Below w.heap.size w w2 := bel_tr h k
def iV (l : List Int) : List Value := l.map (Value.int .i64)
theorem iV_len (l : List Int) : (iV l).length = l.length := by simp [iV]
theorem iV_at (l : List Int) (i : Nat) (h : i < l.length) : (iV l)[i]? = some (.int .i64 (l.getD i 0)) := by
  simp [iV, List.getD, h]
theorem infoI9 : (Try.prog.info? 3).map (fun i => (i.zero, i.size, i.bytes)) = some (some (.int .i64 0), 1, 8) := by kernel_rfl
/-- Where a text goes in. -/
def posI (out : List Int) (x : Int) : Nat → Nat
  | 0 => 0
  | k + 1 => if decide (x < out.getD k 0) = true then posI out x k else k + 1
def insI (out : List Int) (x : Int) : List Int :=
  if 0 < posI out x out.length ∧ (out.getD (posI out x out.length - 1) 0 == x) = true then out else out.take (posI out x out.length) ++ x :: out.drop (posI out x out.length)
def srtI (l : List Int) : List Int := l.foldl insI []
theorem insI_len (out : List Int) (x : Int) : (insI out x).length ≤ out.length + 1 := by
  unfold insI
  split
  · omega
  · simp; omega
theorem srtI_step (l : List Int) (i : Nat) (h : i < l.length) : srtI (l.take (i + 1)) = insI (srtI (l.take i)) (l.getD i 0) := by
  unfold srtI
  rw [List.take_add_one, List.foldl_append, List.getElem?_eq_getElem h]
  simp [List.getD, h]
theorem rowV_some {w : World} {base : Nat} {e : TypeId} {v : Value} {xs : List Value} (h : RowV w base e v xs) (h0 : 0 < xs.length) : ∃ g cap, v = .slice (some ⟨g, 0, none⟩) xs.length cap ∧ base ≤ g := by
  unfold RowV at h
  obtain ⟨h1, h2⟩ := h
  rcases h2 with ⟨h2, h3⟩ | ⟨g, cap, cur, hv, hg, hh, hn, hm, _, _⟩
  · omega
  · exact ⟨g, cap, hv, hg⟩
theorem rowV_at {w : World} {base g n cap : Nat} {e : TypeId} {xs : List Value} (h : RowV w base e (.slice (some ⟨g, 0, none⟩) n cap) xs) (hn : xs.length = n) {i : Nat} {x : Value} (hx : xs[i]? = some x) : w.cell? ⟨g, i, none⟩ = some x := by
  unfold RowV at h
  subst hn
  have hi := (List.getElem?_eq_some_iff.1 hx).1
  rw [h.cellAt i (by omega)]
  exact hx
theorem rowV_stored {w : World} {base g n cap : Nat} {e : TypeId} {xs : List Value} (h : RowV w base e (.slice (some ⟨g, 0, none⟩) n cap) xs) (hn : xs.length = n) (j : Nat) (u : Value) : RowV (w.setCell ⟨g, j, none⟩ u) base e (.slice (some ⟨g, 0, none⟩) n cap) (xs.set j u) := by
  unfold RowV at *
  subst hn
  have := h.stored j u
  rw [List.length_set]; exact this.1
theorem rowV_frozen {w : World} {base g n cap : Nat} {e : TypeId} {xs : List Value} (h : RowV w base e (.slice (some ⟨g, 0, none⟩) n cap) xs) (hn : xs.length = n) (j : Nat) : w.frozen? ⟨g, j, none⟩ = false := by
  unfold RowV at h; subst hn; exact h.frozenAt j
/-- While room is made: the place k is free. -/
def SInI (w wy : World) (g cp : Nat) (out : List Int) (k : Nat) : Prop :=
  ∃ y, RowV wy w.heap.size 3 (.slice (some ⟨g, 0, none⟩) (out.length + 1) cp) (iV (out.take k ++ y :: out.drop k)) ∧ Below w.heap.size w wy
theorem gap_lenI (out : List Int) (k : Nat) (y : Int) (hk : k ≤ out.length) : (iV (out.take k ++ y :: out.drop k)).length = out.length + 1 := by
  rw [iV_len]; simp; omega
theorem SInI.bel {w wy : World} {g cp k : Nat} {out : List Int} (h : SInI w wy g cp out k) : Below w.heap.size w wy := by
  obtain ⟨_, _, h⟩ := h; exact h
theorem SInI.cellB {w wy : World} {g cp k : Nat} {out : List Int} (h : SInI w wy g cp out k) {j : Nat} (hj : j < k) (hk : k ≤ out.length) : wy.cell? ⟨g, j, none⟩ = some (.int .i64 (out.getD j 0)) := by
  obtain ⟨y, h1, _⟩ := h
  refine rowV_at h1 (gap_lenI out k y hk) ?_
  have h2 : j < out.length := by omega
  unfold iV
  rw [List.getElem?_map, List.getElem?_append_left (by simp; omega), List.getElem?_take, if_pos hj, List.getElem?_eq_getElem h2]
  simp [List.getD, h2]
theorem SInI.cellA {w wy : World} {g cp k : Nat} {out : List Int} (h : SInI w wy g cp out k) (hk : k ≤ out.length) : ∃ y, wy.cell? ⟨g, k, none⟩ = some (.int .i64 y) := by
  obtain ⟨y, h1, _⟩ := h
  refine ⟨y, rowV_at h1 (gap_lenI out k y hk) ?_⟩
  have h2 : (out.take k).length = k := by simp; omega
  unfold iV
  rw [List.getElem?_map, List.getElem?_append_right (by omega), h2]
  simp
theorem SInI.frozenA {w wy : World} {g cp k : Nat} {out : List Int} (h : SInI w wy g cp out k) (hk : k ≤ out.length) (j : Nat) : wy.frozen? ⟨g, j, none⟩ = false := by
  obtain ⟨y, h1, _⟩ := h
  exact rowV_frozen h1 (gap_lenI out k y hk) j
theorem gap_setI (out : List Int) (k : Nat) (y z : Int) (hk : k ≤ out.length) : (iV (out.take k ++ y :: out.drop k)).set k (.int .i64 z) = iV (out.take k ++ z :: out.drop k) := by
  have h2 : (out.take k).length = k := by simp; omega
  unfold iV
  rw [← List.map_set, List.set_append_right _ _ (by omega), h2]
  simp
theorem SInI.move {w wy : World} {g cp j : Nat} {out : List Int} (h : SInI w wy g cp out (j + 1)) (hg : w.heap.size ≤ g) (hj : j + 1 ≤ out.length) : SInI w (wy.setCell ⟨g, j + 1, none⟩ (.int .i64 (out.getD j 0))) g cp out j := by
  obtain ⟨y, h1, h2⟩ := h
  refine ⟨out.getD j 0, ?_, h2.setCell (by exact hg) _⟩
  have h3 := rowV_stored h1 (gap_lenI out _ y hj) (j + 1) (.int .i64 (out.getD j 0))
  rw [gap_setI out _ y _ hj] at h3
  have h4 : j < out.length := by omega
  have e : out.take (j + 1) ++ out.getD j 0 :: out.drop (j + 1) = out.take j ++ out.getD j 0 :: out.drop j := by
    have e1 : out.getD j 0 = out[j] := by simp [List.getD, h4]
    rw [e1, List.take_add_one, List.getElem?_eq_getElem h4, List.drop_eq_getElem_cons h4]
    simp only [Option.toList_some, List.append_assoc, List.singleton_append]
  rw [e] at h3
  exact h3
theorem SInI.last {w wy : World} {g cp a : Nat} {out : List Int} (h : SInI w wy g cp out a) (hg : w.heap.size ≤ g) (ha : a ≤ out.length) (x : Int) (hi : insI out x = out.take a ++ x :: out.drop a) :
    RowV (wy.setCell ⟨g, a, none⟩ (.int .i64 x)) w.heap.size 3 (.slice (some ⟨g, 0, none⟩) (out.length + 1) cp) (iV (insI out x)) ∧ Below w.heap.size w (wy.setCell ⟨g, a, none⟩ (.int .i64 x)) := by
  obtain ⟨y, h1, h2⟩ := h
  refine ⟨?_, h2.setCell (by exact hg) _⟩
  have h3 := rowV_stored h1 (gap_lenI out _ y ha) a (.int .i64 x)
  rw [gap_setI out _ y _ ha] at h3
  rw [hi]; exact h3
def SOutI (w wr : World) (v : Value) (l : List Int) (i : Nat) : Prop := RowV wr w.heap.size 3 v (iV (srtI (l.take i))) ∧ (srtI (l.take i)).length ≤ i ∧ Below w.heap.size w wr
theorem next_relI {w w' : World} {v : Value} {l out : List Int} {x : Int} {i : Nat} (hs : srtI (l.take i) = out) (hl : out.length ≤ i) (hlt : i < l.length) (hx : l.getD i 0 = x) (hr : RowV w' w.heap.size 3 v (iV (insI out x))) (hb : Below w.heap.size w w') : SOutI w w' v l (i + 1) := by
  unfold SOutI
  rw [srtI_step l i hlt, hs, hx]
  exact ⟨hr, Nat.le_trans (insI_len _ _) (by omega), hb⟩
theorem ins_hereI {out : List Int} {x : Int} {a : Nat} (hp : posI out x out.length = a) (h : a = 0 ∨ (out.getD (a - 1) 0 == x) = false) : insI out x = out.take a ++ x :: out.drop a := by
  unfold insI
  rw [hp, if_neg]
  rintro ⟨h1, h2⟩
  rcases h with h | h
  · omega
  · rw [h] at h2; cases h2
theorem ins_notI {out : List Int} {x : Int} {m : Nat} (hp : posI out x out.length = m + 1) (h : (out.getD m 0 == x) = true) : insI out x = out := by
  unfold insI
  rw [hp, if_pos ⟨by omega, h⟩]

set_option maxRecDepth 4000 in
set_option maxHeartbeats 8000000 in
theorem rsorted_any (v : Value) (l : List Int) (w : World) (hv : Sees w v (iV l)) (hl : l.length ≤ 100000) :
    Calls Try.prog 22 #[v] w fun e w' => ∃ r, e = .returned r ∧ RowV w' w.heap.size 3 r (iV (srtI l)) ∧ Below w.heap.size w w' := by
  obtain ⟨lo, lc, rfl, h1, h2, h3, h4⟩ := hv
  rw [iV_len] at h1 h4
  rw [iV_len]
  have H4 : Hid (_ → _) := h4
  have l1 : (l.length : Int) ≤ 100000 := by omega
  clear h1 h2 h3 h4
  go_enter Try.func22, Try.ntmps22
  go_wp2
  go_loopw [3, 4] (fun u v wr => ∃ i : Nat, i ≤ l.length ∧ v = .int .i64 (i : Int) ∧ Hid (SOutI w wr u l i)) (fun _ v _ => l.length - (intOf v).toNat)
  case atStart => exact ⟨0, Nat.zero_le _, rfl, rowV_nil _ _ _, Nat.le_refl _, Below.refl _ _⟩
  case round =>
    obtain ⟨w1, hw1⟩ : ∃ z, z = wr := ⟨_, rfl⟩
    subst hw1
    obtain ⟨i, hi, rfl, HO⟩ := hrel
    by_cases hlt0 : i < l.length
    · obtain ⟨out, ho⟩ : ∃ o, srtI (l.take i) = o := ⟨_, rfl⟩
      obtain ⟨x, hx⟩ : ∃ x, l.getD i 0 = x := ⟨_, rfl⟩
      obtain ⟨lb, lf, hlo, hlb, hlc⟩ := H4.out (by omega)
      subst hlo
      have cx := hlc i _ (iV_at l i hlt0)
      have hso := HO.out
      unfold SOutI at hso
      rw [ho] at hso
      rw [hx] at cx
      have HC : Hid (lb < w.heap.size ∧ w.cell? ⟨lb, lf + i, none⟩ = some (.int .i64 x)) := ⟨hlb, cx⟩
      have HS : Hid (srtI (l.take i) = out ∧ out.length ≤ i) := ⟨ho, hso.2.1⟩
      have HX : Hid (i < l.length ∧ l.getD i 0 = x) := ⟨hlt0, hx⟩
      have HL : Hid (out.length ≤ 100000) := by have := hso.2.1; show _ ≤ _; omega
      obtain ⟨ao, cap, rfl, _, _, _, hac⟩ := hso.1.sees
      rw [iV_len] at hac hso
      rw [iV_len]
      have HR : Hid (RowV w1 w.heap.size 3 (.slice ao out.length cap) (iV out) ∧ Below w.heap.size w w1) := ⟨hso.1, hso.2.2⟩
      have HA : Hid (_ → _) := hac
      have o1 : (out.length : Int) ≤ 100000 := by have := HL.out; omega
      have i0 : (i : Int) < (l.length : Int) := by omega
      have i1 : (0 : Int) ≤ (i : Int) := by omega
      clear hac hso ho hx cx hlc HO hlb
      go_wp2
      go_loopw [5] (fun v wx => ∃ a : Nat, a ≤ out.length ∧ v = .int .i64 (a : Int) ∧ Hid (posI out x out.length = posI out x a) ∧ Hid (Below w1.heap.size w1 wx)) (fun v _ => (intOf v).toNat)
      case atStart => exact ⟨out.length, Nat.le_refl _, rfl, rfl, Below.refl _ _⟩
      case round =>
        obtain ⟨wx, hwx⟩ : ∃ z, z = wr := ⟨_, rfl⟩
        subst hwx
        obtain ⟨a, ha, rfl, HP, HW⟩ := hrel
        have cx : wx.cell? ⟨lb, lf + i, none⟩ = some (.int .i64 x) := (HW.out.cell (by have := HR.out.2.size; have := HC.out.1; show lb < _; omega)).trans ((HR.out.2.cell (by exact HC.out.1)).trans HC.out.2)
        cases a with
        | zero =>
          have HI : Hid (insI out x = out.take 0 ++ x :: out.drop 0) := ins_hereI (HP.out.trans rfl) (.inl rfl)
          clear HP
          go_wp2
          go_quiet (fail)
          go_wp2
          go_quiet (fail)
          go_wp2_with (at_builtin; refine wpList_appV Try.underlying23 infoI9 rfl (by decide) rfl _ _ rfl w.heap.size (.slice ao out.length cap) (iV out) rfl ?r1 (.slice (some ⟨wx.heap.size, 0, none⟩) 1 1) [.int .i64 0] rfl ?s1 ?c1 ?c2 ?c3 ?_)
          case r1 => exact RowV.below (HR.out.1.below (by first | exact drewNB HW.out _ | exact drewNB (drewNB HW.out _) _)) ((Below.refl _ _).alloc (Nat.le_refl _) _)
          case s1 => exact sees_one _ _ _ _ rfl
          case c1 => first | rfl | (intro y hy; simp at hy; subst hy; rfl)
          case c2 => have := HL.out; rw [iV_len]; simp; omega
          case c3 => have h1 := HR.out.2.size; have h2 := HW.out.size; simp; omega
          intro l3 w3 hr3 hb3
          have HB3 : Hid (Below w.heap.size w w3) := Below.trans (Below.alloc (bel2v HR.out.2 (by first | exact drewNB HW.out _ | exact drewNB (drewNB HW.out _) _)) (by have h1 := HR.out.2.size; have h2 := HW.out.size; simp; omega) _) hb3
          obtain ⟨g, cp, rfl, hg⟩ := rowV_some hr3 (by simp [iV])
          have el : (iV out ++ [Value.int .i64 0]).length = out.length + 1 := by simp [iV]
          rw [el] at hr3
          rw [el]
          have HQ : Hid (w.heap.size ≤ g ∧ SInI w w3 g cp out out.length) := ⟨hg, ⟨0, by rw [List.take_length, List.drop_length]; simpa [iV] using hr3, HB3.out⟩⟩
          clear hr3 hb3 HB3 el hg
          go_wp2
          go_loopw [6] (fun v wy => ∃ k : Nat, 0 ≤ k ∧ k ≤ out.length ∧ v = .int .i64 (k : Int) ∧ Hid (SInI w wy g cp out k)) (fun v _ => (intOf v).toNat)
          case atStart => exact ⟨out.length, by omega, Nat.le_refl _, by simp, HQ.out.2⟩
          case round =>
            obtain ⟨wy, hwy⟩ : ∃ z, z = wr := ⟨_, rfl⟩
            subst hwy
            obtain ⟨k, hka, hkl, rfl, HK⟩ := hrel
            by_cases hlt : 0 < k
            · obtain ⟨j, rfl⟩ : ∃ j, k = j + 1 := ⟨k - 1, by omega⟩
              have ec : ((j + 1 : Nat) : Int) = (j : Int) + 1 := by omega
              rw [ec]
              have q0 : (0 : Int) < (j : Int) + 1 := by omega
              have q1 : (j : Int) < (out.length : Int) + 1 := by omega
              have q2 : (j : Int) + 1 < (out.length : Int) + 1 := by omega
              have q3 : (0 : Int) ≤ (j : Int) := by omega
              have q4 : (j : Int) + 1 - 1 = (j : Int) := by omega
              have d0 := HK.out.cellB (j := j) (by omega) (by omega)
              obtain ⟨y, d1⟩ := HK.out.cellA (by omega)
              have d2 := HK.out.frozenA (by omega) (j + 1)
              have HK2 := HK.out.move HQ.out.1 (by omega)
              have HK3 : Hid _ := HK2
              clear ec HK HK2
              go_wp2
              go_roundw
              case rel => exact ⟨j, by omega, by omega, by simp, HK3.out⟩
              case measure => simp [intOf]
            · obtain rfl : k = 0 := by omega
              have q0 : ¬ (0 : Int) < (0 : Int) := by omega
              have q2 : (0 : Int) < (out.length : Int) + 1 := by omega
              have q3 : (0 : Int) ≤ (0 : Int) := by omega
              obtain ⟨y, d1⟩ := HK.out.cellA (by omega)
              have d2 := HK.out.frozenA (by omega) (0)
              have HK2 := HK.out.last HQ.out.1 (by omega) x HI.out
              have dx := (HK.out.bel.cell (by exact HC.out.1)).trans HC.out.2
              have HK3 : Hid _ := HK2
              clear HK HK2
              go_wp2
              go_roundw
              case rel => exact ⟨i + 1, by omega, by simp, next_relI HS.out.1 HS.out.2 HX.out.1 HX.out.2 HK3.out.1 HK3.out.2⟩
              case measure => simp [intOf]; omega
        | succ m =>
          obtain ⟨og, of, hao, hol, hoc⟩ := HA.out (by omega)
          subst hao
          have cm := (HW.out.cell (by exact hol)).trans (hoc m _ (iV_at out m (by omega)))
          have f0 : (m : Int) + 1 - 1 = (m : Int) := by omega
          have fw : IntKind.i64.wrap (m : Int) = (m : Int) := by rw [IntKind.wrap_i64]; omega
          have f1 : (m : Int) < (out.length : Int) := by omega
          have f2 : (0 : Int) ≤ (m : Int) := by omega
          have f3 : (0 : Int) < (m : Int) + 1 := by omega
          have f4 : (m : Int) + 1 ≤ (out.length : Int) := by omega
          have ec : ((m + 1 : Nat) : Int) = (m : Int) + 1 := by omega
          rw [ec]
          have hp := HP.out
          obtain ⟨y, hy⟩ : ∃ y, out.getD m 0 = y := ⟨_, rfl⟩
          rw [posI, hy] at hp
          rw [hy] at cm
          by_cases hgt : x < y
          · have HP2 : Hid (posI out x out.length = posI out x m) := by show _ = _; rw [hp, if_pos (by simpa using hgt)]
            clear hp HP ec hoc hy
            go_wp2
            go_quiet (fail)
            go_wp2
            go_roundw
            case rel => exact ⟨m, by omega, by simp, HP2.out, drewNB HW.out _⟩
            case measure => simp [intOf]
          · by_cases heq : y = x
            · have hB : (y == x) = true := beq_iff_eq.2 heq
              clear heq
              have HI : Hid (insI out x = out) := ins_notI (m := m) (by rw [hp, if_neg (by simpa using hgt)]) (by rw [hy]; exact hB)
              clear hp HP ec hoc hy
              go_wp2
              go_quiet (fail)
              go_wp2
              go_quiet (fail)
              go_wp2
              go_roundw
              case rel => exact ⟨i + 1, by omega, by simp, next_relI HS.out.1 HS.out.2 HX.out.1 HX.out.2 (by rw [HI.out]; exact HR.out.1.below (by first | exact drewNB HW.out _ | exact drewNB (drewNB HW.out _) _)) (bel2v HR.out.2 (by first | exact drewNB HW.out _ | exact drewNB (drewNB HW.out _) _))⟩
              case measure => simp [intOf]; omega
            · have hB : (y == x) = false := beq_eq_false_iff_ne.2 heq
              clear heq
              have HI : Hid (insI out x = out.take (m + 1) ++ x :: out.drop (m + 1)) := ins_hereI (by rw [hp, if_neg (by simpa using hgt)]) (.inr (by rw [Nat.add_sub_cancel, hy]; exact hB))
              clear hp HP ec hoc hy
              go_wp2
              go_quiet (fail)
              go_wp2
              go_quiet (fail)
              go_wp2_with (at_builtin; refine wpList_appV Try.underlying23 infoI9 rfl (by decide) rfl _ _ rfl w.heap.size (.slice (some ⟨og, of, none⟩) out.length cap) (iV out) rfl ?r1 (.slice (some ⟨wx.heap.size, 0, none⟩) 1 1) [.int .i64 0] rfl ?s1 ?c1 ?c2 ?c3 ?_)
              case r1 => exact RowV.below (HR.out.1.below (by first | exact drewNB HW.out _ | exact drewNB (drewNB HW.out _) _)) ((Below.refl _ _).alloc (Nat.le_refl _) _)
              case s1 => exact sees_one _ _ _ _ rfl
              case c1 => first | rfl | (intro y hy; simp at hy; subst hy; rfl)
              case c2 => have := HL.out; rw [iV_len]; simp; omega
              case c3 => have h1 := HR.out.2.size; have h2 := HW.out.size; simp; omega
              intro l3 w3 hr3 hb3
              have HB3 : Hid (Below w.heap.size w w3) := Below.trans (Below.alloc (bel2v HR.out.2 (by first | exact drewNB HW.out _ | exact drewNB (drewNB HW.out _) _)) (by have h1 := HR.out.2.size; have h2 := HW.out.size; simp; omega) _) hb3
              obtain ⟨g, cp, rfl, hg⟩ := rowV_some hr3 (by simp [iV])
              have el : (iV out ++ [Value.int .i64 0]).length = out.length + 1 := by simp [iV]
              rw [el] at hr3
              rw [el]
              have HQ : Hid (w.heap.size ≤ g ∧ SInI w w3 g cp out out.length) := ⟨hg, ⟨0, by rw [List.take_length, List.drop_length]; simpa [iV] using hr3, HB3.out⟩⟩
              clear hr3 hb3 HB3 el hg
              go_wp2
              go_loopw [6] (fun v wy => ∃ k : Nat, (m + 1) ≤ k ∧ k ≤ out.length ∧ v = .int .i64 (k : Int) ∧ Hid (SInI w wy g cp out k)) (fun v _ => (intOf v).toNat)
              case atStart => exact ⟨out.length, by omega, Nat.le_refl _, by simp, HQ.out.2⟩
              case round =>
                obtain ⟨wy, hwy⟩ : ∃ z, z = wr := ⟨_, rfl⟩
                subst hwy
                obtain ⟨k, hka, hkl, rfl, HK⟩ := hrel
                by_cases hlt : (m + 1) < k
                · obtain ⟨j, rfl⟩ : ∃ j, k = j + 1 := ⟨k - 1, by omega⟩
                  have ec : ((j + 1 : Nat) : Int) = (j : Int) + 1 := by omega
                  rw [ec]
                  have q0 : ((m : Int) + 1 : Int) < (j : Int) + 1 := by omega
                  have q1 : (j : Int) < (out.length : Int) + 1 := by omega
                  have q2 : (j : Int) + 1 < (out.length : Int) + 1 := by omega
                  have q3 : (0 : Int) ≤ (j : Int) := by omega
                  have q4 : (j : Int) + 1 - 1 = (j : Int) := by omega
                  have d0 := HK.out.cellB (j := j) (by omega) (by omega)
                  obtain ⟨y, d1⟩ := HK.out.cellA (by omega)
                  have d2 := HK.out.frozenA (by omega) (j + 1)
                  have HK2 := HK.out.move HQ.out.1 (by omega)
                  have HK3 : Hid _ := HK2
                  clear ec HK HK2
                  go_wp2
                  go_roundw
                  case rel => exact ⟨j, by omega, by omega, by simp, HK3.out⟩
                  case measure => simp [intOf]
                · obtain rfl : k = (m + 1) := by omega
                  have q0 : ¬ ((m : Int) + 1 : Int) < ((m : Int) + 1 : Int) := by omega
                  have q2 : ((m : Int) + 1 : Int) < (out.length : Int) + 1 := by omega
                  have q3 : (0 : Int) ≤ ((m : Int) + 1 : Int) := by omega
                  obtain ⟨y, d1⟩ := HK.out.cellA (by omega)
                  have d2 := HK.out.frozenA (by omega) ((m + 1))
                  have HK2 := HK.out.last HQ.out.1 (by omega) x HI.out
                  have dx := (HK.out.bel.cell (by exact HC.out.1)).trans HC.out.2
                  have HK3 : Hid _ := HK2
                  clear HK HK2
                  go_wp2
                  go_roundw
                  case rel => exact ⟨i + 1, by omega, by simp, next_relI HS.out.1 HS.out.2 HX.out.1 HX.out.2 HK3.out.1 HK3.out.2⟩
                  case measure => simp [intOf]; omega
    · have hkl : i = l.length := by omega
      have hso := HO.out
      unfold SOutI at hso
      rw [hkl, List.take_length] at hso
      have HE : Hid (RowV w1 w.heap.size 3 u3 (iV (srtI l)) ∧ Below w.heap.size w w1) := ⟨hso.1, hso.2.2⟩
      have h2 : ¬ (i : Int) < (l.length : Int) := by omega
      clear hso HO hkl
      go_wp2
      go_ret
      exact ⟨_, rfl, HE.out⟩
end Go.Proofs.Ytbkciencikdacaa
