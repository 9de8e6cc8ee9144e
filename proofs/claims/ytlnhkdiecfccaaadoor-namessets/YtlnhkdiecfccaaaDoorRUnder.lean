/- dolmenref1.Under, dolmenref1.Parent: what one call answers. -/
import Derived.Test.YtlnhkdiecfccaaaDoorRSplit
import Derived.Deep.RegionHeld3
import Derived.Deep.QuietTactic
import Derived.BigQuiet
namespace Go.Proofs.YtlnhkdiecfccaaaDoor
open Go.RowKit Kit
set_option linter.unusedVariables false

theorem split_code (s : ByteArray) : (splitB s).2 = 0 ∨ ((splitB s).2 ≠ 0 ∧ (splitB s).1 = []) := by
  unfold splitB
  split
  · exact .inl rfl
  split
  · exact .inr ⟨by decide, rfl⟩
  split
  · exact .inr ⟨by decide, rfl⟩
  split
  · exact .inr ⟨by decide, rfl⟩
  split
  · exact .inr ⟨by decide, rfl⟩
  · exact .inl rfl
theorem split_small (s : ByteArray) : (splitB s).1.length ≤ 6 ∧ ∀ q ∈ (splitB s).1, q.size ≤ 12 := by
  unfold splitB
  split
  · exact ⟨by simp, by simp⟩
  split
  · exact ⟨by simp, by simp⟩
  split
  · exact ⟨by simp, by simp⟩
  split
  · exact ⟨by simp, by simp⟩
  rename_i h
  split
  · exact ⟨by simp, by simp⟩
  · refine ⟨by simp; omega, fun q hq => ?_⟩
    have h2 : (partsB s).any longB = false := by simpa using h
    rw [List.any_eq_false] at h2
    have := h2 q hq
    unfold longB at this
    simpa using this
theorem tot_small : ∀ l : List ByteArray, (∀ q ∈ l, q.size ≤ 12) → tot l ≤ 13 * l.length
  | [], _ => by simp [tot]
  | x :: r, h => by
    have h1 := tot_small r (fun q hq => h q (by simp [hq]))
    have h2 := h x (by simp)
    unfold tot at *
    simp
    omega
/-- Is the one under the other? -/
def underB (p d : ByteArray) : Bool := decide ((splitB p).2 = 0 ∧ (splitB d).2 = 0 ∧ (splitB p).1.take (splitB d).1.length = (splitB d).1)
theorem take_eq {a b : List ByteArray} (hl : b.length ≤ a.length) (h : ∀ j, j < b.length → a.getD j ⟨#[]⟩ = b.getD j ⟨#[]⟩) : a.take b.length = b := by
  apply List.ext_getElem
  · simp; omega
  · intro i h1 h2
    have := h i h2
    have h3 : i < a.length := by omega
    simpa [List.getD, h2, h3] using this

set_option maxRecDepth 4000 in
set_option maxHeartbeats 8000000 in
theorem under_any (p d : ByteArray) (w : World) (hp : p.size ≤ maxLen) (hd : d.size ≤ maxLen) :
    Calls Tryd.prog 17 #[.string p, .string d] w fun e w' => e = .returned (.bool (underB p d)) ∧ Below w.heap.size w w' := by
  have HX : Hid (Calls Tryd.prog 11 _ _ _) := split_any p w hp
  have HY : Hid (∀ w, Calls Tryd.prog 11 #[.string d] w fun e w' => ∃ r, e = .returned (.tuple #[r, .int .i64 (splitB d).2]) ∧ RowV w' w.heap.size 9 r (strs (splitB d).1) ∧ Below w.heap.size w w') := fun w => split_any d w hd
  have cp := split_code p
  have cd := split_code d
  have sp := (split_small p).1
  have sd := (split_small d).1
  have HU : Hid (underB p d = decide ((splitB p).2 = 0 ∧ (splitB d).2 = 0 ∧ (splitB p).1.take (splitB d).1.length = (splitB d).1)) := rfl
  obtain ⟨⟨a, e⟩, he⟩ : ∃ x, splitB p = x := ⟨_, rfl⟩
  obtain ⟨⟨b, f⟩, hf⟩ : ∃ x, splitB d = x := ⟨_, rfl⟩
  rw [he] at HX cp sp HU
  rw [hf] at HY cd sd HU
  simp only at HX HY cp cd sp sd HU
  clear hp hd he hf
  go_enter Tryd.func17, Tryd.ntmps17
  go_wp2_with fail
  go_at_call 11
  refine HX.out.mono ?_
  rintro e1 w1 ⟨r1, rfl, hr1, hb1⟩
  have H1 : Hid (Sees w1 r1 (strs a) ∧ Below w.heap.size w w1) := ⟨hr1.sees, hb1⟩
  clear hr1 hb1 HX
  go_wp2_with fail
  go_at_call 11
  refine (HY.out w1).mono ?_
  rintro e2 w2 ⟨r2, rfl, hr2, hb2⟩
  have H2 : Hid (Sees w2 r1 (strs a) ∧ Sees w2 r2 (strs b) ∧ Below w.heap.size w w2) := ⟨H1.out.1.below hb2, hr2.sees, bel2v H1.out.2 hb2⟩
  clear hr2 hb2 HY H1
  rcases cp with hp0 | ⟨hp0, _⟩
  · subst hp0
    rcases cd with hd0 | ⟨hd0, _⟩
    · subst hd0
      obtain ⟨ao, ac, ha, _, _, _, hac⟩ := H2.out.1
      obtain ⟨bo, bc, hb, _, _, _, hbc⟩ := H2.out.2.1
      rw [strs_len] at ha hac hb hbc
      subst ha hb
      have HA : Hid (_ → _) := hac
      have HB : Hid (_ → _) := hbc
      clear hac hbc
      have la : (a.length : Int) ≤ 6 := by omega
      have lb : (b.length : Int) ≤ 6 := by omega
      by_cases hl : (a.length : Int) < (b.length : Int)
      · have HR : Hid (underB p d = false) := by
          show _ = _
          rw [HU.out]
          refine decide_eq_false ?_
          rintro ⟨_, _, h⟩
          have := congrArg List.length h
          simp at this
          omega
        clear HU
        go_wp2
        go_ret
        exact ⟨congrArg (fun b => Ending.returned (.bool b)) HR.out.symm, H2.out.2.2⟩
      · go_wp2
        go_loopw [9] (fun i wr => ∃ k : Nat, k ≤ b.length ∧ i = .int .i64 (k : Int) ∧ Hid (∀ j, j < k → a.getD j ⟨#[]⟩ = b.getD j ⟨#[]⟩) ∧ Hid (Below w2.heap.size w2 wr)) (fun i _ => b.length - (intOf i).toNat)
        case atStart => exact ⟨0, Nat.zero_le _, rfl, fun j hj => absurd hj (Nat.not_lt_zero _), Below.refl _ _⟩
        case round =>
          obtain ⟨k, hk, rfl, HE, HW⟩ := hrel
          by_cases hlt : k < b.length
          · obtain ⟨ab, af, hao, hal, hca⟩ := HA.out (by omega)
            obtain ⟨bb, bf, hbo, hbl, hcb⟩ := HB.out (by omega)
            subst hao hbo
            have c0 := (HW.out.cell (by exact hal)).trans (hca k _ (strs_at a k (by omega)))
            have c1 := (HW.out.cell (by exact hbl)).trans (hcb k _ (strs_at b k hlt))
            obtain ⟨x, hx⟩ : ∃ x, a.getD k ⟨#[]⟩ = x := ⟨_, rfl⟩
            obtain ⟨y, hy⟩ : ∃ y, b.getD k ⟨#[]⟩ = y := ⟨_, rfl⟩
            rw [hx] at c0
            rw [hy] at c1
            have HXY : Hid (a.getD k ⟨#[]⟩ = x ∧ b.getD k ⟨#[]⟩ = y) := ⟨hx, hy⟩
            have i0 : (k : Int) < (b.length : Int) := by omega
            have i1 : (k : Int) < (a.length : Int) := by omega
            have i2 : (0 : Int) ≤ (k : Int) := by omega
            clear hx hy hca hcb hal hbl
            by_cases hxy : x = y
            · subst hxy
              have HE2 : Hid (∀ j, j < k + 1 → a.getD j ⟨#[]⟩ = b.getD j ⟨#[]⟩) := fun j hj => by
                by_cases hj2 : j = k
                · subst hj2; exact HXY.out.1.trans HXY.out.2.symm
                · exact HE.out j (by omega)
              clear HE HXY HU
              go_wp2
              go_region
              go_wp2
              go_roundw
              case rel => exact ⟨k + 1, by omega, by simp, HE2.out, HW.out.drew⟩
              case measure => simp [intOf]; omega
            · have hq := bytes_eq x y
              rw [decide_eq_false hxy] at hq
              have HR : Hid (underB p d = false) := by
                show _ = _
                rw [HU.out]
                refine decide_eq_false ?_
                rintro ⟨_, _, h⟩
                apply hxy
                rw [← HXY.out.1, ← HXY.out.2]
                have := congrArg (fun l => List.getD l k ⟨#[]⟩) h
                rw [← this]
                have h9 : k < a.length := by omega
                simp [List.getD, hlt, h9]
              clear HE HXY HU hxy
              go_wp2
              go_region
              go_wp2
              go_ret
              exact ⟨congrArg (fun b => Ending.returned (.bool b)) HR.out.symm, bel2v H2.out.2.2 HW.out.drew⟩
          · have hkl : k = b.length := by omega
            have HR : Hid (underB p d = true) := by
              show _ = _
              rw [HU.out]
              exact decide_eq_true ⟨by trivial, by trivial, take_eq (by omega) (fun j hj => HE.out j (by omega))⟩
            subst hkl
            clear HE HU
            go_wp2
            go_ret
            exact ⟨congrArg (fun b => Ending.returned (.bool b)) HR.out.symm, bel2v H2.out.2.2 HW.out⟩
    · have e1 : (f == 0) = false := beq_eq_false_iff_ne.2 hd0
      have e2 : (f != 0) = true := by simp [hd0]
      have HR : Hid (underB p d = false) := by
        show _ = _
        rw [HU.out]
        refine decide_eq_false ?_
        rintro ⟨_, h, _⟩
        exact hd0 h
      clear HU hd0
      go_wp2
      go_ret
      exact ⟨congrArg (fun b => Ending.returned (.bool b)) HR.out.symm, H2.out.2.2⟩
  · have e1 : (e == 0) = false := beq_eq_false_iff_ne.2 hp0
    have e2 : (e != 0) = true := by simp [hp0]
    have HR : Hid (underB p d = false) := by
      show _ = _
      rw [HU.out]
      refine decide_eq_false ?_
      rintro ⟨h, _⟩
      exact hp0 h
    clear HU hp0 cd
    go_wp2
    go_ret
    exact ⟨congrArg (fun b => Ending.returned (.bool b)) HR.out.symm, H2.out.2.2⟩

/-- Directory and last name. -/
def parentB (s : ByteArray) : ByteArray × ByteArray × Int :=
  if (splitB s).2 ≠ 0 then (⟨#[]⟩, ⟨#[]⟩, (splitB s).2) else if (splitB s).1.length = 0 then (⟨#[]⟩, ⟨#[]⟩, 2) else (joinB ((splitB s).1.take ((splitB s).1.length - 1)), (splitB s).1.getD ((splitB s).1.length - 1) ⟨#[]⟩, 0)
theorem drewNB {B : Nat} {a w : World} (h : Below B a w) (n : Nat) : Below B a (w.drewN n) := ⟨h.os, h.tape, h.output, h.size, h.block⟩
theorem Sees.cut {w : World} {ao : Option Addr} {n cap : Nat} {l : List ByteArray} (h : Sees w (.slice ao n cap) (strs l)) (m : Nat) (hm : m ≤ n) : Sees w (.slice ao m cap) (strs (l.take m)) := by
  obtain ⟨ao', cap', e, h1, h2, h3, h4⟩ := h
  rw [strs_len] at e h1 h4
  cases e
  refine ⟨ao, cap, by rw [strs_len]; simp; omega, by rw [strs_len]; simp; omega, h2, h3, fun h0 => ?_⟩
  rw [strs_len] at h0
  have h5 : 0 < l.length := by simp at h0; omega
  obtain ⟨b, off, e, hb, hc⟩ := h4 h5
  refine ⟨b, off, e, hb, fun i x hx => hc i x ?_⟩
  unfold strs at *
  rw [List.map_take, List.getElem?_take] at hx
  split at hx
  · exact hx
  · cases hx

set_option maxRecDepth 4000 in
set_option maxHeartbeats 8000000 in
theorem parent_any (s : ByteArray) (w : World) (hs : s.size ≤ maxLen) :
    Calls Tryd.prog 13 #[.string s] w fun e w' => e = .returned (.tuple #[.string (parentB s).1, .string (parentB s).2.1, .int .i64 (parentB s).2.2]) ∧ Below w.heap.size w w' := by
  have HX : Hid (Calls Tryd.prog 11 _ _ _) := split_any s w hs
  have cp := split_code s
  have sp := split_small s
  have HU : Hid (parentB s = if (splitB s).2 ≠ 0 then (⟨#[]⟩, ⟨#[]⟩, (splitB s).2) else if (splitB s).1.length = 0 then (⟨#[]⟩, ⟨#[]⟩, 2) else (joinB ((splitB s).1.take ((splitB s).1.length - 1)), (splitB s).1.getD ((splitB s).1.length - 1) ⟨#[]⟩, 0)) := rfl
  obtain ⟨⟨a, e⟩, he⟩ : ∃ x, splitB s = x := ⟨_, rfl⟩
  rw [he] at HX cp sp HU
  simp only at HX cp sp HU
  have HSM : Hid (a.length ≤ 6 ∧ ∀ q ∈ a, q.size ≤ 12) := sp
  clear hs he sp
  go_enter Tryd.func13, Tryd.ntmps13
  go_wp2_with fail
  go_at_call 11
  refine HX.out.mono ?_
  rintro e1 w1 ⟨r1, rfl, hr1, hb1⟩
  have H1 : Hid (Sees w1 r1 (strs a) ∧ Below w.heap.size w w1) := ⟨hr1.sees, hb1⟩
  clear hr1 hb1 HX
  rcases cp with hp0 | ⟨hp0, _⟩
  · subst hp0
    obtain ⟨ao, ac, ha, hcap, _, _, hac⟩ := H1.out.1
    rw [strs_len] at ha hac hcap
    subst ha
    rcases Nat.eq_zero_or_pos a.length with h0 | h0
    · have HR : Hid (parentB s = (⟨#[]⟩, ⟨#[]⟩, 2)) := by show _ = _; rw [HU.out, if_neg (by simp), if_pos h0]
      rw [h0]
      clear HU hac hcap
      go_wp2
      go_ret3
      exact ⟨by rw [HR.out]; rfl, H1.out.2⟩
    · obtain ⟨m, hm⟩ : ∃ m, a.length = m + 1 := ⟨a.length - 1, by omega⟩
      have HR : Hid (parentB s = (joinB (a.take m), a.getD m ⟨#[]⟩, 0)) := by
        show _ = _
        rw [HU.out, if_neg (by simp), if_neg (by omega), hm]; rfl
      obtain ⟨b, off, hao, hbl, hc⟩ := hac h0
      subst hao
      have HSE : Hid (Sees w1 (.slice (some ⟨b, off, none⟩) m ac) (strs (a.take m))) := Sees.cut H1.out.1 m (by omega)
      have hml : m < a.length := by omega
      have HC : Hid (w1.cell? ⟨b, off + m, none⟩ = some (.string (a.getD m ⟨#[]⟩)) ∧ b < w1.heap.size) := ⟨hc m _ (strs_at a m hml), hbl⟩
      have HTT : Hid (tot (a.take m) ≤ 1000000) := by
        have h1 := tot_take a m
        have h2 := tot_small a HSM.out.2
        have := HSM.out.1
        show _ ≤ _
        omega
      have m6 : (m : Int) ≤ 6 := by have := HSM.out.1; omega
      have m0 : (0 : Int) ≤ (m : Int) := by omega
      have mc : (m : Int) ≤ (ac : Int) := by
        omega
      obtain ⟨q, hq⟩ : ∃ q, a.getD m ⟨#[]⟩ = q := ⟨_, rfl⟩
      rw [hq] at HC HR
      rw [hm]
      clear hac hc hbl hm hml h0 hq HU hcap
      have f0 : ((m : Int) + 1 - 1) = (m : Int) := by omega
      have f1 : (m : Int) < (m : Int) + 1 := by omega
      have f2 : IntKind.i64.wrap (m : Int) = (m : Int) := by rw [IntKind.wrap_i64]; omega
      have c0 := HC.out.1
      go_wp2
      go_quiet ((go_at_call 25; exact Calls.quiet_of_same (join_any _ (a.take m) _ (Sees.below HSE.out (drewNB (Below.refl _ _) _)) HTT.out)))
      go_wp2
      go_ret3
      exact ⟨by rw [HR.out]; rfl, drewNB H1.out.2 _⟩
  · have e1 : (e == 0) = false := beq_eq_false_iff_ne.2 hp0
    have e2 : (e != 0) = true := by simp [hp0]
    have HR : Hid (parentB s = (⟨#[]⟩, ⟨#[]⟩, e)) := by show _ = _; rw [HU.out, if_pos hp0]
    clear HU hp0
    go_wp2
    go_ret3
    exact ⟨by rw [HR.out]; rfl, H1.out.2⟩
end Go.Proofs.YtlnhkdiecfccaaaDoor
