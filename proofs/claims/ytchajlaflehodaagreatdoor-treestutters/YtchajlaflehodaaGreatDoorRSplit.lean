/- dolmenref1.Split: what one call answers. -/
import Derived.Test.YtchajlaflehodaaGreatDoorG2
namespace Go.Proofs.YtchajlaflehodaaGreatDoor
open Go.RowKit Kit
set_option linter.unusedVariables false

/-- May this be a name? -/
def okB (q : ByteArray) : Bool := !(decide (q = ⟨#[]⟩) || decide (q = ⟨#[46]⟩) || decide (q = ⟨#[46, 46]⟩)) && (bytesOf q).all letterB
def longB (q : ByteArray) : Bool := decide (12 < q.size)
/-- A path's names behind its first slash. -/
def partsB (s : ByteArray) : List ByteArray := (cutL 47 (bytesOf (s.extract 1 s.size))).map strOf
def splitB (s : ByteArray) : List ByteArray × Int :=
  if s = ⟨#[47]⟩ then ([], 0) else if s = ⟨#[]⟩ ∨ 200 < s.size ∨ (bytesOf s).getD 0 0 ≠ 47 then ([], 2) else
  if (partsB s).all okB = false then ([], 2) else if (partsB s).any longB = true then ([], 3) else if 6 < (partsB s).length then ([], 4) else (partsB s, 0)
theorem toList_eq_iff (q : ByteArray) (l : List UInt8) : (q.toList = l) = (q = ⟨l.toArray⟩) := by
  apply propext
  constructor
  · intro h
    apply ByteArray.ext
    have h1 := congrArg List.toArray h
    simpa [ByteArray.toList_eq] using h1
  · intro h
    subst h
    simp [ByteArray.toList_eq]
theorem txtsL_strs (l : List (List Int)) : txtsL l = strs (l.map strOf) := by simp [txtsL, strs, List.map_map]

set_option maxRecDepth 4000 in
set_option maxHeartbeats 4000000 in
/-- What stands ahead of the cut. -/
theorem split_out (s : ByteArray) (w : World) (h : s = ⟨#[47]⟩ ∨ s = ⟨#[]⟩ ∨ 200 < s.size ∨ (bytesOf s).getD 0 0 ≠ 47) (hm : s.size ≤ maxLen) :
    Calls Tryz.prog 34 #[.string s] w fun e w' => e = .returned (.tuple #[.slice none 0 0, .int .i64 (splitB s).2]) ∧ w' = w := by
  by_cases h1 : s = ⟨#[47]⟩
  · have HR : Hid ((splitB s).2 = 0) := by show _ = _; unfold splitB; rw [if_pos h1]
    clear h
    subst h1
    go_enter Tryz.func34, Tryz.ntmps34
    go_wp2
    go_ret2
    exact ⟨by rw [HR.out]; rfl, rfl⟩
  have HR : Hid ((splitB s).2 = 2) := by show _ = _; unfold splitB; rw [if_neg h1, if_pos (h.resolve_left h1)]
  have q1 : (s.toList == [47]) = false := beq_eq_false_iff_ne.2 (by rw [Ne, toList_eq_iff]; exact h1)
  by_cases h2 : s = ⟨#[]⟩
  · clear h h1
    subst h2
    go_enter Tryz.func34, Tryz.ntmps34
    go_wp2
    go_ret2
    exact ⟨by rw [HR.out]; rfl, rfl⟩
  have q2 : s.toList.isEmpty = false := by have := not_empty h2; simpa using this
  by_cases h3 : (200 : Int) < (s.size : Int)
  · clear h h1 h2
    go_enter Tryz.func34, Tryz.ntmps34
    go_wp2
    go_ret2
    exact ⟨by rw [HR.out]; rfl, rfl⟩
  have h4 : (bytesOf s).getD 0 0 ≠ 47 := by
    rcases h with h | h | h | h
    · exact absurd h h1
    · exact absurd h h2
    · exact absurd h (by omega)
    · exact h
  have hp : 0 < s.size := by
    rcases Nat.eq_zero_or_pos s.size with h0 | h0
    · exfalso
      apply h2
      cases s with
      | mk d => cases d with
        | mk l => cases l with
          | nil => rfl
          | cons a b => simp [ByteArray.size] at h0
    · exact h0
  have h5 : (0 : Int) < (s.size : Int) := by omega
  have hb := byte_at s 0 hp
  have h6 : (((s[0]'hp).toNat : Int) == 47) = false := by rw [hb]; exact beq_eq_false_iff_ne.2 h4
  clear h h1 h2 h4 hb
  go_enter Tryz.func34, Tryz.ntmps34
  go_wp2
  go_ret2
  exact ⟨by rw [HR.out]; rfl, rfl⟩

theorem size_pos {s : ByteArray} (h2 : ¬ s = ⟨#[]⟩) : 0 < s.size := by
  rcases Nat.eq_zero_or_pos s.size with h0 | h0
  · exfalso
    apply h2
    cases s with
    | mk d => cases d with
      | mk l => cases l with
        | nil => rfl
        | cons a b => simp [ByteArray.size] at h0
  · exact h0
theorem beq_mk (q : ByteArray) (l : List UInt8) (h : ¬ q = ⟨l.toArray⟩) : (q.toList == l) = false := beq_eq_false_iff_ne.2 (by rw [Ne, toList_eq_iff]; exact h)
theorem okB_not {q : ByteArray} (h : q = ⟨#[]⟩ ∨ q = ⟨#[46]⟩ ∨ q = ⟨#[46, 46]⟩) : okB q = false := by
  unfold okB
  rcases h with h | h | h <;> simp [h]
theorem okB_bad {q : ByteArray} {k : Nat} (hk : k < q.size) (h : letterB ((bytesOf q).getD k 0) = false) : okB q = false := by
  unfold okB
  have : (bytesOf q).all letterB = false := by
    rw [List.all_eq_false]
    refine ⟨(bytesOf q).getD k 0, ?_, by rw [h]; simp⟩
    have : k < (bytesOf q).length := by rw [bytesOf_len]; exact hk
    simp [List.getD, this]
  rw [this, Bool.and_false]
theorem okB_yes {q : ByteArray} (h0 : ¬ q = ⟨#[]⟩) (h1 : ¬ q = ⟨#[46]⟩) (h2 : ¬ q = ⟨#[46, 46]⟩) (h : ∀ j, j < q.size → letterB ((bytesOf q).getD j 0) = true) : okB q = true := by
  unfold okB
  have : (bytesOf q).all letterB = true := by
    rw [List.all_eq_true]
    intro x hx
    obtain ⟨j, hj, rfl⟩ := List.mem_iff_getElem.1 hx
    have := h j (by rw [← bytesOf_len]; exact hj)
    simpa [List.getD, hj] using this
  simp [h0, h1, h2, this]
theorem all_not {l : List ByteArray} {k : Nat} (hk : k < l.length) (h : okB (l.getD k ⟨#[]⟩) = false) : l.all okB = false := by
  rw [List.all_eq_false]
  refine ⟨l.getD k ⟨#[]⟩, ?_, by rw [h]; simp⟩
  simp [List.getD, hk]
theorem all_yes {l : List ByteArray} (h : ∀ j, j < l.length → okB (l.getD j ⟨#[]⟩) = true) : l.all okB = true := by
  rw [List.all_eq_true]
  intro x hx
  obtain ⟨j, hj, rfl⟩ := List.mem_iff_getElem.1 hx
  simpa [List.getD, hj] using h j hj
theorem strOf_size (p : List Int) : (strOf p).size = p.length := by simp [strOf, ByteArray.size]
theorem cutL_len (c : Int) : ∀ (l : List Int) (p : List Int), p ∈ cutL c l → p.length ≤ l.length
  | [], p, h => by simp [cutL] at h; subst h; simp
  | x :: r, p, h => by
    rw [cutL] at h
    split at h
    · rcases List.mem_cons.1 h with rfl | h
      · simp
      · have := cutL_len c r p h; simp; omega
    · split at h
      · simp at h; subst h; simp
      · rename_i a b e
        rcases List.mem_cons.1 h with rfl | h
        · have := cutL_len c r a (by rw [e]; simp)
          simp; omega
        · have := cutL_len c r p (by rw [e]; simp [h])
          simp; omega
theorem parts_size (s : ByteArray) : ∀ q ∈ partsB s, q.size ≤ s.size := by
  intro q hq
  unfold partsB at hq
  obtain ⟨p, hp, rfl⟩ := List.mem_map.1 hq
  have := cutL_len 47 _ p hp
  rw [bytesOf_len, ByteArray.size_extract] at this
  rw [strOf_size]
  omega
def longTo (l : List ByteArray) (k : Nat) : Bool := (l.take k).any longB
theorem longTo_step (l : List ByteArray) (k : Nat) (h : k < l.length) : longTo l (k + 1) = (longTo l k || longB (l.getD k ⟨#[]⟩)) := by
  unfold longTo
  rw [List.take_add_one, List.getElem?_eq_getElem h, Option.toList_some, List.any_append]
  simp [List.getD, h]

set_option maxRecDepth 4000 in
set_option maxHeartbeats 16000000 in
/-- What stands behind it. -/
theorem split_in (s : ByteArray) (w : World) (h1 : ¬ s = ⟨#[47]⟩) (h2 : ¬ s = ⟨#[]⟩) (h3 : ¬ (200 : Int) < (s.size : Int)) (h4 : (bytesOf s).getD 0 0 = 47) :
    Calls Tryz.prog 34 #[.string s] w fun e w' => ∃ r, e = .returned (.tuple #[r, .int .i64 (splitB s).2]) ∧ RowV w' w.heap.size 9 r (strs (splitB s).1) ∧ Below w.heap.size w w' := by
  have HR : Hid (splitB s = if (partsB s).all okB = false then ([], 2) else if (partsB s).any longB = true then ([], 3) else if 6 < (partsB s).length then ([], 4) else (partsB s, 0)) := by
    show _ = _
    unfold splitB
    rw [if_neg h1, if_neg (by rintro (e | e | e); exact h2 e; omega; exact e h4)]
  have q1 : (s.toList == [47]) = false := beq_mk s [47] h1
  have q2 : s.toList.isEmpty = false := by have := not_empty h2; simpa using this
  have hp := size_pos h2
  have h5 : (0 : Int) < (s.size : Int) := by omega
  have hb := byte_at s 0 hp
  have h6 : (((s[0]'hp).toNat : Int) == 47) = true := by rw [hb, h4]; rfl
  have h7 : (((s[0]'hp).toNat : Int) != 47) = false := by rw [hb, h4]; rfl
  have h8 : (1 : Int) ≤ (s.size : Int) := by omega
  have he : (s.extract 1 s.size).size ≤ 100000 := by rw [ByteArray.size_extract]; omega
  have HX : Hid (Calls Tryz.prog 53 _ _ _) := cut_any (s.extract 1 s.size) 47 w he
  obtain ⟨qs, hqs⟩ : ∃ qs, partsB s = qs := ⟨_, rfl⟩
  rw [hqs] at HR
  have HZ : Hid (∀ q ∈ qs, q.size ≤ 200) := fun q hq => by
    have := parts_size s q (by rw [hqs]; exact hq)
    omega
  have HQ : Hid (txtsL (cutL 47 (bytesOf (s.extract 1 s.size))) = strs qs) := by show _ = _; rw [txtsL_strs, ← hqs]; rfl
  clear h1 h2 h4 hb he hqs
  go_enter Tryz.func34, Tryz.ntmps34
  go_wp2_with fail
  go_at_call 53
  refine HX.out.mono ?_
  rintro e w3 ⟨r3, rfl, hr, hb⟩
  rw [HQ.out] at hr
  have H3 : Hid (RowV w3 w.heap.size 9 r3 (strs qs) ∧ Below w.heap.size w w3) := ⟨hr, hb⟩
  obtain ⟨ao, cap, hr3, _, hcap, _, hc4⟩ := hr.sees
  rw [strs_len] at hr3 hc4
  subst hr3
  have H4 : Hid (0 < qs.length → ∃ b off, ao = some ⟨b, off, none⟩ ∧ b < w3.heap.size ∧ ∀ (i : Nat) x, (strs qs)[i]? = some x → w3.cell? ⟨b, off + i, none⟩ = some x) := hc4
  have hm : (qs.length : Int) ≤ 9223372036854775807 := by
    have := hr.sees
    obtain ⟨_, _, _, g1, g2, _⟩ := this
    rw [strs_len] at g1
    unfold maxLen at g2
    omega
  clear hr hb HX HQ hc4 hcap
  go_wp2
  go_loopw [5, 6] (fun lg i wr => ∃ k : Nat, k ≤ qs.length ∧ i = .int .i64 (k : Int) ∧ lg = .bool (longTo qs k) ∧ Hid (∀ j, j < k → okB (qs.getD j ⟨#[]⟩) = true) ∧ wr = w3) (fun _ i _ => qs.length - (intOf i).toNat)
  case atStart => exact ⟨0, Nat.zero_le _, rfl, rfl, fun j hj => absurd hj (Nat.not_lt_zero _), rfl⟩
  case round =>
    obtain ⟨k, hk, rfl, rfl, HO, hw⟩ := hrel
    have hw := hw.symm
    subst hw
    obtain ⟨lg, hlg⟩ : ∃ lg, longTo qs k = lg := ⟨_, rfl⟩
    rw [hlg]
    have HLG : Hid (longTo qs k = lg) := hlg
    clear hlg
    by_cases hlt : k < qs.length
    · obtain ⟨b, off, hao, hbl, hc⟩ := H4.out (by omega)
      subst hao
      have c0 := hc k _ (strs_at qs k hlt)
      have HST := longTo_step qs k hlt
      obtain ⟨q, hq⟩ : ∃ q, qs.getD k ⟨#[]⟩ = q := ⟨_, rfl⟩
      rw [hq] at c0 HST
      rw [HLG.out] at HST
      have HST2 : Hid (longTo qs (k + 1) = (lg || longB q)) := HST
      have HQK : Hid (qs.getD k ⟨#[]⟩ = q) := hq
      have i0 : (k : Int) < (qs.length : Int) := by omega
      have i2 : (0 : Int) ≤ (k : Int) := by omega
      clear hc hbl hq HST
      by_cases n0 : q = ⟨#[]⟩ ∨ q = ⟨#[46]⟩ ∨ q = ⟨#[46, 46]⟩
      · have HB : Hid (splitB s = ([], 2)) := by show _ = _; rw [HR.out, if_pos (all_not hlt (by rw [HQK.out]; exact okB_not n0))]
        clear HR HO HST2 HQK
        rcases n0 with n0 | n0 | n0
        all_goals subst n0
        all_goals go_wp2
        all_goals go_ret2
        all_goals exact ⟨_, by rw [HB.out]; rfl, by rw [HB.out]; exact rowV_nil _ _ _, H3.out.2⟩
      · have m0 : ¬ q = ⟨#[]⟩ := fun e => n0 (.inl e)
        have m1 : ¬ q = ⟨#[46]⟩ := fun e => n0 (.inr (.inl e))
        have m2 : ¬ q = ⟨#[46, 46]⟩ := fun e => n0 (.inr (.inr e))
        have r0 : q.toList.isEmpty = false := by have := not_empty m0; simpa using this
        have r1 : (q.toList == [46]) = false := beq_mk q [46] m1
        have r2 : (q.toList == [46, 46]) = false := beq_mk q [46, 46] m2
        have HM : Hid (¬ q = ⟨#[]⟩ ∧ ¬ q = ⟨#[46]⟩ ∧ ¬ q = ⟨#[46, 46]⟩) := ⟨m0, m1, m2⟩
        have hz : (q.size : Int) ≤ 200 := by
          have := HZ.out q (by rw [← HQK.out]; simp [List.getD, hlt])
          omega
        clear n0 m0 m1 m2
        go_wp2
        go_loopw [7] (fun i wr => ∃ k2 : Nat, k2 ≤ q.size ∧ i = .int .i64 (k2 : Int) ∧ Hid (∀ j, j < k2 → letterB ((bytesOf q).getD j 0) = true) ∧ wr = w3) (fun i _ => q.size - (intOf i).toNat)
        case atStart => exact ⟨0, Nat.zero_le _, rfl, fun j hj => absurd hj (Nat.not_lt_zero _), rfl⟩
        case round =>
          obtain ⟨k2, hk2, rfl, HL, hw⟩ := hrel
          have hw := hw.symm
          subst hw
          by_cases hlt2 : k2 < q.size
          · have j0 : (k2 : Int) < (q.size : Int) := by omega
            have j2 : (0 : Int) ≤ (k2 : Int) := by omega
            have HBY : Hid (((q[k2]'hlt2).toNat : Int) = (bytesOf q).getD k2 0) := byte_at q k2 hlt2
            have HX : Hid (Calls Tryz.prog 54 _ _ _) := letter_any ((q[k2]'hlt2).toNat : Int) w3
            go_wp2_with fail
            go_at_call 54
            refine HX.out.mono ?_
            rintro e w4 ⟨rfl, hw4⟩
            have hw4 := hw4.symm
            subst hw4
            rcases hlb : letterB ((q[k2]'hlt2).toNat : Int) with _ | _
            · have HB : Hid (splitB s = ([], 2)) := by
                show _ = _
                rw [HR.out, if_pos (all_not hlt (by rw [HQK.out]; exact okB_bad hlt2 (by rw [← HBY.out]; exact hlb)))]
              clear HR HO HST2 HQK HX hlb HBY HL
              go_wp2
              go_ret2
              exact ⟨_, by rw [HB.out]; rfl, by rw [HB.out]; exact rowV_nil _ _ _, H3.out.2⟩
            · have HL2 : Hid (∀ j, j < k2 + 1 → letterB ((bytesOf q).getD j 0) = true) := fun j hj => by
                by_cases e : j = k2
                · subst e; rw [← HBY.out]; exact hlb
                · exact HL.out j (by omega)
              clear HX hlb HBY HL
              go_wp2
              go_roundw
              case rel => exact ⟨k2 + 1, by omega, by simp, HL2.out, by simp⟩
              case measure => simp [intOf]; omega
          · have hkq : k2 = q.size := by omega
            subst hkq
            have HO2 : Hid (∀ j, j < k + 1 → okB (qs.getD j ⟨#[]⟩) = true) := fun j hj => by
              by_cases e : j = k
              · subst e; rw [HQK.out]; exact okB_yes HM.out.1 HM.out.2.1 HM.out.2.2 HL.out
              · exact HO.out j (by omega)
            clear HO HL HM HQK
            cases lg with
            | true =>
              have HS2 : Hid (longTo qs (k + 1) = true) := HST2.out
              clear HST2
              go_wp2
              go_roundw
              case rel => exact ⟨k + 1, by omega, by simp, by rw [HS2.out], HO2.out, by simp⟩
              case measure => simp [intOf]; omega
            | false =>
              by_cases hz2 : (12 : Int) < (q.size : Int)
              · have HS2 : Hid (longTo qs (k + 1) = true) := by show _ = _; rw [HST2.out]; unfold longB; rw [decide_eq_true (by omega)]; rfl
                clear HST2
                go_wp2
                go_roundw
                case rel => exact ⟨k + 1, by omega, by simp, by rw [HS2.out], HO2.out, by simp⟩
                case measure => simp [intOf]; omega
              · have HS2 : Hid (longTo qs (k + 1) = false) := by show _ = _; rw [HST2.out]; unfold longB; rw [decide_eq_false (by omega)]; rfl
                clear HST2
                go_wp2
                go_roundw
                case rel => exact ⟨k + 1, by omega, by simp, by rw [HS2.out], HO2.out, by simp⟩
                case measure => simp [intOf]; omega
    · have hkl : k = qs.length := by omega
      have HA : Hid (splitB s = if lg = true then ([], 3) else if 6 < qs.length then ([], 4) else (qs, 0)) := by
        show _ = _
        have h1 : qs.all okB = true := all_yes (fun j hj => HO.out j (by omega))
        have h2 : qs.any longB = lg := by
          rw [← HLG.out, hkl]
          unfold longTo
          rw [List.take_length]
        rw [HR.out, h1, h2]; rfl
      subst hkl
      clear HR HO HLG
      cases lg with
      | true =>
        have HB : Hid (splitB s = ([], 3)) := HA.out
        clear HA
        go_wp2
        go_ret2
        exact ⟨_, by rw [HB.out]; rfl, by rw [HB.out]; exact rowV_nil _ _ _, H3.out.2⟩
      | false =>
        by_cases h6 : (6 : Int) < (qs.length : Int)
        · have HB : Hid (splitB s = ([], 4)) := by show _ = _; rw [HA.out, if_neg (by decide), if_pos (by omega)]
          clear HA
          go_wp2
          go_ret2
          exact ⟨_, by rw [HB.out]; rfl, by rw [HB.out]; exact rowV_nil _ _ _, H3.out.2⟩
        · have HB : Hid (splitB s = (qs, 0)) := by show _ = _; rw [HA.out, if_neg (by decide), if_neg (by omega)]
          clear HA
          go_wp2
          go_ret2
          exact ⟨_, by rw [HB.out]; rfl, by rw [HB.out]; exact H3.out.1, H3.out.2⟩

/-- Split of any text. -/
theorem split_any (s : ByteArray) (w : World) (hm : s.size ≤ maxLen) :
    Calls Tryz.prog 34 #[.string s] w fun e w' => ∃ r, e = .returned (.tuple #[r, .int .i64 (splitB s).2]) ∧ RowV w' w.heap.size 9 r (strs (splitB s).1) ∧ Below w.heap.size w w' := by
  by_cases h : s = ⟨#[47]⟩ ∨ s = ⟨#[]⟩ ∨ 200 < s.size ∨ (bytesOf s).getD 0 0 ≠ 47
  · refine (split_out s w h hm).mono ?_
    rintro e w' ⟨rfl, rfl⟩
    refine ⟨_, rfl, ?_, Below.refl _ _⟩
    have : (splitB s).1 = [] := by
      unfold splitB
      by_cases h1 : s = ⟨#[47]⟩
      · rw [if_pos h1]
      · rw [if_neg h1, if_pos (h.resolve_left h1)]
    rw [this]
    exact rowV_nil _ _ _
  · exact split_in s w (fun e => h (.inl e)) (fun e => h (.inr (.inl e))) (fun e => h (.inr (.inr (.inl (by omega))))) (by
      by_cases e : (bytesOf s).getD 0 0 = 47
      · exact e
      · exact absurd (.inr (.inr (.inr e))) h)
end Go.Proofs.YtchajlaflehodaaGreatDoor
