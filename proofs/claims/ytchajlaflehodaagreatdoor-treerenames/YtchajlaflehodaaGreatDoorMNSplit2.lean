/- names.broken, names.Split: what one call answers. -/
import Derived.Test.YtchajlaflehodaaGreatDoorG2
import Derived.Test.YtchajlaflehodaaGreatDoorG1
namespace Go.Proofs.YtchajlaflehodaaGreatDoor
open Go.RowKit Kit
set_option linter.unusedVariables false

/-- A bare number as an error. -/
def errV (c : Int) : Value := if c = 0 then .nilIface else .iface 68 (.int .i64 c)
/-- Texts of a machine's size. -/
abbrev Small : Type := { q : ByteArray // q.size ≤ maxLen }
def encS (x : Small) : Value := .string x.1
theorem smalls : ∀ l : List ByteArray, (∀ q ∈ l, q.size ≤ maxLen) → ∃ zs : List Small, zs.map (fun x => x.1) = l
  | [], _ => ⟨[], rfl⟩
  | a :: r, h => by
    obtain ⟨zs, hz⟩ := smalls r (fun q hq => h q (by simp [hq]))
    exact ⟨⟨a, h a (by simp)⟩ :: zs, by rw [List.map_cons, hz]⟩
theorem drewB {B : Nat} {a w : World} (h : Below B a w) (q : Nat) : Below B a (w.drewN q) := ⟨h.os, h.tape, h.output, h.size, h.block⟩
theorem enters39 : ∀ args w, (callFunc 81 args).run Tryz.prog w = .ok (.enter 81 args) w := enters_of Tryz.func81 (by kernel_rfl) rfl
theorem enters40 : ∀ args w, (callFunc 82 args).run Tryz.prog w = .ok (.enter 82 args) w := enters_of Tryz.func82 (by kernel_rfl) rfl
theorem cf_any (g : Nat) (p : ByteArray → Bool) (eg : ∀ args w, (callFunc g args).run Tryz.prog w = .ok (.enter g args) w) (hp : ∀ q w, q.size ≤ maxLen → Calls Tryz.prog g #[.string q] w fun e w' => e = .returned (.bool (p q)) ∧ w' = w)
    (v : Value) (l : List ByteArray) (w : World) (hv : Sees w v (strs l)) (hl : ∀ q ∈ l, q.size ≤ maxLen) :
    Calls Tryz.prog 80 #[v, .func (.func g) #[] #[]] w fun e w' => e = .returned (.bool (l.any p)) ∧ Below w.heap.size w w' := by
  haveI : Inhabited Small := ⟨⟨⟨#[]⟩, Nat.zero_le _⟩⟩
  obtain ⟨ao, cap, rfl, h1, h2, h3, h4⟩ := hv
  rw [strs_len] at *
  cases l with
  | nil =>
    refine (AnyE.slices_ContainsFunc_empty Tryz.laysH8 ao cap (.func (.func g) #[] #[]) w).mono ?_
    rintro e w' ⟨rfl, rfl⟩
    exact ⟨rfl, Below.refl _ _⟩
  | cons a r =>
    obtain ⟨b, off, rfl, hb, hc⟩ := h4 (by simp)
    obtain ⟨zs, hzm⟩ := smalls (a :: r) hl
    have hzl : zs.length = (a :: r).length := by rw [← hzm, List.length_map]
    have hz1 : ∀ j, j < zs.length → (zs[j]!).1 = (a :: r).getD j ⟨#[]⟩ := by
      intro j hj
      rw [getElem!_pos zs j hj, ← hzm, List.getD, List.getElem?_map, List.getElem?_eq_getElem hj]
      rfl
    have hany : (zs.take (a :: r).length).any (fun x => p x.1) = (a :: r).any p := by
      rw [← hzl, List.take_length, ← hzm, List.any_map]; rfl
    have h := AnyE.slices_ContainsFunc Tryz.laysH8 encS (fun x => p x.1) g #[] eg b off (a :: r).length cap zs w
      (fun W x _ => (hp x.1 W x.2).mono fun e w' ⟨he, hw⟩ => ⟨he, 0, hw⟩) (by omega) (by unfold maxLen at h2; omega)
      (fun j hj => by
        have hj2 : j < (a :: r).length := by rw [← hzl]; exact hj
        rw [hc j _ (strs_at _ j hj2)]
        unfold encS
        rw [hz1 j hj])
    rw [hany] at h
    refine h.mono ?_
    rintro e w' ⟨rfl, q, rfl⟩
    exact ⟨rfl, drewB (Below.refl _ _) q⟩
/-- The rule that a path breaks, of its pieces. -/
def codeB (l : List ByteArray) : Int := if l.any (fun q => !okB q) = true then 2 else if l.any longB = true then 3 else if 6 < l.length then 4 else 0
theorem split_code2 (s : ByteArray) (h1 : ¬ 200 < s.size) (h2 : (bytesOf s).getD 0 0 = 47) : (splitB s).2 = codeB (piecesB s) := by
  unfold splitB codeB piecesB
  by_cases e : s = ⟨#[47]⟩
  · rw [if_pos e, if_pos e]; rfl
  · have e2 : ¬ s = ⟨#[]⟩ := fun h => by subst h; simp [bytesOf] at h2
    rw [if_neg e, if_neg e, if_neg (by simp only [not_or]; exact ⟨e2, h1, fun h => h h2⟩)]
    have ea : ((partsB s).all okB = false) ↔ ((partsB s).any (fun q => !okB q) = true) := by
      rw [List.all_eq_false, List.any_eq_true]
      constructor
      · rintro ⟨x, hx, h⟩; exact ⟨x, hx, by simpa using h⟩
      · rintro ⟨x, hx, h⟩; exact ⟨x, hx, by simpa using h⟩
    by_cases h3 : (partsB s).all okB = false
    · rw [if_pos h3, if_pos (ea.1 h3)]
    · rw [if_neg h3, if_neg (fun h => h3 (ea.2 h))]
      by_cases h4 : (partsB s).any longB = true
      · rw [if_pos h4, if_pos h4]
      · rw [if_neg h4, if_neg h4]
        by_cases h5 : 6 < (partsB s).length
        · rw [if_pos h5, if_pos h5]
        · rw [if_neg h5, if_neg h5]
theorem pieces_small (s : ByteArray) (hs : s.size ≤ 200) : ∀ q ∈ piecesB s, q.size ≤ maxLen := by
  intro q hq
  unfold piecesB at hq
  split at hq
  · simp at hq
  · unfold partsB at hq
    obtain ⟨p, hp, rfl⟩ := List.mem_map.1 hq
    have := cutL_len 47 _ p hp
    rw [bytesOf_len, ByteArray.size_extract] at this
    have e : (strOf p).size = p.length := by simp [strOf, ByteArray.size]
    rw [e]
    unfold maxLen
    omega
theorem pieces_len (s : ByteArray) (hs : s.size ≤ 200) : (piecesB s).length ≤ 201 := by
  unfold piecesB
  split
  · simp
  · unfold partsB
    rw [List.length_map]
    have := cutL_num 47 (bytesOf (s.extract 1 s.size))
    rw [bytesOf_len, ByteArray.size_extract] at this
    omega
theorem has_slash (s : ByteArray) : Lib.hasPrefix s.data.toList [47] = decide ((bytesOf s).getD 0 0 = 47) := by
  unfold Lib.hasPrefix bytesOf
  cases s.data.toList with
  | nil => simp
  | cons a t =>
    rw [Bool.eq_iff_iff]
    simp only [List.isPrefixOf, Bool.and_true, beq_iff_eq, List.map_cons, List.getD_cons_zero, decide_eq_true_eq]
    constructor
    · intro h; rw [← h]; rfl
    · intro h; apply UInt8.toNat_inj.1; show 47 = a.toNat; omega
theorem shas_any (s : ByteArray) (w : World) : Calls Tryz.prog 79 #[.string s, .string ⟨#[47]⟩] w fun e w' => e = .returned (.bool (decide ((bytesOf s).getD 0 0 = 47))) ∧ w' = w := by
  have h := Any.strings_HasPrefix Tryz.lays99 s ⟨#[47]⟩ w
  rw [← has_slash]
  exact h
theorem out_code (s : ByteArray) (h : 200 < s.size ∨ ¬ (bytesOf s).getD 0 0 = 47) : (splitB s).2 = 2 := by
  unfold splitB
  have e : ¬ s = ⟨#[47]⟩ := fun e => by
    subst e
    rcases h with h | h
    · exact absurd h (by decide)
    · exact h (by decide)
  rw [if_neg e, if_pos (by rcases h with h | h; exact .inr (.inl h); exact .inr (.inr h))]
set_option maxRecDepth 4000 in
set_option maxHeartbeats 4000000 in
theorem broken_any (s : ByteArray) (w : World) (hs : s.size ≤ maxLen) : Calls Tryz.prog 55 #[.string s] w fun e w' => e = .returned (errV (splitB s).2) ∧ Below w.heap.size w w' := by
  have hm : (s.size : Int) ≤ 9223372036854775807 := by unfold maxLen at hs; omega
  by_cases h1 : 200 < s.size
  · have HE : Hid (errV (splitB s).2 = .iface 68 (.int .i64 2)) := by show _ = _; rw [out_code s (.inl h1)]; rfl
    have i1 : (200 : Int) < (s.size : Int) := by omega
    clear hs h1
    go_enter Tryz.func55, Tryz.ntmps55
    go_wp2
    go_ret
    exact ⟨by rw [HE.out]; rfl, Below.refl _ _⟩
  · have i1 : ¬ (200 : Int) < (s.size : Int) := by omega
    have hs2 : s.size ≤ 200 := by omega
    by_cases h2 : (bytesOf s).getD 0 0 = 47
    · have h0 : 0 < s.size := by
        rw [← bytesOf_len]
        cases hb : bytesOf s with
        | nil => rw [hb] at h2; simp at h2
        | cons a t => simp
      have HH : Hid (Calls Tryz.prog 79 _ _ _) := shas_any s w
      rw [decide_eq_true h2] at HH
      have HP : Hid (∀ w, Calls Tryz.prog 56 #[.string s] w fun e w' => ∃ r, e = .returned r ∧ Sees w' r (strs (piecesB s)) ∧ Below w.heap.size w w') := fun w => pieces_any s w hs2 h0
      have HC := split_code2 s h1 h2
      have HS : Hid ((∀ q ∈ piecesB s, q.size ≤ maxLen) ∧ (piecesB s).length ≤ 201) := ⟨pieces_small s hs2, pieces_len s hs2⟩
      rw [HC]
      generalize piecesB s = l at HP HS
      have HC : Hid (codeB l = if l.any (fun q => !okB q) = true then 2 else if l.any longB = true then 3 else if 6 < l.length then 4 else 0) := rfl
      obtain ⟨b1, hb1⟩ : ∃ b, l.any (fun q => !okB q) = b := ⟨_, rfl⟩
      obtain ⟨b2, hb2⟩ : ∃ b, l.any longB = b := ⟨_, rfl⟩
      have HN : Hid (∀ v w, Sees w v (strs l) → Calls Tryz.prog 80 #[v, .func (.func 81) #[] #[]] w fun e w' => e = .returned (.bool b1) ∧ Below w.heap.size w w') := fun v w h => by
        rw [← hb1]; exact cf_any 81 (fun q => !okB q) enters39 noName_any v l w h HS.out.1
      have HL : Hid (∀ v w, Sees w v (strs l) → Calls Tryz.prog 80 #[v, .func (.func 82) #[] #[]] w fun e w' => e = .returned (.bool b2) ∧ Below w.heap.size w w') := fun v w h => by
        rw [← hb2]; exact cf_any 82 longB enters40 long_any v l w h HS.out.1
      rw [hb1, hb2] at HC
      clear hb1 hb2 h1 h2 h0 hs hs2
      go_enter Tryz.func55, Tryz.ntmps55
      go_wp2_with fail
      go_at_call 79
      refine HH.out.mono ?_
      rintro e1 w1 ⟨rfl, rfl⟩
      clear HH
      go_wp2_with fail
      go_at_call 56
      refine (HP.out _).mono ?_
      rintro e2 w2 ⟨r2, rfl, hr2, hb2⟩
      have H2 : Hid (Sees w2 r2 (strs l) ∧ Below w1.heap.size w1 w2) := ⟨hr2, hb2⟩
      clear hr2 hb2
      go_wp2_with fail
      go_at_call 80
      refine (HN.out _ _ H2.out.1).mono ?_
      rintro e3 w3 ⟨rfl, hb3⟩
      have H3 : Hid (Below w1.heap.size w1 w3) := bel2v H2.out.2 hb3
      clear hb3 H2 HN
      cases b1 with
      | true =>
        clear HP HL HS
        go_wp2
        go_ret
        exact ⟨by rw [HC.out]; rfl, H3.out⟩
      | false =>
        go_wp2_with fail
        go_at_call 56
        refine (HP.out _).mono ?_
        rintro e4 w4 ⟨r4, rfl, hr4, hb4⟩
        have H4 : Hid (Sees w4 r4 (strs l) ∧ Below w1.heap.size w1 w4) := ⟨hr4, bel2v H3.out hb4⟩
        clear hr4 hb4 H3
        go_wp2_with fail
        go_at_call 80
        refine (HL.out _ _ H4.out.1).mono ?_
        rintro e5 w5 ⟨rfl, hb5⟩
        have H5 : Hid (Below w1.heap.size w1 w5) := bel2v H4.out.2 hb5
        clear hb5 H4 HL
        cases b2 with
        | true =>
          clear HP HS
          go_wp2
          go_ret
          exact ⟨by rw [HC.out]; rfl, H5.out⟩
        | false =>
          go_wp2_with fail
          go_at_call 56
          refine (HP.out _).mono ?_
          rintro e6 w6 ⟨r6, rfl, hr6, hb6⟩
          have H6 : Hid (Below w1.heap.size w1 w6) := bel2v H5.out hb6
          obtain ⟨ao, cap, rfl, _, _, _, _⟩ := hr6
          clear hb6 H5 HP
          rw [strs_len]
          have hl : (l.length : Int) ≤ 201 := by have := HS.out.2; omega
          by_cases h6 : 6 < l.length
          · have HF : Hid (errV (codeB l) = .iface 68 (.int .i64 4)) := by show _ = _; rw [HC.out]; simp [h6]; rfl
            have i6 : (6 : Int) < (l.length : Int) := by omega
            clear HC HS h6
            go_wp2
            go_ret
            exact ⟨by rw [HF.out]; rfl, H6.out⟩
          · have HF : Hid (errV (codeB l) = .nilIface) := by show _ = _; rw [HC.out]; simp [h6]; rfl
            have i6 : ¬ (6 : Int) < (l.length : Int) := by omega
            clear HC HS h6
            go_wp2
            go_ret
            exact ⟨by rw [HF.out]; rfl, H6.out⟩
    · have HE : Hid (errV (splitB s).2 = .iface 68 (.int .i64 2)) := by show _ = _; rw [out_code s (.inr h2)]; rfl
      have HH : Hid (Calls Tryz.prog 79 _ _ _) := shas_any s w
      rw [decide_eq_false h2] at HH
      clear hs h1 h2 hs2
      go_enter Tryz.func55, Tryz.ntmps55
      go_wp2_with fail
      go_at_call 79
      refine HH.out.mono ?_
      rintro e1 w1 ⟨rfl, rfl⟩
      clear HH
      go_wp2
      go_ret
      exact ⟨by rw [HE.out]; rfl, Below.refl _ _⟩
theorem split_okP (s : ByteArray) (h : (splitB s).2 = 0) : 0 < s.size ∧ s.size ≤ 200 ∧ (splitB s).1 = piecesB s := by
  by_cases h1 : 200 < s.size ∨ ¬ (bytesOf s).getD 0 0 = 47
  · rw [out_code s h1] at h; cases h
  · have h2 : ¬ 200 < s.size := fun h => h1 (.inl h)
    have h3 : (bytesOf s).getD 0 0 = 47 := Decidable.byContradiction fun h => h1 (.inr h)
    refine ⟨?_, by omega, ?_⟩
    · rw [← bytesOf_len]
      cases hb : bytesOf s with
      | nil => rw [hb] at h3; simp at h3
      | cons a t => simp
    · unfold splitB at h ⊢
      unfold piecesB
      split
      · rfl
      · rename_i e
        rw [if_neg e] at h
        split at h
        · cases h
        · split at h
          · cases h
          · split at h
            · cases h
            · split at h
              · cases h
              · rename_i a b c d
                rw [if_neg a, if_neg b, if_neg c, if_neg d]
set_option maxHeartbeats 1000000 in
theorem nsplit_any (s : ByteArray) (w : World) (hs : s.size ≤ maxLen) :
    Calls Tryz.prog 37 #[.string s] w fun e w' => ∃ r, e = .returned (.tuple #[r, errV (splitB s).2]) ∧ Sees w' r (strs (splitB s).1) ∧ Below w.heap.size w w' := by
  have HX : Hid (Calls Tryz.prog 55 _ _ _) := broken_any s w hs
  have cp := split_code s
  have ok := split_okP s
  obtain ⟨⟨a, c⟩, he⟩ : ∃ x, splitB s = x := ⟨_, rfl⟩
  rw [he] at HX cp ok ⊢
  simp only at HX cp ok ⊢
  clear hs he
  by_cases h0 : c = 0
  · obtain ⟨k1, k2, rfl⟩ := ok h0
    subst h0
    have HP : Hid (∀ w, Calls Tryz.prog 56 #[.string s] w fun e w' => ∃ r, e = .returned r ∧ Sees w' r (strs (piecesB s)) ∧ Below w.heap.size w w') := fun w => pieces_any s w k2 k1
    have e0 : errV 0 = .nilIface := rfl
    rw [e0] at HX ⊢
    clear cp ok k1 k2 e0
    go_enter Tryz.func37, Tryz.ntmps37
    go_wp2_with fail
    go_at_call 55
    refine HX.out.mono ?_
    rintro e1 w1 ⟨rfl, hb1⟩
    have H1 : Hid (Below w.heap.size w w1) := hb1
    clear hb1 HX
    go_wp2_with fail
    go_at_call 56
    refine (HP.out _).mono ?_
    rintro e2 w2 ⟨r2, rfl, hr2, hb2⟩
    have H2 : Hid (Sees w2 r2 (strs (piecesB s)) ∧ Below w.heap.size w w2) := ⟨hr2, bel2v H1.out hb2⟩
    clear hr2 hb2 HP H1
    go_wp2
    go_ret2
    exact ⟨r2, rfl, H2.out⟩
  · have ha : a = [] := (cp.resolve_left h0).2
    subst ha
    have HE : errV c = .iface 68 (.int .i64 c) := by unfold errV; rw [if_neg h0]
    rw [HE] at HX ⊢
    clear cp ok h0 HE
    go_enter Tryz.func37, Tryz.ntmps37
    go_wp2_with fail
    go_at_call 55
    refine HX.out.mono ?_
    rintro e1 w1 ⟨rfl, hb1⟩
    have H1 : Hid (Below w.heap.size w w1) := hb1
    clear hb1 HX
    go_wp2
    go_ret2
    exact ⟨_, rfl, sees_none _, H1.out⟩
end Go.Proofs.YtchajlaflehodaaGreatDoor
