/- NamesSorts: it answers true. -/
import Derived.Test.YtlnhkdiecfccaaaDoorAwake4
import Derived.Test.YtlnhkdiecfccaaaDoorRSum
namespace Go.Proofs.YtlnhkdiecfccaaaDoor
open Go.RowKit Kit
set_option linter.unusedVariables false

theorem tot_next (l : List ByteArray) (k : Nat) (h : k < l.length) : tot (l.take (k + 1)) = tot (l.take k) + (l.getD k ⟨#[]⟩).size + 1 := by
  unfold tot
  rw [List.take_add_one, List.getElem?_eq_getElem h, Option.toList_some, List.map_append, List.sum_append]
  simp [List.getD, h]
  omega
theorem tot_len (l : List ByteArray) : l.length ≤ tot l := by
  induction l with
  | nil => simp
  | cons a r ih => unfold tot at *; simp only [List.map_cons, List.sum_cons, List.length_cons]; omega
/-- dolmenalike.Sum of a number, a text's size and one, over the slice that the call lays. -/
theorem sum_two (m x : Nat) (w : World) (hm : m ≤ 1000) (hx : x ≤ maxLen) :
    Calls Tryd.prog 19 #[.int .i64 (m : Int), .slice (some ⟨w.heap.size, 0, none⟩) 2 2] (w.alloc (.cells #[.int .i64 (x : Int), .int .i64 1] 3)) fun e w' => (∃ s : Nat, e = .returned (.int .i64 (s : Int)) ∧ (s ≤ 1000 → s = m + x + 1)) ∧ Below w.heap.size w w' := by
  refine (sum_list [x, 1] m w.heap.size 2 _ (show m ≤ _ by omega) (show ∀ i, _ from fun i hi => ?_) (by simp) (show ∀ i, _ from fun i hi => ?_)).mono ?_
  · match i, hi with
    | 0, _ => simp only [List.getD_cons_zero]; unfold maxLen at hx; omega
    | 1, _ => simp
  · match i, hi with
    | 0, _ => simp
    | 1, _ => simp
  · rintro e w' ⟨rfl, rfl⟩
    refine ⟨⟨_, rfl, fun hs => ?_⟩, (Below.refl _ _).alloc (Nat.le_refl _) _⟩
    rw [satSum_small _ _ (by omega)]
    simp
    omega

set_option maxRecDepth 4000 in
set_option maxHeartbeats 8000000 in
theorem lsorts_any (v : Value) (l : List ByteArray) (p n : ByteArray) (w : World) (hv : Sees w v (strs l)) (hz : ∀ q ∈ l, q.size ≤ maxLen) (hp : p.size ≤ maxLen) (hn : n.size ≤ maxLen) :
    Calls Tryd.prog 4 #[v, .string p, .string n] w fun e w' => e = .returned (.bool true) ∧ Below w.heap.size w w' := by
  have HV : Hid (Sees w v (strs l)) := hv
  obtain ⟨lo, lc, rfl, h1, h2, h3, h4⟩ := hv
  rw [strs_len] at h1 h4 HV
  rw [strs_len]
  have H4 : Hid (_ → _) := h4
  have HZ : Hid (∀ q ∈ l, q.size ≤ maxLen) := hz
  have HPN : Hid (p.size ≤ maxLen ∧ n.size ≤ maxLen) := ⟨hp, hn⟩
  have lm : (l.length : Int) ≤ 9223372036854775807 := by unfold maxLen at h2; omega
  clear h1 h2 h3 h4 hz hp hn
  go_enter Tryd.func4, Tryd.ntmps4
  go_wp2
  go_loopw [7, 8] (fun a i wr => ∃ k m : Nat, k ≤ l.length ∧ m ≤ 1000 ∧ a = .int .i64 (m : Int) ∧ i = .int .i64 (k : Int) ∧ Hid (tot (l.take k) ≤ m) ∧ Hid (Below w.heap.size w wr)) (fun _ i _ => l.length - (intOf i).toNat)
  case atStart => exact ⟨0, 0, Nat.zero_le _, by omega, rfl, rfl, Nat.zero_le _, Below.refl _ _⟩
  case round =>
    obtain ⟨k, m, hk, hm, rfl, rfl, HT, HB⟩ := hrel
    by_cases hlt : k < l.length
    · obtain ⟨lb, lf, hlo, hlb, hlc⟩ := H4.out (by omega)
      subst hlo
      have c0 := (HB.out.cell (by exact hlb)).trans (hlc k _ (strs_at l k hlt))
      obtain ⟨x, hx⟩ : ∃ x, l.getD k ⟨#[]⟩ = x := ⟨_, rfl⟩
      have HN := tot_next l k hlt
      rw [hx] at c0 HN
      have hxm : x ∈ l := by rw [← hx]; simp [List.getD, hlt]
      have HSum : Hid (Calls Tryd.prog 19 _ _ _) := sum_two m x.size wr hm (HZ.out x hxm)
      have HTN : Hid (tot (l.take (k + 1)) ≤ m + x.size + 1) := by have := HT.out; show _ ≤ _; omega
      have j0 : (k : Int) < (l.length : Int) := by omega
      have j1 : (0 : Int) ≤ (k : Int) := by omega
      clear hlc hlb hx HN HT hxm HV H4
      go_wp2_with fail
      go_at_call 19
      refine HSum.out.mono ?_
      rintro e1 w1 ⟨⟨s, rfl, hs⟩, hb1⟩
      have H1 : Hid (Below w.heap.size w w1) := bel2v HB.out hb1
      have HS : Hid (s ≤ 1000 → s = m + x.size + 1) := hs
      clear hb1 hs HSum HB c0
      by_cases h1000 : (1000 : Int) < (s : Int)
      · go_wp2_with fail
        go_at_call 9
        refine (awake4_any _).mono ?_
        rintro e2 w2 ⟨rfl, hb2⟩
        have H2 : Hid (Below w.heap.size w w2) := bel2v H1.out hb2
        clear hb2 H1
        go_wp2
        go_ret
        exact ⟨rfl, H2.out⟩
      · have h1000' : (s : Int) ≤ 1000 := by omega
        have HT2 : Hid (tot (l.take (k + 1)) ≤ s) := by
          have h5 := HS.out (by omega)
          have := HTN.out
          show _ ≤ _
          omega
        clear HS HTN h1000
        go_wp2
        go_roundw
        case rel => exact ⟨k + 1, s, by omega, by omega, rfl, by simp, HT2.out, H1.out⟩
        case measure => simp [intOf]; omega
    · obtain rfl : k = l.length := by omega
      have ht := HT.out
      rw [List.take_length] at ht
      have hl := tot_len l
      have HVr : Hid (Sees wr (.slice lo l.length lc) (strs l)) := HV.out.below HB.out
      by_cases hp1 : (100 : Int) < (p.size : Int)
      · clear HV H4 HT
        go_wp2_with fail
        go_at_call 9
        refine (awake4_any _).mono ?_
        rintro e2 w2 ⟨rfl, hb2⟩
        have H2 : Hid (Below w.heap.size w w2) := bel2v HB.out hb2
        clear hb2
        go_wp2
        go_ret
        exact ⟨rfl, H2.out⟩
      have hp1' : (p.size : Int) ≤ 100 := by omega
      by_cases hn1 : (100 : Int) < (n.size : Int)
      · clear HV H4 HT hp1
        go_wp2_with fail
        go_at_call 9
        refine (awake4_any _).mono ?_
        rintro e2 w2 ⟨rfl, hb2⟩
        have H2 : Hid (Below w.heap.size w w2) := bel2v HB.out hb2
        clear hb2
        go_wp2
        go_ret
        exact ⟨rfl, H2.out⟩
      have hn1' : (n.size : Int) ≤ 100 := by omega
      have HLN : Hid (l.length ≤ 100000 ∧ tot l ≤ 1000000) := ⟨by omega, by omega⟩
      obtain ⟨u, hu⟩ : ∃ u, matchB p n = u := ⟨_, rfl⟩
      have HM1 : Hid (∀ w, Calls Tryd.prog 22 #[.string p, .string n] w fun e w' => e = .returned (.bool u) ∧ Below w.heap.size w w') := fun w => by
        have := nmatch_any p n w HPN.out.1 HPN.out.2
        rw [hu] at this
        exact this
      have HM2 : Hid (∀ w, Calls Tryd.prog 23 #[.string p, .string n] w fun e w' => e = .returned (.bool u) ∧ Below w.heap.size w w') := fun w => by
        have := match_any p n w HPN.out.1 HPN.out.2
        rw [hu] at this
        exact this
      clear HV H4 HT hp1 hn1 ht hl hu
      go_wp2_with fail
      go_at_call 20
      refine (nsorted_any _ l _ HVr.out HLN.out.1).mono ?_
      rintro e1 w1 ⟨r1, rfl, hr1, hb1⟩
      have H1 : Hid (Sees w1 (.slice lo l.length lc) (strs l) ∧ Sees w1 r1 (strs (sortedB l)) ∧ Below w.heap.size w w1) := ⟨HVr.out.below hb1, hr1, bel2v HB.out hb1⟩
      clear hr1 hb1 HVr HB
      go_wp2_with fail
      go_at_call 21
      refine (sorted_any _ l _ H1.out.1 HLN.out.1).mono ?_
      rintro e2 w2 ⟨r2, rfl, hr2, hb2⟩
      have H2 : Hid (Sees w2 (.slice lo l.length lc) (strs l) ∧ Sees w2 r1 (strs (sortedB l)) ∧ Sees w2 r2 (strs (sortedB l)) ∧ Below w.heap.size w w2) := ⟨H1.out.1.below hb2, H1.out.2.1.below hb2, hr2.sees, bel2v H1.out.2.2 hb2⟩
      clear hr2 hb2 H1
      go_wp2_with fail
      go_at_call 14
      refine (texts_any _ _ _ _ _ H2.out.2.1 H2.out.2.2.1).mono ?_
      rintro e3 w3 ⟨rfl, hb3⟩
      have H3 : Hid (Sees w3 (.slice lo l.length lc) (strs l) ∧ Below w.heap.size w w3) := ⟨H2.out.1.below hb3, bel2v H2.out.2.2.2 hb3⟩
      have ea : decide (sortedB l = sortedB l) = true := by simp
      rw [ea]
      clear hb3 H2 ea
      go_wp2_with fail
      go_at_call 22
      refine (HM1.out _).mono ?_
      rintro e4 w4 ⟨rfl, hb4⟩
      have H4 : Hid (Sees w4 (.slice lo l.length lc) (strs l) ∧ Below w.heap.size w w4) := ⟨H3.out.1.below hb4, bel2v H3.out.2 hb4⟩
      clear hb4 H3 HM1
      go_wp2_with fail
      go_at_call 23
      refine (HM2.out _).mono ?_
      rintro e5 w5 ⟨rfl, hb5⟩
      have H5 : Hid (Sees w5 (.slice lo l.length lc) (strs l) ∧ Below w.heap.size w w5) := ⟨H4.out.1.below hb5, bel2v H4.out.2 hb5⟩
      clear hb5 H4 HM2
      go_wp2_with fail
      go_at_call 24
      refine (njoin_any _ l _ H5.out.1 HLN.out.2).mono ?_
      rintro e6 w6 ⟨rfl, hb6⟩
      have H6 : Hid (Sees w6 (.slice lo l.length lc) (strs l) ∧ Below w.heap.size w w6) := ⟨H5.out.1.below hb6, bel2v H5.out.2 hb6⟩
      clear hb6 H5
      go_wp2_with fail
      go_at_call 25
      refine (join_any _ l _ H6.out.1 HLN.out.2).mono ?_
      rintro e7 w7 ⟨rfl, rfl⟩
      go_wp2_with fail
      go_at_call 9
      refine (awake4_any _).mono ?_
      rintro e8 w8 ⟨rfl, hb8⟩
      have H8 : Hid (Below w.heap.size w w8) := bel2v H6.out.2 hb8
      clear hb8 H6
      go_wp2
      go_ret
      exact ⟨by simp, H8.out⟩
end Go.Proofs.YtlnhkdiecfccaaaDoor
