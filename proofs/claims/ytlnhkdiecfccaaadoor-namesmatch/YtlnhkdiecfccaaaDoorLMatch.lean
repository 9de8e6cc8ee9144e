/- NamesMatch: it answers true. -/
import Derived.Test.YtlnhkdiecfccaaaDoorAwake4
namespace Go.Proofs.YtlnhkdiecfccaaaDoor
open Go.RowKit Kit
set_option linter.unusedVariables false

/-- The contract at a known answer. -/
theorem nmatch_at {p n : ByteArray} {u : Bool} (h : matchB p n = u) (hp : p.size ≤ maxLen) (hn : n.size ≤ maxLen) : Hid (∀ w, Calls Tryd.prog 22 #[.string p, .string n] w fun e w' => e = .returned (.bool u) ∧ Below w.heap.size w w') := fun w => by
  have := nmatch_any p n w hp hn
  rw [h] at this
  exact this

set_option maxRecDepth 4000 in
set_option maxHeartbeats 8000000 in
theorem lmatch_any (a b : ByteArray) (w : World) :
    Calls Tryd.prog 7 #[.string a, .string b] w fun e w' => e = .returned (.bool true) ∧ Below w.heap.size w w' := by
  go_enter Tryd.func7, Tryd.ntmps7
  by_cases h1 : (18 : Int) < (a.size : Int)
  · go_wp2_with fail
    go_at_call 9
    refine (awake4_any _).mono ?_
    rintro e1 w1 ⟨rfl, hb1⟩
    have H1 : Hid (Below w.heap.size w w1) := hb1
    clear hb1
    go_wp2
    go_ret
    exact ⟨rfl, H1.out⟩
  by_cases h2 : (18 : Int) < (b.size : Int)
  · have h1' : (a.size : Int) ≤ 18 := by omega
    clear h1
    go_wp2_with fail
    go_at_call 9
    refine (awake4_any _).mono ?_
    rintro e1 w1 ⟨rfl, hb1⟩
    have H1 : Hid (Below w.heap.size w w1) := hb1
    clear hb1
    go_wp2
    go_ret
    exact ⟨rfl, H1.out⟩
  have i1 : (a.size : Int) ≤ 18 := by omega
  have i2 : (b.size : Int) ≤ 18 := by omega
  have ml : 100 ≤ maxLen := by unfold maxLen; omega
  have o1 : (⟨#[42]⟩ : ByteArray).size = 1 := rfl
  have o2 : (⟨#[63]⟩ : ByteArray).size = 1 := rfl
  have MS := nmatch_at (match_star b (by omega)) (by omega) (by omega)
  have MT := nmatch_at (match_tail a b (by omega)) (by rw [ByteArray.size_append]; omega) (by rw [ByteArray.size_append]; omega)
  have MH := nmatch_at (match_head a b (by omega)) (by rw [ByteArray.size_append]; omega) (by rw [ByteArray.size_append]; omega)
  have MA := nmatch_at (match_self a (by omega)) (by omega) (by omega)
  obtain ⟨u, hu⟩ : ∃ u, decide (b.size = 1) = u := ⟨_, rfl⟩
  have MO := nmatch_at ((match_one b (by omega)).trans hu) (by omega) (by omega)
  have lb : ((b.size : Int) == 1) = u := by rw [← hu]; rw [Bool.eq_iff_iff]; simp; omega
  have HS : Hid (a.size ≤ 18 ∧ b.size ≤ 18) := ⟨by omega, by omega⟩
  clear h1 h2 ml o1 o2 hu
  go_wp2
  go_loop [5, 6] (fun s i => ∃ (k : Nat) (t : Bool), k ≤ a.size ∧ s = .bool t ∧ i = .int .i64 (k : Int) ∧ Hid (t = false → ∀ j, j < k → cAt a j ≠ 42 ∧ cAt a j ≠ 63)) (fun _ i => a.size - (intOf i).toNat)
  case atStart => exact ⟨0, false, Nat.zero_le _, rfl, rfl, fun _ j hj => absurd hj (Nat.not_lt_zero _)⟩
  case round =>
    obtain ⟨k, t, hk, rfl, rfl, HT⟩ := hrel
    by_cases hlt : k < a.size
    · have j0 : (k : Int) < (a.size : Int) := by omega
      have j1 : (0 : Int) ≤ (k : Int) := by omega
      cases t with
      | true =>
        clear HT MS MT MH MA MO
        go_wp2
        go_round
        case rel => exact ⟨k + 1, true, by omega, rfl, by simp, fun h => by cases h⟩
        case measure => simp [intOf]; omega
      | false =>
        by_cases c1 : cAt a k = 42
        · have e42 : (((a[k]'hlt).toNat : Int) == 42) = true := by rw [cAt_eq]; simp [c1]
          clear HT MS MT MH MA MO c1
          go_wp2
          go_round
          case rel => exact ⟨k + 1, true, by omega, rfl, by simp, fun h => by cases h⟩
          case measure => simp [intOf]; omega
        · have e42 : (((a[k]'hlt).toNat : Int) == 42) = false := by rw [cAt_eq]; simp; omega
          by_cases c2 : cAt a k = 63
          · have e63 : (((a[k]'hlt).toNat : Int) == 63) = true := by rw [cAt_eq]; simp [c2]
            clear HT MS MT MH MA MO c1 c2
            go_wp2
            go_round
            case rel => exact ⟨k + 1, true, by omega, rfl, by simp, fun h => by cases h⟩
            case measure => simp [intOf]; omega
          · have e63 : (((a[k]'hlt).toNat : Int) == 63) = false := by rw [cAt_eq]; simp; omega
            have HT2 : Hid (∀ j, j < k + 1 → cAt a j ≠ 42 ∧ cAt a j ≠ 63) := fun j hj => by
              by_cases hjk : j = k
              · subst hjk; exact ⟨c1, c2⟩
              · exact HT.out rfl j (by omega)
            clear HT MS MT MH MA MO c1 c2
            go_wp2
            go_round
            case rel => exact ⟨k + 1, false, by omega, rfl, by simp, fun _ => HT2.out⟩
            case measure => simp [intOf]; omega
    · obtain rfl : k = a.size := by omega
      have HB : Hid (t = false → ∀ w, Calls Tryd.prog 22 #[.string a, .string b] w fun e w' => e = .returned (.bool (decide (a = b))) ∧ Below w.heap.size w w') := fun ht =>
        (nmatch_at (match_plain a b (by have := HS.out; omega) (by have := HS.out; omega) (HT.out ht)) (by have := HS.out; unfold maxLen; omega) (by have := HS.out; unfold maxLen; omega)).out
      have be := bytes_eq a b
      obtain ⟨q, hq⟩ : ∃ q, decide (a = b) = q := ⟨_, rfl⟩
      rw [hq] at HB be
      clear HT hq
      go_wp2_with fail
      go_at_call 22
      refine (MS.out _).mono ?_
      rintro e1 w1 ⟨rfl, hb1⟩
      have H1 : Hid (Below w.heap.size w w1) := hb1
      clear MS hb1
      go_wp2_with fail
      go_at_call 22
      refine (MT.out _).mono ?_
      rintro e2 w2 ⟨rfl, hb2⟩
      have H2 : Hid (Below w.heap.size w w2) := bel2v H1.out hb2
      clear MT hb2 H1
      go_wp2_with fail
      go_at_call 22
      refine (MH.out _).mono ?_
      rintro e3 w3 ⟨rfl, hb3⟩
      have H3 : Hid (Below w.heap.size w w3) := bel2v H2.out hb3
      clear MH hb3 H2
      go_wp2_with fail
      go_at_call 22
      refine (MA.out _).mono ?_
      rintro e4 w4 ⟨rfl, hb4⟩
      have H4 : Hid (Below w.heap.size w w4) := bel2v H3.out hb4
      clear MA hb4 H3
      cases t with
      | true =>
        go_wp2_with fail
        go_at_call 22
        refine (MO.out _).mono ?_
        rintro e6 w6 ⟨rfl, hb6⟩
        have H6 : Hid (Below w.heap.size w w6) := bel2v H4.out hb6
        clear MO hb6 H4 HB
        go_wp2_with fail
        go_at_call 9
        refine (awake4_any _).mono ?_
        rintro e7 w7 ⟨rfl, hb7⟩
        have H7 : Hid (Below w.heap.size w w7) := bel2v H6.out hb7
        clear hb7 H6
        go_wp2
        go_ret
        exact ⟨by simp, H7.out⟩
      | false =>
        go_wp2_with fail
        go_at_call 22
        refine (HB.out (by first | trivial | rfl) _).mono ?_
        rintro e5 w5 ⟨rfl, hb5⟩
        have H5 : Hid (Below w.heap.size w w5) := bel2v H4.out hb5
        clear HB hb5 H4
        go_wp2_with fail
        go_at_call 22
        refine (MO.out _).mono ?_
        rintro e6 w6 ⟨rfl, hb6⟩
        have H6 : Hid (Below w.heap.size w w6) := bel2v H5.out hb6
        clear MO hb6 H5
        go_wp2_with fail
        go_at_call 9
        refine (awake4_any _).mono ?_
        rintro e7 w7 ⟨rfl, hb7⟩
        have H7 : Hid (Below w.heap.size w w7) := bel2v H6.out hb7
        clear hb7 H6
        go_wp2
        go_ret
        exact ⟨by simp, H7.out⟩
end Go.Proofs.YtlnhkdiecfccaaaDoor
