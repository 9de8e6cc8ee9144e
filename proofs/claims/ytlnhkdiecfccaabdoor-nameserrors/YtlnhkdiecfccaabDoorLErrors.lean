/- NamesErrors: it answers true. -/
import Derived.Test.YtlnhkdiecfccaabDoorAwake4Ab
import Derived.Test.YtlnhkdiecfccaabDoorMErrs
namespace Go.Proofs.YtlnhkdiecfccaabDoor
open Go.RowKit Kit
set_option linter.unusedVariables false

set_option maxRecDepth 4000 in
set_option maxHeartbeats 2000000 in
theorem lerrors_out (n long : Int) (sign : Bool) (w : World) (h : n < 1 ∨ 12 < n ∨ long < 1 ∨ 15 < long) :
    Calls Tryd.prog 3 #[.int .i64 n, .int .i64 long, .bool sign] w fun e w' => e = .returned (.bool true) ∧ Below w.heap.size w w' := by
  by_cases h1 : n < 1
  · clear h
    go_enter Tryd.func3, Tryd.ntmps3
    go_wp2_with fail
    go_at_call 4
    refine (awake4_any _).mono ?_
    rintro e1 w1 ⟨rfl, hb1⟩
    have H1 : Hid (Below w.heap.size w w1) := hb1
    clear hb1
    go_wp2
    go_ret
    exact ⟨rfl, H1.out⟩
  by_cases h2 : 12 < n
  · clear h
    go_enter Tryd.func3, Tryd.ntmps3
    go_wp2_with fail
    go_at_call 4
    refine (awake4_any _).mono ?_
    rintro e1 w1 ⟨rfl, hb1⟩
    have H1 : Hid (Below w.heap.size w w1) := hb1
    clear hb1
    go_wp2
    go_ret
    exact ⟨rfl, H1.out⟩
  by_cases h3 : long < 1
  · clear h
    go_enter Tryd.func3, Tryd.ntmps3
    go_wp2_with fail
    go_at_call 4
    refine (awake4_any _).mono ?_
    rintro e1 w1 ⟨rfl, hb1⟩
    have H1 : Hid (Below w.heap.size w w1) := hb1
    clear hb1
    go_wp2
    go_ret
    exact ⟨rfl, H1.out⟩
  have h4 : 15 < long := by omega
  clear h
  go_enter Tryd.func3, Tryd.ntmps3
  go_wp2_with fail
  go_at_call 4
  refine (awake4_any _).mono ?_
  rintro e1 w1 ⟨rfl, hb1⟩
  have H1 : Hid (Below w.heap.size w w1) := hb1
  clear hb1
  go_wp2
  go_ret
  exact ⟨rfl, H1.out⟩
set_option maxRecDepth 4000 in
set_option maxHeartbeats 8000000 in
theorem lerrors_in (N L : Nat) (sign : Bool) (w : World) (h1 : 1 ≤ N) (h2 : N ≤ 12) (h3 : 1 ≤ L) (h4 : L ≤ 15) :
    Calls Tryd.prog 3 #[.int .i64 (N : Int), .int .i64 (L : Int), .bool sign] w fun e w' => e = .returned (.bool true) ∧ Below w.heap.size w w' := by
  have i1 : (1 : Int) ≤ (N : Int) := by omega
  have i2 : (N : Int) ≤ 12 := by omega
  have i3 : (1 : Int) ≤ (L : Int) := by omega
  have i4 : (L : Int) ≤ 15 := by omega
  go_enter Tryd.func3, Tryd.ntmps3
  go_wp2
  go_loopw [7, 8] (fun a i wr => ∃ (k : Nat) (s : ByteArray), k ≤ L ∧ a = .string s ∧ i = .int .i64 (k : Int) ∧ wr = w ∧ Hid (s = xsB k)) (fun _ i _ => L - (intOf i).toNat)
  case atStart => exact ⟨0, ⟨#[]⟩, Nat.zero_le _, rfl, rfl, rfl, rfl⟩
  case round =>
    obtain ⟨k, s, hk, rfl, rfl, rfl, HS⟩ := hrel
    have hz : s.size = k := by rw [HS.out, xsB_size]
    have z1 : (s.size : Int) ≤ 15 := by omega
    by_cases hlt : k < L
    · have j0 : (k : Int) < (L : Int) := by omega
      have j1 : (0 : Int) ≤ (k : Int) := by omega
      have HS2 : Hid (s ++ ⟨#[120]⟩ = xsB (k + 1)) := by show _ = _; rw [HS.out]; exact xsB_step k
      clear HS hz
      go_wp2
      go_roundw
      case rel => exact ⟨k + 1, _, by omega, rfl, by simp, trivial, HS2⟩
      case measure => simp [intOf]; omega
    · obtain rfl : k = L := by omega
      have HP : Hid (⟨#[47]⟩ ++ s = pathE 1 k) := by show _ = _; rw [HS.out]; exact pathE_one k
      clear HS hz hlt hk
      go_wp2
      obtain ⟨w1, hw1⟩ : ∃ z, z = wr := ⟨_, rfl⟩
      subst hw1
      obtain ⟨L, hL⟩ : ∃ z, z = k := ⟨_, rfl⟩
      subst hL
      obtain ⟨w, hw⟩ : ∃ z, z = w1 := ⟨_, rfl⟩
      subst hw
      go_loopw [9, 10] (fun a i wr => ∃ (j : Nat) (q : ByteArray), 1 ≤ j ∧ j ≤ N ∧ a = .string q ∧ i = .int .i64 (j : Int) ∧ wr = w ∧ Hid (q = pathE j L)) (fun _ i _ => N - (intOf i).toNat)
      case atStart => exact ⟨1, _, Nat.le_refl _, h1, rfl, rfl, rfl, HP⟩
      case round =>
        obtain ⟨j, q, hj1, hj, rfl, rfl, rfl, HS⟩ := hrel
        have hz : q.size = L + 2 * j - 1 := by rw [HS.out, pathE_size j L hj1]
        have z2 : (q.size : Int) ≤ 40 := by omega
        by_cases hlt : j < N
        · have j0 : (j : Int) < (N : Int) := by omega
          have j1 : (1 : Int) ≤ (j : Int) := by omega
          have HS2 : Hid (q ++ ⟨#[47, 97]⟩ = pathE (j + 1) L) := by show _ = _; rw [HS.out]; exact pathE_step j L hj1
          clear HS hz HP
          go_wp2
          go_roundw
          case rel => exact ⟨j + 1, _, by omega, by omega, rfl, by simp, trivial, HS2⟩
          case measure => simp [intOf]; omega
        · obtain rfl : j = N := by omega
          clear hlt hj HP
          obtain ⟨N, hN⟩ : ∃ z, z = j := ⟨_, rfl⟩
          subst hN
          obtain ⟨w, hw⟩ : ∃ z, z = wr := ⟨_, rfl⟩
          subst hw
          cases sign with
          | true =>
            have hsp : splitB (q ++ ⟨#[33]⟩) = ([], 2) := by rw [HS.out]; exact split_signE N L
            have hqz : (q ++ ⟨#[33]⟩).size ≤ maxLen := by
              rw [ByteArray.size_append]
              have : (⟨#[33]⟩ : ByteArray).size = 1 := rfl
              unfold maxLen
              omega
            clear hz
            have HX : Hid (Calls Tryd.prog 5 _ _ _) := nsplit_any (q ++ ⟨#[33]⟩) w hqz
            rw [hsp] at HX
            simp only at HX
            clear hsp hqz HS
            go_wp2_with fail
            go_at_call 5
            refine HX.out.mono ?_
            rintro e1 w1 ⟨r1, rfl, hr1, hb1⟩
            have H1 : Hid (Below w.heap.size w w1) := hb1
            clear hb1 HX hr1
            have HC := code_any 2 w1 (by decide)
            obtain ⟨ev, he⟩ : ∃ v, errV 2 = v := ⟨_, rfl⟩
            rw [he] at HC ⊢
            clear he
            go_wp2_with fail
            go_at_call 6
            refine HC.mono ?_
            rintro e2 w2 ⟨rfl, rfl⟩
            clear HC
            go_wp2_with fail
            go_at_call 4
            refine (awake4_any _).mono ?_
            rintro e3 w3 ⟨rfl, hb3⟩
            have H3 : Hid (Below w.heap.size w w3) := bel2v H1.out hb3
            clear hb3 H1
            go_wp2
            go_ret
            exact ⟨by simp, H3.out⟩
          | false =>
            have hse : splitB q = if 12 < L then ([], 3) else if 6 < N then ([], 4) else (namesE N L, 0) := by rw [HS.out]; exact split_pathE N L h1 h2 h3 h4
            have hqz : q.size ≤ maxLen := by unfold maxLen; omega
            clear hz
            by_cases hL12 : 12 < L
            · have hsp : splitB q = ([], 3) := by rw [hse, if_pos hL12]
              have k1 : (12 : Int) < (L : Int) := by omega
              clear hse hL12
              have HX : Hid (Calls Tryd.prog 5 _ _ _) := nsplit_any (q) w hqz
              rw [hsp] at HX
              simp only at HX
              clear hsp hqz HS
              go_wp2_with fail
              go_at_call 5
              refine HX.out.mono ?_
              rintro e1 w1 ⟨r1, rfl, hr1, hb1⟩
              have H1 : Hid (Below w.heap.size w w1) := hb1
              clear hb1 HX hr1
              have HC := code_any 3 w1 (by decide)
              obtain ⟨ev, he⟩ : ∃ v, errV 3 = v := ⟨_, rfl⟩
              rw [he] at HC ⊢
              clear he
              go_wp2_with fail
              go_at_call 6
              refine HC.mono ?_
              rintro e2 w2 ⟨rfl, rfl⟩
              clear HC
              go_wp2_with fail
              go_at_call 4
              refine (awake4_any _).mono ?_
              rintro e3 w3 ⟨rfl, hb3⟩
              have H3 : Hid (Below w.heap.size w w3) := bel2v H1.out hb3
              clear hb3 H1
              go_wp2
              go_ret
              exact ⟨by simp, H3.out⟩
            · have k1 : ¬ (12 : Int) < (L : Int) := by omega
              by_cases hN6 : 6 < N
              · have hsp : splitB q = ([], 4) := by rw [hse, if_neg hL12, if_pos hN6]
                have k2 : (6 : Int) < (N : Int) := by omega
                clear hse hL12 hN6
                have HX : Hid (Calls Tryd.prog 5 _ _ _) := nsplit_any (q) w hqz
                rw [hsp] at HX
                simp only at HX
                clear hsp hqz HS
                go_wp2_with fail
                go_at_call 5
                refine HX.out.mono ?_
                rintro e1 w1 ⟨r1, rfl, hr1, hb1⟩
                have H1 : Hid (Below w.heap.size w w1) := hb1
                clear hb1 HX hr1
                have HC := code_any 4 w1 (by decide)
                obtain ⟨ev, he⟩ : ∃ v, errV 4 = v := ⟨_, rfl⟩
                rw [he] at HC ⊢
                clear he
                go_wp2_with fail
                go_at_call 6
                refine HC.mono ?_
                rintro e2 w2 ⟨rfl, rfl⟩
                clear HC
                go_wp2_with fail
                go_at_call 4
                refine (awake4_any _).mono ?_
                rintro e3 w3 ⟨rfl, hb3⟩
                have H3 : Hid (Below w.heap.size w w3) := bel2v H1.out hb3
                clear hb3 H1
                go_wp2
                go_ret
                exact ⟨by simp, H3.out⟩
              · have hsp : splitB q = (namesE N L, 0) := by rw [hse, if_neg hL12, if_neg hN6]
                have k2 : ¬ (6 : Int) < (N : Int) := by omega
                clear hse hL12 hN6
                have HX : Hid (Calls Tryd.prog 5 _ _ _) := nsplit_any (q) w hqz
                rw [hsp] at HX
                simp only at HX
                clear hsp hqz HS
                go_wp2_with fail
                go_at_call 5
                refine HX.out.mono ?_
                rintro e1 w1 ⟨r1, rfl, hr1, hb1⟩
                have H1 : Hid (Below w.heap.size w w1) := hb1
                obtain ⟨ao, cap, rfl, _, _, _, _⟩ := hr1
                rw [strs_len, namesE_len N L h1]
                clear hb1 HX
                have HC := code_any 0 w1 (by decide)
                have he : errV 0 = .nilIface := rfl
                rw [he] at HC ⊢
                clear he
                go_wp2_with fail
                go_at_call 6
                refine HC.mono ?_
                rintro e2 w2 ⟨rfl, rfl⟩
                clear HC
                go_wp2_with fail
                go_at_call 4
                refine (awake4_any _).mono ?_
                rintro e3 w3 ⟨rfl, hb3⟩
                have H3 : Hid (Below w.heap.size w w3) := bel2v H1.out hb3
                clear hb3 H1
                go_wp2
                go_ret
                exact ⟨by simp, H3.out⟩
theorem lerrors_any (n long : Int) (sign : Bool) (w : World) :
    Calls Tryd.prog 3 #[.int .i64 n, .int .i64 long, .bool sign] w fun e w' => e = .returned (.bool true) ∧ Below w.heap.size w w' := by
  by_cases h : n < 1 ∨ 12 < n ∨ long < 1 ∨ 15 < long
  · exact lerrors_out n long sign w h
  · obtain ⟨N, rfl⟩ : ∃ N : Nat, n = N := ⟨n.toNat, by omega⟩
    obtain ⟨L, rfl⟩ : ∃ L : Nat, long = L := ⟨long.toNat, by omega⟩
    exact lerrors_in N L sign w (by omega) (by omega) (by omega) (by omega)
end Go.Proofs.YtlnhkdiecfccaabDoor
