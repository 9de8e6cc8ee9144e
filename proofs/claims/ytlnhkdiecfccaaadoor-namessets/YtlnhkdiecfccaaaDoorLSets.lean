/- NamesSets: it answers true. -/
import Derived.Test.YtlnhkdiecfccaaaDoorLSets0
import Derived.Deep.RegionHeld3
import Derived.Deep.QuietTactic
import Derived.BigQuiet
import Derived.Deep.DeepFit
namespace Go.Proofs.YtlnhkdiecfccaaaDoor
open Go.RowKit Kit
set_option linter.unusedVariables false

/-- Is a text in a list? -/
def inB (l : List ByteArray) (x : ByteArray) : Bool := l.any fun q => decide (q = x)
theorem inB_step (l : List ByteArray) (x : ByteArray) (k : Nat) (h : k < l.length) : inB (l.take (k + 1)) x = (inB (l.take k) x || decide (l.getD k ⟨#[]⟩ = x)) := by
  unfold inB
  rw [List.take_add_one, List.getElem?_eq_getElem h, Option.toList_some, List.any_append]
  simp [List.getD, h]
theorem inB_sorted (l : List ByteArray) (x : ByteArray) : inB (sortedB l) x = inB l x := by
  unfold inB
  rw [Bool.eq_iff_iff, List.any_eq_true, List.any_eq_true]
  constructor
  · rintro ⟨y, hy, h⟩; exact ⟨y, (sorted_mem l y).1 hy, h⟩
  · rintro ⟨y, hy, h⟩; exact ⟨y, (sorted_mem l y).2 hy, h⟩

set_option maxRecDepth 4000 in
set_option maxHeartbeats 16000000 in
theorem lsets_any (v : Value) (l : List ByteArray) (n : ByteArray) (w : World) (hv : Sees w v (strs l)) (hz : ∀ q ∈ l, q.size ≤ maxLen) (hn : n.size ≤ maxLen) :
    Calls Tryd.prog 8 #[v, .string n] w fun e w' => e = .returned (.bool true) ∧ Below w.heap.size w w' := by
  have HV : Hid (Sees w v (strs l)) := hv
  obtain ⟨lo, lc, rfl, h1, h2, h3, h4⟩ := hv
  rw [strs_len] at h1 h4 HV
  rw [strs_len]
  have H4 : Hid (_ → _) := h4
  have HZ : Hid (∀ q ∈ l, q.size ≤ maxLen) := hz
  have lm : (l.length : Int) ≤ 9223372036854775807 := by unfold maxLen at h2; omega
  have nm : (n.size : Int) ≤ 9223372036854775807 := by unfold maxLen at hn; omega
  clear h1 h2 h3 h4 hz
  go_enter Tryd.func8, Tryd.ntmps8
  go_wp2
  go_loopw [5, 6] (fun a i wr => ∃ k m : Nat, k ≤ l.length ∧ m ≤ maxLen ∧ a = .int .i64 (m : Int) ∧ i = .int .i64 (k : Int) ∧ Hid (0 < k → tot (l.take k) ≤ m ∧ m ≤ 1000) ∧ Hid (Below w.heap.size w wr)) (fun _ i _ => l.length - (intOf i).toNat)
  case atStart => exact ⟨0, n.size, Nat.zero_le _, hn, rfl, rfl, fun h => absurd h (by omega), Below.refl _ _⟩
  case round =>
    obtain ⟨k, m, hk, hm, rfl, rfl, HT, HB⟩ := hrel
    clear hn
    by_cases hlt : k < l.length
    · obtain ⟨lb, lf, hlo, hlb, hlc⟩ := H4.out (by omega)
      subst hlo
      have c0 := (HB.out.cell (by exact hlb)).trans (hlc k _ (strs_at l k hlt))
      obtain ⟨x, hx⟩ : ∃ x, l.getD k ⟨#[]⟩ = x := ⟨_, rfl⟩
      have HN := tot_next l k hlt
      rw [hx] at c0 HN
      have hxm : x ∈ l := by rw [← hx]; simp [List.getD, hlt]
      have HSum : Hid (Calls Tryd.prog 19 _ _ _) := sum_two' m x.size wr hm (HZ.out x hxm)
      have HTN : Hid (tot (l.take (k + 1)) ≤ m + x.size + 1) := by
        show _ ≤ _
        rcases Nat.eq_zero_or_pos k with h0 | h0
        · rw [HN, h0, List.take_zero]
          show 0 + x.size + 1 ≤ _
          omega
        · have := (HT.out h0).1
          omega
      have j0 : (k : Int) < (l.length : Int) := by omega
      have j1 : (0 : Int) ≤ (k : Int) := by omega
      clear hlc hlb hx HN HT hxm HV H4
      go_wp2_with fail
      go_at_call 19
      refine HSum.out.mono ?_
      rintro e1 w1 ⟨⟨s, rfl, hs9, hs⟩, hb1⟩
      have H1 : Hid (Below w.heap.size w w1) := bel2v HB.out hb1
      have HS : Hid (s ≤ 1000 → s = m + x.size + 1) := hs
      clear hb1 hs HSum HB c0
      by_cases h1000 : (1000 : Int) < (s : Int)
      · go_wp2_with fail
        go_at_call 9
        refine (awake4_any _).mono ?_
        rintro e2 w2 ⟨rfl, hb2⟩
        have H2 : Hid (Below w.heap.size w w2) := bel2v H1.out hb2
        clear hb2 H1
        go_wp2
        go_ret
        exact ⟨rfl, H2.out⟩
      · have h1000' : (s : Int) ≤ 1000 := by omega
        have HT2 : Hid (0 < k + 1 → tot (l.take (k + 1)) ≤ s ∧ s ≤ 1000) := fun _ => by
          have h5 := HS.out (by omega)
          have := HTN.out
          omega
        clear HS HTN h1000
        go_wp2
        go_roundw
        case rel => exact ⟨k + 1, s, by omega, hs9, rfl, by simp, HT2.out, H1.out⟩
        case measure => simp [intOf]; omega
    · obtain rfl : k = l.length := by omega
      have hl1000 : l.length ≤ 1000 := by
        rcases Nat.eq_zero_or_pos l.length with h0 | h0
        · omega
        · have ht := HT.out h0
          rw [List.take_length] at ht
          have := tot_len l
          omega
      have HVr : Hid (Sees wr (.slice lo l.length lc) (strs l)) := HV.out.below HB.out
      have HLN : Hid (l.length ≤ 100000) := by show _ ≤ _; omega
      have il : (l.length : Int) ≤ 1000 := by omega
      clear HV H4 HT hl1000 hm HZ
      go_wp2_with fail
      go_at_call 20
      refine (nsorted_any _ l _ HVr.out HLN.out).mono ?_
      rintro e1 w1 ⟨r1, rfl, hr1, hb1⟩
      have H1 : Hid (Sees w1 (.slice lo l.length lc) (strs l) ∧ Sees w1 r1 (strs (sortedB l)) ∧ Below w.heap.size w w1) := ⟨HVr.out.below hb1, hr1, bel2v HB.out hb1⟩
      clear hr1 hb1 HVr HB
      obtain ⟨lo', lc', e1, _, _, _, h4⟩ := H1.out.1
      rw [strs_len] at e1 h4
      cases e1
      have H4 : Hid (_ → _) := h4
      clear h4
      go_wp2
      go_loopw [8, 10] (fun a i wx => ∃ (k : Nat) (b : Bool), k ≤ l.length ∧ a = .bool b ∧ i = .int .i64 (k : Int) ∧ wx = w1 ∧ Hid (b = inB (l.take k) n)) (fun _ i _ => l.length - (intOf i).toNat)
      case atStart => exact ⟨0, false, Nat.zero_le _, rfl, rfl, rfl, rfl⟩
      case round =>
        obtain ⟨k, b, hk, rfl, rfl, rfl, HI⟩ := hrel
        by_cases hlt : k < l.length
        · obtain ⟨lb, lf, hlo, hlb, hlc⟩ := H4.out (by omega)
          subst hlo
          have c0 := hlc k _ (strs_at l k hlt)
          obtain ⟨x, hx⟩ : ∃ x, l.getD k ⟨#[]⟩ = x := ⟨_, rfl⟩
          have hst := inB_step l n k hlt
          rw [← HI.out, hx] at hst
          rw [hx] at c0
          have j0 : (k : Int) < (l.length : Int) := by omega
          have j1 : (0 : Int) ≤ (k : Int) := by omega
          clear hlc hlb hx HI
          cases b with
          | true =>
            have HI2 : Hid (true = inB (l.take (k + 1)) n) := by show _ = _; rw [hst]; rfl
            clear hst c0
            go_wp2
            go_roundw
            case rel => exact ⟨k + 1, true, by omega, rfl, by simp, trivial, HI2⟩
            case measure => simp [intOf]; omega
          | false =>
            have hq := bytes_eq x n
            obtain ⟨u, hu⟩ : ∃ u, decide (x = n) = u := ⟨_, rfl⟩
            rw [hu] at hq hst
            have HI2 : Hid (u = inB (l.take (k + 1)) n) := by show _ = _; rw [hst]; rfl
            clear hst hu
            go_wp2
            go_roundw
            case rel => exact ⟨k + 1, u, by omega, by simp, by simp, trivial, HI2⟩
            case measure => simp [intOf]; omega
        · obtain rfl : k = l.length := by omega
          have HIN : Hid (b = inB l n) := by have := HI.out; rw [List.take_length] at this; exact this
          clear HI H4 hlt hk
          obtain ⟨so, sc, e2, _, _, _, h4⟩ := H1.out.2.1
          rw [strs_len] at e2 h4
          subst e2
          have H4 : Hid (_ → _) := h4
          have HLE : Hid ((sortedB l).length ≤ l.length) := sorted_len l
          have is : ((sortedB l).length : Int) ≤ 1000 := by have := HLE.out; omega
          have HRI : Hid (Rising (sortedB l)) := sorted_rising l
          have HSI : Hid (inB (sortedB l) n = inB l n) := inB_sorted l n
          have HAG : Hid (sortedB (sortedB l) = sortedB l) := sorted_again l
          generalize sortedB l = s at H4 HLE is HRI HSI HAG H1
          clear h4
          obtain ⟨w1, hw1⟩ : ∃ z, z = wr := ⟨_, rfl⟩
          subst hw1
          go_wp2
          go_loopw [9, 11] (fun a i wx => ∃ (k : Nat) (b2 : Bool), k ≤ s.length ∧ a = .bool b2 ∧ i = .int .i64 (k : Int) ∧ Hid (b2 = inB (s.take k) n) ∧ Hid (Below w1.heap.size w1 wx)) (fun _ i _ => s.length - (intOf i).toNat)
          case atStart => exact ⟨0, false, Nat.zero_le _, rfl, rfl, rfl, Below.refl _ _⟩
          case round =>
            obtain ⟨k, b2, hk, rfl, rfl, HI, HW⟩ := hrel
            by_cases hlt : k < s.length
            · obtain ⟨sb, sf, hso, hsb, hsc⟩ := H4.out (by omega)
              subst hso
              have c0 := (HW.out.cell (by exact hsb)).trans (hsc k _ (strs_at s k hlt))
              obtain ⟨x, hx⟩ : ∃ x, s.getD k ⟨#[]⟩ = x := ⟨_, rfl⟩
              have hst := inB_step s n k hlt
              rw [← HI.out, hx] at hst
              rw [hx] at c0
              have hq := bytes_eq x n
              obtain ⟨u, hu⟩ : ∃ u, decide (x = n) = u := ⟨_, rfl⟩
              rw [hu] at hq hst
              have HI2 : Hid ((b2 || u) = inB (s.take (k + 1)) n) := hst.symm
              have j0 : (k : Int) < (s.length : Int) := by omega
              have j1 : (0 : Int) ≤ (k : Int) := by omega
              clear hst HI hu
              cases k with
              | zero =>
                rw [Nat.add_zero] at c0
                clear hx hsc hsb
                cases b2 with
                | true =>
                  go_wp2
                  go_quiet (fail)
                  go_wp2
                  go_roundw
                  case rel => exact ⟨0 + 1, true, by omega, rfl, by simp, by simpa using HI2, drewNB HW.out _⟩
                  case measure => simp [intOf]; omega
                | false =>
                  go_wp2
                  go_quiet (fail)
                  go_wp2
                  go_roundw
                  case rel => exact ⟨0 + 1, u, by omega, by simp, by simp, by simpa using HI2, drewNB HW.out _⟩
                  case measure => simp [intOf]; omega
              | succ m =>
                have cm := (HW.out.cell (by exact hsb)).trans (hsc m _ (strs_at s m (by omega)))
                have hle := rising_at HRI.out hlt
                rw [hx] at hle
                obtain ⟨y, hy⟩ : ∃ y, s.getD m ⟨#[]⟩ = y := ⟨_, rfl⟩
                rw [hy] at cm hle
                have HLS : Hid (∀ W, Calls Tryd.prog 18 #[.string y, .string x] W fun e w' => e = .returned (.bool true) ∧ Below W.heap.size W w') := fun W => by
                  have := nless_any y x W
                  rw [hle] at this
                  exact this
                have hsw : sb < wr.heap.size := Nat.lt_of_lt_of_le hsb HW.out.size
                have HS0 : Hid (wr.cell? ⟨sb, sf + m, none⟩ = some (.string y) ∧ wr.cell? ⟨sb, sf + (m + 1), none⟩ = some (.string x) ∧ Hid (sb < wr.heap.size ∧ sb < wr.heap.size ∧ Below w1.heap.size w1 wr)) := ⟨cm, c0, ⟨hsw, hsw, HW.out⟩⟩
                have ec : ((m + 1 : Nat) : Int) = (m : Int) + 1 := by omega
                have f0 : (m : Int) + 1 - 1 = (m : Int) := by omega
                have fw : IntKind.i64.wrap (m : Int) = (m : Int) := by rw [IntKind.wrap_i64]; omega
                rw [ec] at j0 j1
                have f1 : (m : Int) < (s.length : Int) := by omega
                have f2 : (0 : Int) ≤ (m : Int) := by omega
                have f3 : (0 : Int) < (m : Int) + 1 := by omega
                rw [ec]
                clear hx hy hsc hsb hle ec hsw
                cases b2 with
                | true =>
                  go_wp2
                  go_region_held3 (fun w' => w'.cell? ⟨sb, sf + m, none⟩ = some (.string y) ∧ w'.cell? ⟨sb, sf + (m + 1), none⟩ = some (.string x) ∧ Hid (sb < w'.heap.size ∧ sb < w'.heap.size ∧ Below w1.heap.size w1 w')) (first | exact HS0.out | exact keepS HS0.out ((Below.refl _ _).drew) | exact keepS (by assumption) (by assumption))
                    (first
                      | (go_at_call 18; go_fit (HLS.out _); rintro e5 w5 ⟨rfl, hb5⟩))
                  rename_i hS
                  have HB5 : Hid (Below w1.heap.size w1 w5) := hS.2.2.out.2.2
                  clear hS HS0 HLS
                  go_wp2
                  go_roundw
                  case rel => exact ⟨m + 1 + 1, true, by omega, rfl, by simp, by simpa using HI2, HB5.out⟩
                  case measure => simp [intOf]; omega
                | false =>
                  go_wp2
                  go_region_held3 (fun w' => w'.cell? ⟨sb, sf + m, none⟩ = some (.string y) ∧ w'.cell? ⟨sb, sf + (m + 1), none⟩ = some (.string x) ∧ Hid (sb < w'.heap.size ∧ sb < w'.heap.size ∧ Below w1.heap.size w1 w')) (first | exact HS0.out | exact keepS HS0.out ((Below.refl _ _).drew) | exact keepS (by assumption) (by assumption))
                    (first
                      | (go_at_call 18; go_fit (HLS.out _); rintro e5 w5 ⟨rfl, hb5⟩))
                  rename_i hS
                  have HB5 : Hid (Below w1.heap.size w1 w5) := hS.2.2.out.2.2
                  clear hS HS0 HLS
                  go_wp2
                  go_roundw
                  case rel => exact ⟨m + 1 + 1, u, by omega, by simp, by simp, by simpa using HI2, HB5.out⟩
                  case measure => simp [intOf]; omega
            · obtain rfl : k = s.length := by omega
              have hbb : b2 = b := by
                have h5 := HI.out
                rw [List.take_length] at h5
                rw [h5, HSI.out, HIN.out]
              subst hbb
              have H5 : Hid (Sees wr (.slice so s.length sc) (strs s) ∧ Below w.heap.size w wr) := ⟨H1.out.2.1.below HW.out, bel2v H1.out.2.2 HW.out⟩
              have ib : (s.length : Int) ≤ (l.length : Int) := by have := HLE.out; omega
              have HL2 : Hid (s.length ≤ 100000) := by show _ ≤ _; omega
              clear HI HW H4 HRI HSI HIN hlt H1
              go_wp2_with fail
              go_at_call 20
              refine (nsorted_any _ s _ H5.out.1 HL2.out).mono ?_
              rintro e6 w6 ⟨r6, rfl, hr6, hb6⟩
              have H6 : Hid (Sees w6 (.slice so s.length sc) (strs s) ∧ Sees w6 r6 (strs s) ∧ Below w.heap.size w w6) := ⟨H5.out.1.below hb6, by rw [HAG.out] at hr6; exact hr6, bel2v H5.out.2 hb6⟩
              clear hr6 hb6 H5
              go_wp2_with fail
              go_at_call 14
              refine (texts_any _ _ _ _ _ H6.out.2.1 H6.out.1).mono ?_
              rintro e7 w7 ⟨rfl, hb7⟩
              have H7 : Hid (Below w.heap.size w w7) := bel2v H6.out.2.2 hb7
              have ea : decide (s = s) = true := by simp
              rw [ea]
              clear hb7 H6 ea
              go_wp2_with fail
              go_at_call 9
              refine (awake4_any _).mono ?_
              rintro e8 w8 ⟨rfl, hb8⟩
              have H8 : Hid (Below w.heap.size w w8) := bel2v H7.out hb8
              clear hb8 H7
              go_wp2
              go_ret
              exact ⟨by simp, H8.out⟩
end Go.Proofs.YtlnhkdiecfccaaaDoor
