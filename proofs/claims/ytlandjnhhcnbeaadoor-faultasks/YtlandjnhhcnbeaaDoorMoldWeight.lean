/- dolmenlaw3.weight: what one call answers. -/
import Derived.Test.YtlandjnhhcnbeaaDoorMoldNone
import Derived.Test.YtlandjnhhcnbeaaDoorASum
namespace Go.Proofs.YtlandjnhhcnbeaaDoor
open Go.ChangeShapes Go.WideShapes Go.ChangeAt Go.RowKit
set_option linter.unusedVariables false

/-- So many nodes and letters. -/
def bulk : (n : Nat) → Tr n → Nat
  | 0, _ => 0
  | _ + 1, none => 0
  | n + 1, some (l, x, y) => 1 + l.op.size + l.path.size + bulk n x + bulk n y
theorem bulk_zero : ∀ n, bulk n (Tr.zero n) = 0
  | 0 => rfl
  | _ + 1 => rfl
def sumTo (B : Nat → Nat) : Nat → Nat
  | 0 => 0
  | k + 1 => sumTo B k + B k
theorem sat1 (a r : Nat) : satSum a [r] = if a + r ≤ 1099511627776 then a + r else 1099511627776 := rfl

set_option maxRecDepth 4000 in
set_option maxHeartbeats 4000000 in
theorem weight_core (l : Lab) (a : Option Addr) (len cap : Nat) (w : World) (deep : Nat) (B : Nat → Nat) (hs : l.op.size ≤ maxLen) (hs2 : l.path.size ≤ maxLen) (hl : len ≤ cap) (hc : cap ≤ maxLen) (hd : deep ≤ 30)
    (HK : Hid (0 < len → ∃ b off, a = some ⟨b, off, none⟩ ∧ ∀ i, i < len → ∃ (m : Lab) (c : Option Addr) (k q : Nat), At5 w b (off + i * 5) m c k q ∧ ∀ w2, Below w.heap.size w w2 →
      Calls Tryd.prog 9 #[moldV m c k q, .int .i64 ((deep : Int) + 1)] w2 fun e w' => ∃ r : Nat, e = .returned (.int .i64 (r : Int)) ∧ Hid (r ≤ 1099511627776 ∧ (r ≤ 300 → B i ≤ r)) ∧ Below w2.heap.size w2 w')) :
    Calls Tryd.prog 9 #[moldV l a len cap, .int .i64 (deep : Int)] w fun e w' => ∃ r : Nat, e = .returned (.int .i64 (r : Int)) ∧ Hid (r ≤ 1099511627776 ∧ (r ≤ 300 → 1 + l.op.size + l.path.size + sumTo B len ≤ r)) ∧ Below w.heap.size w w' := by
  obtain ⟨kd, nm, op, pa⟩ := l
  simp only at hs hs2
  have hcm : (cap : Int) ≤ 9223372036854775807 := by unfold maxLen at hc; omega
  have hop : (op.size : Int) ≤ 9223372036854775807 := by unfold maxLen at hs; omega
  have hpa : (pa.size : Int) ≤ 9223372036854775807 := by unfold maxLen at hs2; omega
  have HM : Hid (∀ i, i < [op.size, pa.size].length → (([op.size, pa.size] : List Nat).getD i 0 : Int) ≤ 9223372036854775807) := fun i hi => by
    match i, hi with
    | 0, _ => exact hop
    | 1, _ => exact hpa
  have H1 : Hid (1 ≤ 1099511627776) := by show _ ≤ _; decide
  have HW : Hid (Below (w.heap.size + 1) (w.alloc (.cells #[.int .i64 kd, .int .i64 nm, .string op, .string pa, .slice a len cap] 24)) ((w.alloc (.cells #[.int .i64 kd, .int .i64 nm, .string op, .string pa, .slice a len cap] 24)).alloc (.cells #[.int .i64 (op.size : Int), .int .i64 (pa.size : Int)] 3))) := (Below.refl _ _).alloc (by simp) _
  have HC : Hid (∀ i, i < [op.size, pa.size].length → ((w.alloc (.cells #[.int .i64 kd, .int .i64 nm, .string op, .string pa, .slice a len cap] 24)).alloc (.cells #[.int .i64 (op.size : Int), .int .i64 (pa.size : Int)] 3)).cell? ⟨w.heap.size + 1, i, none⟩ = some (.int .i64 (([op.size, pa.size] : List Nat).getD i 0 : Nat))) := fun i hi => by
    match i, hi with
    | 0, _ => simp
    | 1, _ => simp
  have B0 : Hid (Below w.heap.size w (w.alloc (.cells #[.int .i64 kd, .int .i64 nm, .string op, .string pa, .slice a len cap] 24))) := (Below.refl _ _).alloc (Nat.le_refl _) _
  have S0 : Hid (satSum 1 [op.size, pa.size] ≤ 1099511627776 ∧ (satSum 1 [op.size, pa.size] ≤ 300 → 1 + op.size + pa.size + sumTo B 0 ≤ satSum 1 [op.size, pa.size])) := by
    refine ⟨satSum_le _ _ (by decide), fun h => ?_⟩
    have := satSum_small [op.size, pa.size] 1 (by omega)
    simp only [List.sum_cons, List.sum_nil] at this
    simp only [sumTo]
    omega
  clear hs hs2 hc hop hpa
  unfold moldV at *
  go_enter Tryd.func9, Tryd.ntmps9
  go_wp2_with fail
  go_at_call 26
  refine (sum_list [op.size, pa.size] 1 (w.heap.size + 1) 2 _ H1 HM (by simp) HC).mono ?_
  rintro e w1 ⟨rfl, hw1⟩
  have HB1 : Hid (Below (w.heap.size + 1) (w.alloc (.cells #[.int .i64 kd, .int .i64 nm, .string op, .string pa, .slice a len cap] 24)) w1) := by rw [hw1]; exact HW.out
  clear hw1 HW HC HM H1
  generalize satSum 1 [op.size, pa.size] = acc0 at *
  go_wp2_with fail
  generalize hX : w.alloc (.cells #[.int .i64 kd, .int .i64 nm, .string op, .string pa, .slice a len cap] 24) = wX at HB1 B0
  have X4 : Hid (wX.cell? ⟨w.heap.size, 4, none⟩ = some (.slice a len cap) ∧ wX.heap.size = w.heap.size + 1) := by rw [← hX]; exact ⟨by simp, by simp⟩
  clear hX
  go_loopw [5, 6] (fun nv i wr => ∃ k acc : Nat, k ≤ len ∧ nv = .int .i64 (acc : Int) ∧ i = .int .i64 (k : Int) ∧ Hid (acc ≤ 1099511627776 ∧ (acc ≤ 300 → 1 + op.size + pa.size + sumTo B k ≤ acc)) ∧ Hid (Below (w.heap.size + 1) wX wr)) (fun _ i _ => len - (intOf i).toNat)
  case atStart => exact ⟨0, acc0, by omega, rfl, rfl, S0, HB1⟩
  case round =>
    obtain ⟨k, acc, hk, rfl, rfl, HA, HR⟩ := hrel
    clear S0 HB1
    have x4 : wr.cell? ⟨w.heap.size, 4, none⟩ = some (.slice a len cap) := (HR.out.cell (by show w.heap.size < _; omega)).trans X4.out.1
    have BR : Hid (Below w.heap.size w wr) := B0.out.trans (HR.out.mono (by omega))
    by_cases hlt : k < len
    · by_cases h4 : (acc : Int) < 4000
      · obtain ⟨b, off, ea, hh⟩ := HK.out (by omega)
        subst ea
        obtain ⟨m, c, p, q, g1, g2⟩ := hh k hlt
        obtain ⟨c0, c1, c2, c3, c4⟩ := g1.below BR.out
        have HG : Hid (Calls Tryd.prog 9 _ _ _) := g2 wr BR.out
        clear hh g1 g2
        obtain ⟨kd', nm', op', pa'⟩ := m
        have hk5 : (k : Int) < (len : Int) := by omega
        have hk0 : (0 : Int) ≤ (k : Int) := by omega
        go_wp2_with fail
        go_at_call 9
        refine HG.out.mono ?_
        rintro e w2 ⟨r, rfl, HRr, hb2⟩
        have HR2 : Hid (Below (w.heap.size + 1) wX w2) := HR.out.trans (hb2.mono (by have := HR.out.size; have := X4.out.2; omega))
        clear hb2 HG c0 c1 c2 c3 c4 x4
        have HS : Hid (satSum acc [r] = if acc + r ≤ 1099511627776 then acc + r else 1099511627776) := sat1 acc r
        have HQ : Hid (satSum acc [r] ≤ 1099511627776 ∧ (satSum acc [r] ≤ 300 → 1 + op.size + pa.size + sumTo B (k + 1) ≤ satSum acc [r])) := by
          refine ⟨satSum_le _ _ HA.out.1, fun h => ?_⟩
          have h1 := HS.out
          have h2 := HA.out.2
          have h3 := HRr.out.2
          simp only [sumTo]
          split at h1 <;> omega
        have HA1 : Hid (acc ≤ 1099511627776) := HA.out.1
        have HMr : Hid (∀ i, i < [r].length → (([r] : List Nat).getD i 0 : Int) ≤ 9223372036854775807) := fun i hi => by
          match i, hi with
          | 0, _ => have := HRr.out.1; simp; omega
        have HCr : Hid (∀ i, i < [r].length → (w2.alloc (.cells #[.int .i64 (r : Int)] 3)).cell? ⟨w2.heap.size, i, none⟩ = some (.int .i64 (([r] : List Nat).getD i 0 : Nat))) := fun i hi => by
          match i, hi with
          | 0, _ => simp
        go_wp2_with fail
        go_at_call 26
        refine (sum_list [r] acc w2.heap.size 1 _ HA1 HMr (by simp) HCr).mono ?_
        rintro e w3 ⟨rfl, hw3⟩
        have HR3 : Hid (Below (w.heap.size + 1) wX w3) := by rw [hw3]; exact HR2.out.alloc (by have := HR2.out.size; have := X4.out.2; omega) _
        clear hw3 HR2 HCr HMr
        generalize satSum acc [r] = acc2 at *
        go_wp2
        go_roundw
        case rel => exact ⟨k + 1, acc2, by omega, rfl, by go_num, HQ, HR3⟩
        case measure => simp [intOf]; omega
      · have HF : Hid (acc ≤ 1099511627776 ∧ (acc ≤ 300 → 1 + op.size + pa.size + sumTo B len ≤ acc)) := ⟨HA.out.1, fun h => absurd h (by omega)⟩
        go_wp2
        go_ret
        exact ⟨acc, rfl, HF, BR.out⟩
    · have hk2 : len = k := by omega
      subst hk2
      go_wp2
      go_ret
      exact ⟨acc, rfl, HA, BR.out⟩

set_option maxHeartbeats 1000000 in
theorem weight_deep (v : Value) (l : Lab) (a : Option Addr) (len cap : Nat) (hv : v = moldV l a len cap) (w : World) : Calls Tryd.prog 9 #[v, .int .i64 31] w fun e w' => e = .returned (.int .i64 1073741824) ∧ Below w.heap.size w w' := by
  subst hv
  obtain ⟨kd, nm, op, pa⟩ := l
  unfold moldV
  go_enter Tryd.func9, Tryd.ntmps9
  go_wp2
  go_ret
  exact ⟨rfl, (Below.refl _ _).alloc (Nat.le_refl _) _⟩
theorem mold_form {w : World} : ∀ {n : Nat} {v : Value} {t : Tr n}, MoldAt w n v t → ∃ l a len cap, v = moldV l a len cap
  | 0, v, t, h => ⟨⟨0, 0, ⟨#[]⟩, ⟨#[]⟩⟩, none, 0, 0, h⟩
  | n + 1, v, none, h => ⟨⟨0, 0, ⟨#[]⟩, ⟨#[]⟩⟩, none, 0, 0, h⟩
  | n + 1, v, some (l, x, y), ⟨a, len, cap, h1, _⟩ => ⟨l, a, len, cap, h1⟩
theorem sumTo_two (B : Nat → Nat) : ∀ len, 2 ≤ len → B 0 + B 1 ≤ sumTo B len
  | 0, h => by omega
  | 1, h => by omega
  | 2, h => by simp [sumTo]
  | len + 3, h => by
    have := sumTo_two B (len + 2) (by omega)
    simp only [sumTo] at this ⊢
    omega
theorem weight_any : ∀ (n : Nat) (v : Value) (t : Tr n) (w : World) (deep : Nat), deep ≤ 31 → MoldAt w n v t →
    Calls Tryd.prog 9 #[v, .int .i64 (deep : Int)] w fun e w' => ∃ r : Nat, e = .returned (.int .i64 (r : Int)) ∧ Hid (r ≤ 1099511627776 ∧ (r ≤ 300 → bulk n t ≤ r)) ∧ Below w.heap.size w w' := by
  intro n
  induction n with
  | zero =>
    intro v t w deep hd h
    by_cases h31 : deep = 31
    · subst h31
      obtain ⟨l, a, len, cap, hv⟩ := mold_form h
      refine (weight_deep v l a len cap hv w).mono ?_
      rintro e w' ⟨rfl, hb⟩
      exact ⟨1073741824, rfl, ⟨by omega, fun h => absurd h (by omega)⟩, hb⟩
    · have hz : v = moldV ⟨0, 0, ⟨#[]⟩, ⟨#[]⟩⟩ none 0 0 := h
      subst hz
      refine (weight_core ⟨0, 0, ⟨#[]⟩, ⟨#[]⟩⟩ none 0 0 w deep (fun _ => 0) (Nat.zero_le _) (Nat.zero_le _) (by omega) (by simp) (by omega) (fun h0 => absurd h0 (by omega))).mono ?_
      rintro e w' ⟨r, rfl, hr, hb⟩
      exact ⟨r, rfl, ⟨hr.out.1, fun _ => by simp [bulk]⟩, hb⟩
  | succ n ih =>
    intro v t w deep hd h
    by_cases h31 : deep = 31
    · subst h31
      obtain ⟨l, a, len, cap, hv⟩ := mold_form h
      refine (weight_deep v l a len cap hv w).mono ?_
      rintro e w' ⟨rfl, hb⟩
      exact ⟨1073741824, rfl, ⟨by omega, fun h => absurd h (by omega)⟩, hb⟩
    · match t, h with
      | none, h =>
        have hz : v = moldV ⟨0, 0, ⟨#[]⟩, ⟨#[]⟩⟩ none 0 0 := h
        subst hz
        refine (weight_core ⟨0, 0, ⟨#[]⟩, ⟨#[]⟩⟩ none 0 0 w deep (fun _ => 0) (Nat.zero_le _) (Nat.zero_le _) (by omega) (by simp) (by omega) (fun h0 => absurd h0 (by omega))).mono ?_
        rintro e w' ⟨r, rfl, hr, hb⟩
        exact ⟨r, rfl, ⟨hr.out.1, fun _ => by simp [bulk]⟩, hb⟩
      | some (l, x, y), ⟨a, len, cap, h1, h2, h3, h4, h5, h6, h7, h8⟩ =>
        subst h1
        refine (weight_core l a len cap w deep (fun i => if i = 0 then bulk n x else if i = 1 then bulk n y else 0) h2 h3 h4 h5 (by omega) (fun h0 => ?_)).mono ?_
        · obtain ⟨b, off, ea, hh⟩ := h8 h0
          refine ⟨b, off, ea, fun i hi => ?_⟩
          obtain ⟨m, c, k, q, z, g1, g2, g3, g4⟩ := hh i hi
          refine ⟨m, c, k, q, g1, fun w2 hb => ?_⟩
          have hc := ih (moldV m c k q) z w2 (deep + 1) (by omega) (g2.below hb)
          have e1 : (((deep + 1 : Nat) : Int)) = (deep : Int) + 1 := by omega
          rw [e1] at hc
          refine hc.mono ?_
          rintro e w' ⟨r, rfl, hr, hb'⟩
          refine ⟨r, rfl, ⟨hr.out.1, fun h => ?_⟩, hb'⟩
          have := hr.out.2 h
          by_cases i0 : i = 0
          · have := g3 i0
            subst this
            simp only [i0, if_true]; assumption
          · by_cases i1 : i = 1
            · have := g4 i1
              subst this
              simp only [i1, if_true]; simpa using ‹_›
            · simp [i0, i1]
        · rintro e w' ⟨r, rfl, hr, hb⟩
          refine ⟨r, rfl, ⟨hr.out.1, fun h => ?_⟩, hb⟩
          have h9 := hr.out.2 h
          simp only [bulk]
          by_cases l2 : 2 ≤ len
          · have := sumTo_two (fun i => if i = 0 then bulk n x else if i = 1 then bulk n y else 0) len l2
            simp only [if_true] at this
            have e : (if (1 : Nat) = 0 then bulk n x else bulk n y) = bulk n y := by simp
            simp only [e] at this
            omega
          · rw [h7 (by omega), bulk_zero]
            by_cases l1 : len = 1
            · subst l1
              simp only [sumTo, if_true] at h9
              omega
            · have l0 : len = 0 := by omega
              subst l0
              rw [h6 rfl, bulk_zero]
              simp only [sumTo] at h9
              omega
end Go.Proofs.YtlandjnhhcnbeaaDoor
