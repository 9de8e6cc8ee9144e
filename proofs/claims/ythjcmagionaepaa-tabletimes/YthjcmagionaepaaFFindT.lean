/- package table: Find; sort.Search. -/
import Derived.Test.YthjcmagionaepaaFSmallT
import Derived.Test.YthjcmagionaepaaGLife
import Derived.Deep.RegionHeld3
import Derived.Deep.QuietTactic
import Derived.BigQuiet
import Derived.Shelf.Abstract
namespace Go.Proofs.Ythjcmagionaepaa
open Go.RowKit Kit
set_option linter.unusedVariables false

set_option maxRecDepth 100000 in
set_option maxHeartbeats 4000000 in
theorem ssearch_any (g : Nat) (cb : Array Value) (n : Nat) (p : Nat → Bool) (w : World) (hsz : n < 4611686018427387904) (hg : ∀ args w, (callFunc g args).run Try.prog w = .ok (.enter g args) w)
    (hf : ∀ (W : World) (i : Nat), Below w.heap.size w W → i < n → Calls Try.prog g (#[.int .i64 i] ++ cb) W fun e w' => e = .returned (.bool (p i)) ∧ Below W.heap.size W w') :
    Calls Try.prog 18 #[.int .i64 n, .func (.func g) #[] cb] w fun e w' => (∃ r : Nat, e = .returned (.int .i64 (r : Int)) ∧ r ≤ n ∧ (0 < r → p (r - 1) = false) ∧ (r < n → p r = true)) ∧ Below w.heap.size w w' := by
  have HF : Hid _ := hf
  have hni : (n : Int) < 4611686018427387904 := by omega
  clear hf
  go_enter Try.func18, Try.ntmps18
  go_wp2
  go_loopw [5, 6] (fun s5 s6 wr => ∃ (lo hi : Nat), s5 = .int .i64 lo ∧ s6 = .int .i64 hi ∧ lo ≤ hi ∧ hi ≤ n ∧ Hid (Below w.heap.size w wr ∧ (0 < lo → p (lo - 1) = false) ∧ (hi < n → p hi = true))) (fun s5 s6 _ => (intOf s6).toNat - (intOf s5).toNat)
  case atStart => exact ⟨0, n, rfl, rfl, Nat.zero_le _, Nat.le_refl _, ⟨Below.refl _ _, fun h => absurd h (by omega), fun h => absurd h (by omega)⟩⟩
  case round =>
    obtain ⟨lo, hi, rfl, rfl, hlh, hin, I⟩ := hrel
    by_cases hlt : lo < hi
    · have hc := HF.out wr ((lo + hi) / 2) I.out.1 (by omega)
      rw [show (((lo + hi) / 2 : Nat) : Int) = ((lo : Int) + (hi : Int)) / 2 by omega] at hc
      have hlti : (lo : Int) < (hi : Int) := by omega
      have hii : (hi : Int) ≤ (n : Int) := by omega
      have hl0 : (0 : Int) ≤ (lo : Int) := by omega
      cases hp : p ((lo + hi) / 2) <;> rw [hp] at hc
      · have HP : Hid (p ((lo + hi) / 2) = false) := hp
        clear hp
        go_wp2_with (go_at_fn g; refine hc.mono ?_; rintro e w' ⟨rfl, hb⟩)
        go_roundw
        case rel => exact ⟨(lo + hi) / 2 + 1, hi, by rw [show ((lo : Int) + (hi : Int)) / 2 + 1 = (((lo + hi) / 2 + 1 : Nat) : Int) by omega], rfl, by omega, hin, ⟨bel_tr I.out.1 hb, fun _ => HP.out, I.out.2.2⟩⟩
        case measure => simp [intOf]; omega
      · have HP : Hid (p ((lo + hi) / 2) = true) := hp
        clear hp
        go_wp2_with (go_at_fn g; refine hc.mono ?_; rintro e w' ⟨rfl, hb⟩)
        go_roundw
        case rel => exact ⟨lo, (lo + hi) / 2, rfl, by rw [show ((lo : Int) + (hi : Int)) / 2 = (((lo + hi) / 2 : Nat) : Int) by omega], by omega, by omega, ⟨bel_tr I.out.1 hb, I.out.2.1, fun _ => HP.out⟩⟩
        case measure => simp [intOf]; omega
    · obtain rfl : hi = lo := by omega
      have hlti : ¬ (hi : Int) < (hi : Int) := by omega
      go_wp2
      go_ret
      exact ⟨⟨hi, rfl, hin, I.out.2.1, I.out.2.2⟩, I.out.1⟩

def bornP (e : Int) (xs : List Rw) (i : Nat) : Bool := match xs[i]? with | some x => decide (e < x.born) | none => false
theorem bornP_at {e : Int} {xs : List Rw} {i : Nat} (h : i < xs.length) : bornP e xs i = decide (e < xs[i].born) := by unfold bornP; rw [List.getElem?_eq_getElem h]
/-- What is found, by the place of the first row that is born later. -/
theorem found_by {t : Tb} (h : Inv t) (name : ByteArray) (e : Int) {xs : List Rw} (hx : xs = t.rs.filter (ofN name)) {r : Nat} (hr : r ≤ xs.length) (h1 : 0 < r → bornP e xs (r - 1) = false) (h2 : r < xs.length → bornP e xs r = true) :
    (r = 0 → foundI t.rs name e = 0 ∧ foundB t.rs name e = false) ∧ ∀ (h0 : 0 < r), (holdsB (xs[r - 1]'(by omega)).born (xs[r - 1]'(by omega)).died e = true → foundI t.rs name e = (xs[r - 1]'(by omega)).ino ∧ foundB t.rs name e = true) ∧ (holdsB (xs[r - 1]'(by omega)).born (xs[r - 1]'(by omega)).died e = false → foundI t.rs name e = 0 ∧ foundB t.rs name e = false) := by
  have hmem : ∀ x, x ∈ xs ↔ x ∈ t.rs ∧ x.name = name := fun x => by rw [hx, List.mem_filter, ofN_iff]
  have hb : xs.Pairwise fun a b => a.born ≤ b.born := by
    have h3 := (inv_born h).filter (ofN name)
    rw [← hx] at h3
    exact h3.imp_of_mem fun {a b} ha hb hab => hab (((hmem a).1 ha).2.trans ((hmem b).1 hb).2.symm)
  have hn : xs.Pairwise fun a b => a.died ≠ 0 ∧ a.died ≤ b.born := by
    have h3 := h.nxt.filter (ofN name)
    rw [← hx] at h3
    exact h3.imp_of_mem fun {a b} ha hb hab => hab (((hmem a).1 ha).2.trans ((hmem b).1 hb).2.symm)
  have hno : (∀ j (hj : j < xs.length), holdsB xs[j].born xs[j].died e = false) → foundI t.rs name e = 0 ∧ foundB t.rs name e = false := fun hall => by
    have hf : foundB t.rs name e = false := by
      cases hc : foundB t.rs name e with
      | false => rfl
      | true =>
        obtain ⟨y, hy, hf⟩ := found_iff.1 hc
        obtain ⟨k1, k2, k3⟩ := find_iff.1 hf
        obtain ⟨j, hj, rfl⟩ := List.getElem_of_mem ((hmem y).2 ⟨hy, k1⟩)
        have := hall j hj
        rw [hold_iff.2 ⟨k2, k3⟩] at this
        cases this
    exact ⟨found_not hf, hf⟩
  have hlate : ∀ j (hj : j < xs.length), r ≤ j → holdsB xs[j].born xs[j].died e = false := fun j hj hrj => by
    have h4 := h2 (by omega)
    rw [bornP_at (by omega), decide_eq_true_eq] at h4
    have h5 : xs[r].born ≤ xs[j].born := by
      rcases Nat.lt_or_ge r j with h6 | h6
      · exact List.pairwise_iff_getElem.1 hb r j (by omega) hj h6
      · have : j = r := by omega
        subst this; exact Int.le_refl _
    cases hc : holdsB xs[j].born xs[j].died e with
    | false => rfl
    | true =>
      have := (hold_iff.1 hc).1
      omega
  refine ⟨fun h0 => hno fun j hj => hlate j hj (by omega), fun h0 => ⟨fun hh => ?_, fun hh => hno fun j hj => ?_⟩⟩
  · obtain ⟨k1, k2⟩ := (hmem xs[r - 1]).1 (List.getElem_mem _)
    exact find_of h k1 (find_iff.2 ⟨k2, hold_iff.1 hh⟩)
  · rcases Nat.lt_or_ge j r with h6 | h6
    · rcases Nat.lt_or_ge j (r - 1) with h7 | h7
      · have h8 := List.pairwise_iff_getElem.1 hn j (r - 1) hj (by omega) h7
        have h9 := h1 h0
        rw [bornP_at (by omega), decide_eq_false_iff_not] at h9
        cases hc : holdsB xs[j].born xs[j].died e with
        | false => rfl
        | true =>
          have := (hold_iff.1 hc).2
          omega
      · have : j = r - 1 := by omega
        subst this
        exact hh
    · exact hlate j hj h6

set_option maxRecDepth 4000 in
set_option maxHeartbeats 4000000 in
theorem cfind_any (c d i : Nat) (e : Int) (v : Value) (xs : List Rw) (W : World) (hc : W.heap[c]? = some (.cells #[v] 34)) (hd : W.heap[d]? = some (.cells #[.int .i64 e] 3)) (hs : SeesE rwE W v xs) (hi : i < xs.length) (hn : xs.length ≤ 100000) :
    Calls Try.prog 19 #[.int .i64 (i : Int), .pointer (some ⟨c, 0, none⟩), .pointer (some ⟨d, 0, none⟩)] W fun r w' => r = .returned (.bool (bornP e xs i)) ∧ Below W.heap.size W w' := by
  obtain ⟨ao, cap, rfl⟩ := hs.form
  obtain ⟨b, off, rfl, _, hb, hcc⟩ := rw_cells hs (by omega)
  have c2 := (hcc i hi).2.2.1
  have HV : Hid (bornP e xs i = decide (e < xs[i].born)) := bornP_at hi
  obtain ⟨y, hy⟩ : ∃ y, y = xs[i].born := ⟨_, rfl⟩
  rw [← hy] at c2 HV
  obtain ⟨z, hz⟩ : ∃ z, z = bornP e xs i := ⟨_, rfl⟩
  rw [← hz] at HV ⊢
  obtain ⟨n, hn'⟩ : ∃ n, n = xs.length := ⟨_, rfl⟩
  rw [← hn'] at hc
  have hlt : (i : Int) < (n : Int) := by omega
  have hge : (0 : Int) ≤ (i : Int) := by omega
  have hn2 : (n : Int) ≤ 100000 := by omega
  have q1 : W.cell? ⟨c, 0, none⟩ = some (.slice (some ⟨b, off, none⟩) n cap) := blk_cell hc rfl
  have q2 : W.cell? ⟨d, 0, none⟩ = some (.int .i64 e) := blk_cell hd rfl
  have HB : Hid (∀ k, Below W.heap.size W (W.drewN k)) := fun k => drewNB (Below.refl _ _) k
  clear hs hcc hc hd hi hn hy hz hn'
  go_enter Try.func19, Try.ntmps19
  go_wp2_with fail
  go_quiet (fail)
  go_wp2
  go_ret
  exact ⟨by rw [HV.out]; rfl, HB.out _⟩

set_option maxRecDepth 4000 in
set_option maxHeartbeats 8000000 in
theorem tfind_core (pv : Value) (mo : Option Nat) (name : ByteArray) (ep fI : Int) (fB : Bool) (v : Value) (xs : List Rw) (w : World)
    (hk : ∀ X, Below w.heap.size w X → Calls Try.prog 17 #[pv] X fun x w' => x = .returned (.map mo) ∧ w' = X)
    (hlk : ∀ X, Below w.heap.size w X → (Instr.lookup 38 (.map mo) (.string name) false).run Try.prog X = .ok v X)
    (hs : SeesE rwE w v xs) (hn : xs.length ≤ 900)
    (hres : ∀ r : Nat, r ≤ xs.length → (0 < r → bornP ep xs (r - 1) = false) → (r < xs.length → bornP ep xs r = true) →
      (r = 0 → fI = 0 ∧ fB = false) ∧ ∀ (h0 : 0 < r) (hr : r ≤ xs.length), (holdsB (xs[r - 1]'(by omega)).born (xs[r - 1]'(by omega)).died ep = true → fI = (xs[r - 1]'(by omega)).ino ∧ fB = true) ∧ (holdsB (xs[r - 1]'(by omega)).born (xs[r - 1]'(by omega)).died ep = false → fI = 0 ∧ fB = false)) :
    Calls Try.prog 10 #[pv, .string name, .int .i64 ep] w fun x w' => x = .returned (.tuple #[.int .i64 fI, .bool fB]) ∧ Below w.heap.size w w' := by
  obtain ⟨ao, cap, rfl⟩ := hs.form
  obtain ⟨n, hnn⟩ : ∃ n, n = xs.length := ⟨_, rfl⟩
  rw [← hnn] at hs hlk
  have HN : Hid (n = xs.length ∧ xs.length ≤ 900) := ⟨hnn, hn⟩
  have HS : Hid (SeesE rwE w (.slice ao n cap) xs) := hs
  have HR : Hid _ := hres
  have hni : (n : Int) ≤ 900 := by omega
  obtain ⟨W0, hW0⟩ : ∃ z, z = w.alloc (.cells #[.int .i64 ep] 3) := ⟨_, rfl⟩
  have hb0 : Below w.heap.size w W0 := by rw [hW0]; exact bel_newG _ _
  have hc0 : W0.heap[w.heap.size]? = some (.cells #[.int .i64 ep] 3) := by rw [hW0]; exact (MapKept.heap_alloc w _).1
  have hz0 : W0.heap.size = w.heap.size + 1 := by rw [hW0]; simp
  have HK : Hid (Calls Try.prog 17 #[pv] W0 fun x w' => x = .returned (.map mo) ∧ w' = W0) := hk W0 hb0
  have hl0 := hlk W0 hb0
  obtain ⟨W, hW⟩ : ∃ z, z = W0.alloc (.cells #[.slice ao n cap] 34) := ⟨_, rfl⟩
  have hcW : W.heap[w.heap.size + 1]? = some (.cells #[.slice ao n cap] 34) := by
    rw [hW]
    have := (MapKept.heap_alloc W0 (.cells #[.slice ao n cap] 34)).1
    rw [hz0] at this
    exact this
  have hbW : Below w.heap.size w W := by
    rw [hW]
    exact bel_tr hb0 (bel_newG _ _)
  have hcE : W.heap[w.heap.size]? = some (.cells #[.int .i64 ep] 3) := by
    rw [hW]
    exact blk_below (bel_newG _ _) hc0
  have HW : Hid (Below w.heap.size w W ∧ W.heap[w.heap.size + 1]? = some (.cells #[.slice ao n cap] 34) ∧ W.heap[w.heap.size]? = some (.cells #[.int .i64 ep] 3)) := ⟨hbW, hcW, hcE⟩
  have HC : Hid (Calls Try.prog 18 #[.int .i64 (n : Int), .func (.func 19) #[] #[.pointer (some ⟨w.heap.size + 1, 0, none⟩), .pointer (some ⟨w.heap.size, 0, none⟩)]] W fun e w' => ∃ r : Nat, e = .returned (.int .i64 (r : Int)) ∧ r ≤ n ∧ Hid ((0 < r → bornP ep xs (r - 1) = false) ∧ (r < n → bornP ep xs r = true) ∧ Below W.heap.size W w')) := by
    refine (ssearch_any 19 _ n (bornP ep xs) W (by omega) (enter9 Try.func19 (by kernel_rfl) rfl) (fun W2 i hb3 hi => ?_)).mono ?_
    · exact cfind_any _ _ i ep _ xs W2 (blk_below hb3 hcW) (blk_below hb3 hcE) ((hs.below hbW).below hb3) (by omega) (by omega)
    · rintro e w' ⟨⟨r, rfl, s1, s2, s3⟩, hb4⟩
      exact ⟨r, rfl, s1, s2, s3, hb4⟩
  have qW : W.cell? ⟨w.heap.size + 1, 0, none⟩ = some (.slice ao n cap) := blk_cell hcW rfl
  have hlW := blk_lt hcW
  have hlE := blk_lt hcE
  clear hk hlk hs hn hres hnn hb0 hc0 hbW hcW hcE
  go_enter Try.func10, Try.ntmps10
  go_upto_region 1 with fail
  rw [← hW0]
  clear hW0
  go_upto_region 2 with (go_at_call 17; refine HK.out.mono ?_; rintro e w1 ⟨rfl, hw1⟩; subst w1)
  rw [← hW]
  clear hW hl0 hz0 HK
  go_upto_region 3 with (go_at_call 18; refine HC.out.mono ?_; rintro e W1 ⟨r, rfl, hr, HQ⟩)
  clear HC qW
  have HW1 : Hid (Below w.heap.size w W1 ∧ W1.heap[w.heap.size + 1]? = some (.cells #[.slice ao n cap] 34) ∧ W1.heap[w.heap.size]? = some (.cells #[.int .i64 ep] 3)) := ⟨bel_tr HW.out.1 HQ.out.2.2, blk_below HQ.out.2.2 HW.out.2.1, blk_below HQ.out.2.2 HW.out.2.2⟩
  have HRR := HR.out r (by have := HN.out; omega) HQ.out.1 (fun h => HQ.out.2.1 (by have := HN.out; omega))
  clear HR HW HQ hlW hlE
  have hne := ownW_nonempty W1
  by_cases h0 : r = 0
  · obtain ⟨rfl, rfl⟩ := HRR.1 h0
    subst h0
    clear HRR
    refine wp_region_own (by kernel_rfl) (by kernel_rfl) ?_
    repeat (go_big_quiet_step (fail))
    refine wpQuiet_nil ?_
    rintro _ ⟨m, rfl⟩
    have HM : Hid (Below W1.heap.size W1 m.1) := m.2
    go_wp2
    go_ret2
    exact ⟨rfl, bel_tr HW1.out.1 HM.out⟩
  · have hrp : 0 < r := Nat.pos_of_ne_zero h0
    have hrx : r ≤ xs.length := by have := HN.out; omega
    have HR2 := HRR.2 hrp hrx
    obtain ⟨b, off, hao, hb, hcc⟩ : ∃ b off, ao = some ⟨b, off, none⟩ ∧ b < w.heap.size ∧ _ := by
      obtain ⟨b, off, h1, _, h2, h3⟩ := rw_cells HS.out (by omega)
      exact ⟨b, off, h1, h2, h3⟩
    subst hao
    obtain ⟨_, d1, d2, d3⟩ := hcc (r - 1) (by omega)
    have hbW1 := HW1.out.1
    have c1 : W1.cell? ⟨b, off + (r - 1) * 4 + 1, none⟩ = some _ := (hbW1.cell (by exact hb)).trans d1
    have q1 : ∀ n2 : OwnW W1, n2.1.cell? ⟨w.heap.size + 1, 0, none⟩ = some (.slice (some ⟨b, off, none⟩) n cap) := fun n2 => blk_cell (blk_below n2.2 HW1.out.2.1) rfl
    have q2 : ∀ n2 : OwnW W1, n2.1.cell? ⟨w.heap.size, 0, none⟩ = some (.int .i64 ep) := fun n2 => blk_cell (blk_below n2.2 HW1.out.2.2) rfl
    have q3 : ∀ n2 : OwnW W1, n2.1.cell? ⟨b, off + (r - 1) * 4 + 2, none⟩ = some (.int .i64 (xs[r - 1]'(by omega)).born) := fun n2 => (n2.2.cell (by exact Nat.lt_of_lt_of_le hb hbW1.size)).trans ((hbW1.cell (by exact hb)).trans d2)
    have q4 : ∀ n2 : OwnW W1, n2.1.cell? ⟨b, off + (r - 1) * 4 + 3, none⟩ = some (.int .i64 (xs[r - 1]'(by omega)).died) := fun n2 => (n2.2.cell (by exact Nat.lt_of_lt_of_le hb hbW1.size)).trans ((hbW1.cell (by exact hb)).trans d3)
    have c1a : ∀ n2 : OwnW W1, n2.1.cell? ⟨b, off + (r - 1) * 4 + 1, none⟩ = some (.int .i64 (xs[r - 1]'(by omega)).ino) := fun n2 => (n2.2.cell (by exact Nat.lt_of_lt_of_le hb hbW1.size)).trans c1
    have HHO : Hid (∀ n2 : OwnW W1, Calls Try.prog 20 #[.agg #[.int .i64 (xs[r - 1]'(by omega)).born, .int .i64 (xs[r - 1]'(by omega)).died], .int .i64 ep] n2.1 fun e w'' => e = .returned (.bool (holdsB (xs[r - 1]'(by omega)).born (xs[r - 1]'(by omega)).died ep)) ∧ ∃ m : OwnW W1, w'' = m.1) := fun n2 => Calls.own_of (fholds_any _ _ _ _)
    obtain ⟨x, hx⟩ : ∃ x, x = xs[r - 1]'(by omega) := ⟨_, rfl⟩
    rw [← hx] at HHO HR2
    simp only [← hx] at q3 q4 c1a
    obtain ⟨y0, y1, y2, y3⟩ := x
    simp only at HHO HR2 q3 q4 c1a
    have hr0 : ((r : Int) == 0) = false := beq_eq_false_iff_ne.2 (by omega)
    have hr1 : ((r : Int) - 1) = ((r - 1 : Nat) : Int) := by omega
    have hr2 : ((r - 1 : Nat) : Int) < (n : Int) := by omega
    have hr3 : (0 : Int) ≤ ((r - 1 : Nat) : Int) := by omega
    have hr4 : (r : Int) ≤ 900 := by omega
    have hr5 : (0 : Int) < (r : Int) := by omega
    clear HRR hcc d1 d2 d3 c1 hbW1 HS hx HN
    obtain ⟨hb', hhb⟩ : ∃ z, z = holdsB y2 y3 ep := ⟨_, rfl⟩
    rw [← hhb] at HHO HR2
    clear hhb
    refine wp_region_own (by kernel_rfl) (by kernel_rfl) ?_
    cases hb' with
    | true =>
      obtain ⟨rfl, rfl⟩ := HR2.1 rfl
      clear HR2
      repeat (go_big_quiet_step (exact HHO.out _))
      refine wpQuiet_nil ?_
      rintro _ ⟨m, rfl⟩
      have HM : Hid (Below W1.heap.size W1 m.1) := m.2
      have e1 := q1 m
      have e2 := c1a m
      clear q1 q2 q3 q4 c1a
      go_wp2
      go_ret2
      exact ⟨rfl, bel_tr HW1.out.1 HM.out⟩
    | false =>
      obtain ⟨rfl, rfl⟩ := HR2.2 rfl
      clear HR2
      repeat (go_big_quiet_step (exact HHO.out _))
      refine wpQuiet_nil ?_
      rintro _ ⟨m, rfl⟩
      have HM : Hid (Below W1.heap.size W1 m.1) := m.2
      clear q1 q2 q3 q4 c1a
      go_wp2
      go_ret2
      exact ⟨rfl, bel_tr HW1.out.1 HM.out⟩
theorem zero_tEnts (w : World) : (zeroValue 34).run Try.prog w = .ok (.slice none 0 0) w := Try.zeroValue34 w
theorem MapR.lookup {w X : World} {B : Nat} {mo : Option Nat} {g : ByteArray → Option Value} {ρ : ByteArray → List Rw} (h : MapR w B mo g ρ) (hb : Below w.heap.size w X) {name : ByteArray} (hn : name.size ≤ maxLen) :
    (Instr.lookup 38 (.map mo) (.string name) false).run Try.prog X = .ok (rv g name) X := by
  rcases (h.below hb).map with ⟨rfl, h1⟩ | ⟨b, rfl, _, h2⟩
  · have := look_nilS (P := Try.prog) (k := 9) (t := 38) X Try.underlying9 Try.underlying38 (zero_tEnts X) hn
    rw [this]
    unfold rv
    rw [h1]
    rfl
  · exact h2.look Try.underlying9 Try.underlying38 (zero_tEnts X) hn
theorem tfind_any {w : World} {p B : Nat} {F : Nat → Prop} {t : Tb} (name : ByteArray) (ep : Int) (h : TAt w p B F t) (hi : Inv t) (hl : t.rs.length ≤ 900) (hn : name.size ≤ maxLen) :
    Calls Try.prog 10 #[.pointer (some ⟨p, 0, none⟩), .string name, .int .i64 ep] w fun x w' => x = .returned (.tuple #[.int .i64 (foundI t.rs name ep), .bool (foundB t.rs name ep)]) ∧ Below w.heap.size w w' := by
  obtain ⟨mo, g, h1, _⟩ := h
  refine tfind_core _ mo name ep _ _ (rv g name) (t.rs.filter (ofN name)) w (fun X hX => tkept_any (h1.below hX).cell) (fun X hX => h1.rows.lookup hX hn) (h1.rows.rowv name).sees (Nat.le_trans (List.length_filter_le _ _) hl) (fun r hr k1 k2 => ?_)
  have := found_by hi name ep rfl hr k1 k2
  exact ⟨this.1, fun h0 _ => this.2 h0⟩
theorem tfind_nil (w : World) (name : ByteArray) (ep : Int) (hn : name.size ≤ maxLen) : Calls Try.prog 10 #[.pointer none, .string name, .int .i64 ep] w fun x w' => x = .returned (.tuple #[.int .i64 0, .bool false]) ∧ Below w.heap.size w w' := by
  refine tfind_core _ none name ep _ _ (.slice none 0 0) [] w (fun X hX => tkept_nil X) (fun X hX => look_nilS (P := Try.prog) (k := 9) (t := 38) X Try.underlying9 Try.underlying38 (zero_tEnts X) hn) (seesE_nil rwE w) (by simp) (fun r hr k1 k2 => ⟨fun _ => ⟨rfl, rfl⟩, fun h0 h1 => absurd h1 (by simp; omega)⟩)
end Go.Proofs.Ythjcmagionaepaa
