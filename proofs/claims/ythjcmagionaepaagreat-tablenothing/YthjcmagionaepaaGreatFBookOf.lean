/- package table: bookOf. -/
import Derived.Test.YthjcmagionaepaaGreatFAllT
import Derived.Test.YthjcmagionaepaaGreatGLife
import Derived.Test.YthjcmagionaepaaGreatFNeed2
namespace Go.Proofs.YthjcmagionaepaaGreat
open Go.RowKit Kit
set_option linter.unusedVariables false

/-- Rows' spans, each one's id its place. -/
def thsO (l : List Rw) : List Th := l.zipIdx.map fun x => (⟨(x.2 : Int), x.1.born, x.1.died⟩ : Th)
theorem thsO_step (l : List Rw) (i : Nat) (hi : i < l.length) : thsO (l.take (i + 1)) = thsO (l.take i) ++ [⟨(i : Int), l[i].born, l[i].died⟩] := by
  unfold thsO
  rw [List.take_add_one, List.getElem?_eq_getElem hi, List.zipIdx_append, List.map_append]
  have : (l.take i).length = i := by rw [List.length_take]; omega
  simp [this]
theorem thsO_len (l : List Rw) : (thsO l).length = l.length := by simp [thsO]
theorem thsO_lt (l : List Rw) : ∀ t ∈ thsO l, t.id < (l.length : Int) := by
  intro t ht
  unfold thsO at ht
  obtain ⟨x, hx, rfl⟩ := List.mem_map.1 ht
  have h := List.mem_zipIdx_iff_getElem?.1 hx
  have := (List.getElem?_eq_some_iff.1 h).1
  show (x.2 : Int) < _
  omega
theorem thsO_asc (l : List Rw) : ∀ i, i ≤ l.length → Asc (thsO (l.take i))
  | 0, _ => by simp [thsO, Asc]
  | i + 1, h => by
    rw [thsO_step l i (by omega)]
    unfold Asc
    rw [List.pairwise_append]
    refine ⟨thsO_asc l i (by omega), List.pairwise_singleton _ _, fun a ha b hb => ?_⟩
    rw [List.mem_singleton] at hb
    subst hb
    have := thsO_lt _ a ha
    rw [List.length_take] at this
    show a.id < (i : Int)
    omega
theorem put_last {ps : List Th} {i b : Int} (h : ∀ t ∈ ps, t.id < i) : putT ps ⟨i, b, 0⟩ = ps ++ [⟨i, b, 0⟩] := by
  have hl : lowT ps i = ps.length := by
    unfold lowT
    rw [List.countP_eq_length]
    intro t ht
    exact decide_eq_true (h t ht)
  unfold putT
  simp only [hl]
  rw [List.take_length, List.drop_length, List.append_nil]
theorem died_last {ps : List Th} {i b d : Int} (h : ∀ t ∈ ps, t.id < i) : diedT (ps ++ [⟨i, b, 0⟩]) i d = ps ++ [⟨i, b, d⟩] := by
  unfold diedT
  rw [List.map_append]
  congr 1
  · conv => rhs; rw [← List.map_id ps]
    refine List.map_congr_left fun t ht => ?_
    rw [if_neg (by have := h t ht; omega)]
    rfl
  · simp
theorem has_last {ps : List Th} {i : Int} (h : ∀ t ∈ ps, t.id < i) : hasT ps i = false := by
  unfold hasT
  rw [List.any_eq_false]
  intro t ht
  simp only [decide_eq_true_eq]
  have := h t ht
  omega
theorem asc_last {ps : List Th} {i b : Int} (h : ∀ t ∈ ps, t.id < i) (ha : Asc ps) : Asc (ps ++ [⟨i, b, 0⟩]) := by
  unfold Asc
  rw [List.pairwise_append]
  exact ⟨ha, List.pairwise_singleton _ _, fun a h1 b hb => by rw [List.mem_singleton] at hb; subst hb; exact h a h1⟩
/-- A span that a book takes. -/
def SpanOk (r : Rw) : Prop := 1 ≤ r.born ∧ r.born ≤ maxE ∧ r.died ≤ maxE ∧ (r.died = 0 ∨ r.born ≤ r.died)
set_option maxRecDepth 4000 in
set_option maxHeartbeats 4000000 in
theorem tbook_any (v : Value) (l : List Rw) (w : World) (hs : SeesE rwE w v l) (hl : l.length ≤ 900) (hok : ∀ r ∈ l, SpanOk r) :
    Calls Tryz.prog 38 #[v] w fun x w' => ∃ p vv, x = .returned (.pointer (some ⟨p, 0, none⟩)) ∧ BookAt w' p w.heap.size vv (thsO l) ∧ Below w.heap.size w w' := by
  obtain ⟨ao, cap, rfl⟩ := hs.form
  obtain ⟨n, hn⟩ : ∃ n, n = l.length := ⟨_, rfl⟩
  rw [← hn] at hs ⊢
  have HN : Hid (n = l.length ∧ n ≤ 900) := ⟨hn, by omega⟩
  have HS : Hid (SeesE rwE w (.slice ao n cap) l) := hs
  have HOK : Hid (∀ r ∈ l, SpanOk r) := hok
  have hn9 : (n : Int) ≤ 900 := by omega
  obtain ⟨W, hW⟩ : ∃ z, z = w.alloc (.cells #[.slice none 0 0] 104) := ⟨_, rfl⟩
  have HW : Hid (BookAt W w.heap.size w.heap.size (.slice none 0 0) (thsO (l.take 0)) ∧ Below w.heap.size w W) := by rw [hW]; exact ⟨by simpa [thsO] using new_book w, bel_newG _ _⟩
  have HNW : Hid (Calls Tryz.prog 53 #[] w fun e w' => e = .returned (.pointer (some ⟨w.heap.size, 0, none⟩)) ∧ w' = W) := by rw [hW]; exact fnew_any w
  clear hs hn hl hok hW
  go_enter Tryz.func38, Tryz.ntmps38
  go_wp2_with (go_at_call 53; refine HNW.out.mono ?_; rintro e w1 ⟨rfl, hw⟩; subst w1)
  go_loopw [9] (fun s9 wr => ∃ (i : Nat) (vv : Value), i ≤ n ∧ s9 = .int .i64 (i : Int) ∧ Hid (BookAt wr w.heap.size w.heap.size vv (thsO (l.take i)) ∧ Below w.heap.size w wr)) (fun s9 _ => n - (intOf s9).toNat)
  case atStart => exact ⟨0, _, Nat.zero_le _, rfl, HW.out⟩
  case round =>
    obtain ⟨i, vv, hi, rfl, HI⟩ := hrel
    clear HW HNW
    by_cases hlt : i < n
    · have hil : (i : Int) < (n : Int) := by omega
      have hi0 : (0 : Int) ≤ (i : Int) := by omega
      have hik : i < l.length := by have := HN.out; omega
      obtain ⟨b, off, hao, hnl, hb, hc⟩ := rw_cells HS.out (by omega)
      clear hnl
      subst hao
      obtain ⟨c0, c1, c2, c3⟩ := hc i hik
      replace c0 := (HI.out.2.cell (by exact hb)).trans c0
      replace c1 := (HI.out.2.cell (by exact hb)).trans c1
      replace c2 := (HI.out.2.cell (by exact hb)).trans c2
      replace c3 := (HI.out.2.cell (by exact hb)).trans c3
      have hST := thsO_step l i hik
      have hOK := HOK.out _ (List.getElem_mem hik)
      have hAS := thsO_asc l i (by omega)
      have hLT : ∀ t ∈ thsO (l.take i), t.id < (i : Int) := fun t ht => by
        have := thsO_lt _ t ht
        rw [List.length_take] at this
        omega
      have hPL : (thsO (l.take i)).length ≤ 899 := by rw [thsO_len, List.length_take]; have := HN.out; omega
      obtain ⟨x, hx⟩ : ∃ x, x = l[i] := ⟨_, rfl⟩
      rw [← hx] at c0 c1 c2 c3 hST hOK
      obtain ⟨xn, xi, xb, xd⟩ := x
      simp only at c0 c1 c2 c3 hST
      obtain ⟨ps, hps⟩ : ∃ ps, ps = thsO (l.take i) := ⟨_, rfl⟩
      rw [← hps] at HI hST hAS hLT hPL
      have HST : Hid (thsO (l.take (i + 1)) = ps ++ [⟨(i : Int), xb, xd⟩]) := hST
      obtain ⟨W1, hW1⟩ : ∃ z, z = wr.alloc (.cells #[.string xn, .int .i64 xi, .int .i64 xb, .int .i64 xd] 49) := ⟨_, rfl⟩
      have hbx : W1.heap[wr.heap.size]? = some (.cells #[.string xn, .int .i64 xi, .int .i64 xb, .int .i64 xd] 49) := by rw [hW1]; exact (MapKept.heap_alloc wr _).1
      have hbe1 : Below wr.heap.size wr W1 := by rw [hW1]; exact bel_newG _ _
      have hB1 := HI.out.1.below hbe1
      have HBR : Hid (Calls Tryz.prog 54 #[.pointer (some ⟨w.heap.size, 0, none⟩), .int .i64 (i : Int), .int .i64 xb] W1 fun e w' => e = .returned .nilIface ∧ ∃ v', Hid (BookAt w' w.heap.size w.heap.size v' (ps ++ [⟨(i : Int), xb, 0⟩]) ∧ Below w.heap.size w w' ∧ w'.heap[wr.heap.size]? = some (.cells #[.string xn, .int .i64 xi, .int .i64 xb, .int .i64 xd] 49))) := by
        refine (fbirth_good w.heap.size w.heap.size vv ps i xb W1 hB1 hAS (by omega) ⟨hOK.1, hOK.2.1, has_last hLT⟩).mono ?_
        rintro e w' ⟨rfl, v', k1, k2⟩
        rw [put_last hLT] at k1
        refine ⟨rfl, v', k1, k2.below (bel_tr HI.out.2 hbe1) (Nat.le_trans HI.out.2.size hbe1.size) hB1.foot, k2.kept hbx (fun e => ?_)⟩
        have := HI.out.1.foot_lt _ e
        omega
      have q2 : W1.cell? ⟨wr.heap.size, 2, none⟩ = some (.int .i64 xb) := blk_cell hbx rfl
      have hlW := blk_lt hbx
      have HAS : Hid (Asc ps ∧ ps.length ≤ 899 ∧ (∀ t ∈ ps, t.id < (i : Int)) ∧ SpanOk ⟨xn, xi, xb, xd⟩) := ⟨hAS, hPL, hLT, hOK⟩
      clear hc hb hST hOK hAS hLT hPL hx hps hbx hbe1 hB1
      by_cases hd : xd = 0
      · subst hd
        go_upto_region 5 with fail
        rw [← hW1]
        clear hW1 c0 c1 c2 c3
        go_upto_region 6 with (go_at_call 54; refine HBR.out.mono ?_; rintro e w2 ⟨rfl, v2, H2⟩)
        have q3 : w2.cell? ⟨wr.heap.size, 3, none⟩ = some (.int .i64 0) := blk_cell H2.out.2.2 rfl
        have hl2 := blk_lt H2.out.2.2
        clear HBR q2 hlW
        go_wp2_with fail
        go_roundw
        case rel => exact ⟨i + 1, v2, by omega, by go_num, by rw [HST.out]; exact H2.out.1, H2.out.2.1⟩
        case measure => simp [intOf]; omega
      · have HDE : Hid (∀ w2 v2, BookAt w2 w.heap.size w.heap.size v2 (ps ++ [⟨(i : Int), xb, 0⟩]) → Below w.heap.size w w2 → Calls Tryz.prog 55 #[.pointer (some ⟨w.heap.size, 0, none⟩), .int .i64 (i : Int), .int .i64 xd] w2 fun e w' => e = .returned .nilIface ∧ ∃ v', Hid (BookAt w' w.heap.size w.heap.size v' (ps ++ [⟨(i : Int), xb, xd⟩]) ∧ Below w.heap.size w w')) := fun w2 v2 k1 k2 => by
          refine (fdeath_good w.heap.size w.heap.size v2 _ i xd w2 k1 (asc_last HAS.out.2.2.1 HAS.out.1) (by simp; have := HAS.out.2.1; omega) ⟨HAS.out.2.2.2.2.2.1, ⟨(i : Int), xb, 0⟩, by simp, rfl, rfl, by have := HAS.out.2.2.2.2.2.2; simp only at this; rcases this with h | h; exact absurd h hd; exact h⟩).mono ?_
          rintro e w' ⟨rfl, v', k3, k4⟩
          rw [died_last HAS.out.2.2.1] at k3
          exact ⟨rfl, v', k3, k4.below k2 k2.size k1.foot⟩
        go_upto_region 5 with fail
        rw [← hW1]
        clear hW1 c0 c1 c2 c3
        go_upto_region 6 with (go_at_call 54; refine HBR.out.mono ?_; rintro e w2 ⟨rfl, v2, H2⟩)
        have q3 : w2.cell? ⟨wr.heap.size, 3, none⟩ = some (.int .i64 xd) := blk_cell H2.out.2.2 rfl
        have hl2 := blk_lt H2.out.2.2
        clear HBR q2 hlW
        go_wp2_with (go_at_call 55; refine (HDE.out w2 v2 H2.out.1 H2.out.2.1).mono ?_; rintro e w3 ⟨rfl, v3, H3⟩)
        go_roundw
        case rel => exact ⟨i + 1, v3, by omega, by go_num, by rw [HST.out]; exact H3.out.1, H3.out.2⟩
        case measure => simp [intOf]; omega
    · have hil : ¬ (i : Int) < (n : Int) := by omega
      have HE : Hid (BookAt wr w.heap.size w.heap.size vv (thsO l) ∧ Below w.heap.size w wr) := by
        have h1 := HI.out
        rw [List.take_of_length_le (by have := HN.out; omega)] at h1
        exact h1
      go_wp2_with fail
      go_ret
      exact ⟨_, rfl, ⟨vv, HE.out.1⟩, HE.out.2⟩
end Go.Proofs.YthjcmagionaepaaGreat
