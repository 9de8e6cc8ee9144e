/- The document's book: Death. -/
import Derived.Test.YtbkciencikdacaaRMut
namespace Go.Proofs.Ytbkciencikdacaa
open Go.RowKit Kit
set_option linter.unusedVariables false

theorem rdeath_none (q B : Nat) (iv sv : Value) (rs : List Th) (id ep : Int) (w : World) (h : RBook w q B iv sv rs) (hsm : rs.length ≤ 900) (hn : hasT rs id = false) :
    Calls Try.prog 30 #[.pointer (some ⟨q, 0, none⟩), .int .i64 id, .int .i64 ep] w fun e w' => e = .returned (.int .i64 1) ∧ w' = w := by
  have HP : Hid (Calls Try.prog 44 #[.pointer (some ⟨q, 0, none⟩), .int .i64 id] w fun e w' => e = .returned (.int .i64 (-1)) ∧ w' = w) := by
    have := rplace_any q B id iv sv rs w h (by omega)
    rw [place_no hn] at this
    exact this
  clear h hsm hn
  go_enter Try.func30, Try.ntmps30
  go_wp2_with (go_at_call 44; refine HP.out.mono ?_; rintro e w' ⟨rfl, rfl⟩)
  go_ret
  exact ⟨rfl, rfl⟩
/-- The document's book, one of its things given an end. -/
theorem rbook_died {w : World} {q B g n cap i : Nat} {iv : Value} {is : List Int} {rs : List Th} {ep : Int} (h : RBk w q B iv (.slice (some ⟨g, 0, none⟩) n cap) is rs) (hi : i < rs.length) :
    RBk (w.setCell ⟨g, i * 2 + 1, none⟩ (.int .i64 ep)) q B iv (.slice (some ⟨g, 0, none⟩) n cap) is (rs.set i { rs[i] with died := ep }) ∧ TurnF (rfoot q iv (.slice (some ⟨g, 0, none⟩) n cap)) (rfoot q iv (.slice (some ⟨g, 0, none⟩) n cap)) w (w.setCell ⟨g, i * 2 + 1, none⟩ (.int .i64 ep)) := by
  obtain ⟨a1, a2, a3⟩ := h.apart
  have hs : (w.setCell ⟨g, i * 2 + 1, none⟩ (.int .i64 ep)).heap.size = w.heap.size := by simp [World.setCell]
  refine ⟨⟨by rw [Below.heap_setCell _ _ _ q (fun e => a2 (by rw [e]; rfl))]; exact h.cell, rowE_stay h.ids (fun k hk => Below.heap_setCell _ _ _ k (fun e => a3 k hk (by rw [e]; rfl))), rowE_put h.sps i hi 1 (by decide) _ _ rfl, by rw [hs]; exact h.low, h.hq⟩, rfl, rfl, rfl, by rw [hs]; exact Nat.le_refl _, fun k hk h1 => ?_, fun k hk => .inl hk⟩
  exact Below.heap_setCell _ _ _ k (fun e => h1 (.inr (.inr (by rw [e]; rfl))))
set_option maxRecDepth 4000 in
set_option maxHeartbeats 4000000 in
theorem rdeath_ended (q B g n cap i : Nat) (iv : Value) (rs : List Th) (id ep y z : Int) (w : World) (h : RBook w q B iv (.slice (some ⟨g, 0, none⟩) n cap) rs) (hil : i < rs.length) (hnn : n = rs.length) (hsm : n ≤ 900) (hy : rs[i].born = y) (hz : rs[i].died = z) (hpl : Calls Try.prog 44 #[.pointer (some ⟨q, 0, none⟩), .int .i64 id] w fun e w' => e = .returned (.int .i64 (i : Int)) ∧ w' = w) (t1 : ¬ z = 0) :
    Calls Try.prog 30 #[.pointer (some ⟨q, 0, none⟩), .int .i64 id, .int .i64 ep] w fun e w' => e = .returned (.int .i64 1) ∧ w' = w := by
  have HP : Hid (Calls Try.prog 44 #[.pointer (some ⟨q, 0, none⟩), .int .i64 id] w fun e w' => e = .returned (.int .i64 (i : Int)) ∧ w' = w) := hpl
  have HM : Hid (RBook w q B iv (.slice (some ⟨g, 0, none⟩) n cap) rs ∧ n = rs.length ∧ i < rs.length) := ⟨h, hnn, hil⟩
  have hin : (i : Int) < (n : Int) := by omega
  have hi0 : (0 : Int) ≤ (i : Int) := by omega
  have q1 : w.cell? ⟨q, 1, none⟩ = some (.slice (some ⟨g, 0, none⟩) n cap) := blk_cell h.cell rfl
  obtain ⟨bb, oo, e1, e2, hbl, hc⟩ := sp_cells h.sps.sees (by omega)
  cases e1
  obtain ⟨c1, c2⟩ := hc i hil
  rw [hy] at c1
  rw [hz] at c2
  rw [Nat.zero_add] at c1 c2
  have f2 : w.frozen? ⟨g, i * 2 + 1, none⟩ = false := by
    obtain ⟨g', cap', e3, _, _, hfz, _⟩ := rowE_form h.sps (by omega)
    cases e3
    exact hfz _
  clear h hil hnn hsm hy hz hpl hc e2
  go_enter Try.func30, Try.ntmps30
  go_wp2_with (go_at_call 44; refine HP.out.mono ?_; rintro e w9 ⟨rfl, hw9⟩; subst w9)
  go_ret
  exact ⟨rfl, rfl⟩
set_option maxRecDepth 4000 in
set_option maxHeartbeats 4000000 in
theorem rdeath_early (q B g n cap i : Nat) (iv : Value) (rs : List Th) (id ep y z : Int) (w : World) (h : RBook w q B iv (.slice (some ⟨g, 0, none⟩) n cap) rs) (hil : i < rs.length) (hnn : n = rs.length) (hsm : n ≤ 900) (hy : rs[i].born = y) (hz : rs[i].died = z) (hpl : Calls Try.prog 44 #[.pointer (some ⟨q, 0, none⟩), .int .i64 id] w fun e w' => e = .returned (.int .i64 (i : Int)) ∧ w' = w) (t1 : z = 0) (t2 : ep < y) :
    Calls Try.prog 30 #[.pointer (some ⟨q, 0, none⟩), .int .i64 id, .int .i64 ep] w fun e w' => e = .returned (.int .i64 1) ∧ w' = w := by
  subst t1
  have HP : Hid (Calls Try.prog 44 #[.pointer (some ⟨q, 0, none⟩), .int .i64 id] w fun e w' => e = .returned (.int .i64 (i : Int)) ∧ w' = w) := hpl
  have HM : Hid (RBook w q B iv (.slice (some ⟨g, 0, none⟩) n cap) rs ∧ n = rs.length ∧ i < rs.length) := ⟨h, hnn, hil⟩
  have hin : (i : Int) < (n : Int) := by omega
  have hi0 : (0 : Int) ≤ (i : Int) := by omega
  have q1 : w.cell? ⟨q, 1, none⟩ = some (.slice (some ⟨g, 0, none⟩) n cap) := blk_cell h.cell rfl
  obtain ⟨bb, oo, e1, e2, hbl, hc⟩ := sp_cells h.sps.sees (by omega)
  cases e1
  obtain ⟨c1, c2⟩ := hc i hil
  rw [hy] at c1
  rw [hz] at c2
  rw [Nat.zero_add] at c1 c2
  have f2 : w.frozen? ⟨g, i * 2 + 1, none⟩ = false := by
    obtain ⟨g', cap', e3, _, _, hfz, _⟩ := rowE_form h.sps (by omega)
    cases e3
    exact hfz _
  clear h hil hnn hsm hy hz hpl hc e2
  go_enter Try.func30, Try.ntmps30
  go_wp2_with (go_at_call 44; refine HP.out.mono ?_; rintro e w9 ⟨rfl, hw9⟩; subst w9)
  go_ret
  exact ⟨rfl, rfl⟩
set_option maxRecDepth 4000 in
set_option maxHeartbeats 4000000 in
theorem rdeath_late (q B g n cap i : Nat) (iv : Value) (rs : List Th) (id ep y z : Int) (w : World) (h : RBook w q B iv (.slice (some ⟨g, 0, none⟩) n cap) rs) (hil : i < rs.length) (hnn : n = rs.length) (hsm : n ≤ 900) (hy : rs[i].born = y) (hz : rs[i].died = z) (hpl : Calls Try.prog 44 #[.pointer (some ⟨q, 0, none⟩), .int .i64 id] w fun e w' => e = .returned (.int .i64 (i : Int)) ∧ w' = w) (t1 : z = 0) (t2 : ¬ ep < y) (t3 : 1099511627776 < ep) :
    Calls Try.prog 30 #[.pointer (some ⟨q, 0, none⟩), .int .i64 id, .int .i64 ep] w fun e w' => e = .returned (.int .i64 1) ∧ w' = w := by
  subst t1
  have HP : Hid (Calls Try.prog 44 #[.pointer (some ⟨q, 0, none⟩), .int .i64 id] w fun e w' => e = .returned (.int .i64 (i : Int)) ∧ w' = w) := hpl
  have HM : Hid (RBook w q B iv (.slice (some ⟨g, 0, none⟩) n cap) rs ∧ n = rs.length ∧ i < rs.length) := ⟨h, hnn, hil⟩
  have hin : (i : Int) < (n : Int) := by omega
  have hi0 : (0 : Int) ≤ (i : Int) := by omega
  have q1 : w.cell? ⟨q, 1, none⟩ = some (.slice (some ⟨g, 0, none⟩) n cap) := blk_cell h.cell rfl
  obtain ⟨bb, oo, e1, e2, hbl, hc⟩ := sp_cells h.sps.sees (by omega)
  cases e1
  obtain ⟨c1, c2⟩ := hc i hil
  rw [hy] at c1
  rw [hz] at c2
  rw [Nat.zero_add] at c1 c2
  have f2 : w.frozen? ⟨g, i * 2 + 1, none⟩ = false := by
    obtain ⟨g', cap', e3, _, _, hfz, _⟩ := rowE_form h.sps (by omega)
    cases e3
    exact hfz _
  clear h hil hnn hsm hy hz hpl hc e2
  go_enter Try.func30, Try.ntmps30
  go_wp2_with (go_at_call 44; refine HP.out.mono ?_; rintro e w9 ⟨rfl, hw9⟩; subst w9)
  go_ret
  exact ⟨rfl, rfl⟩
set_option maxRecDepth 4000 in
set_option maxHeartbeats 4000000 in
theorem rdeath_here (q B g n cap i : Nat) (iv : Value) (rs : List Th) (id ep y z : Int) (w : World) (h : RBook w q B iv (.slice (some ⟨g, 0, none⟩) n cap) rs) (hil : i < rs.length) (hnn : n = rs.length) (hsm : n ≤ 900) (hy : rs[i].born = y) (hz : rs[i].died = z) (hpl : Calls Try.prog 44 #[.pointer (some ⟨q, 0, none⟩), .int .i64 id] w fun e w' => e = .returned (.int .i64 (i : Int)) ∧ w' = w) (t1 : z = 0) (t2 : ¬ ep < y) (t3 : ¬ 1099511627776 < ep) (hdd : ∀ h : i < rs.length, rs.set i { rs[i] with died := ep } = diedT rs id ep) :
    Calls Try.prog 30 #[.pointer (some ⟨q, 0, none⟩), .int .i64 id, .int .i64 ep] w fun e w' => e = .returned (.int .i64 0) ∧ RBook w' q B iv (.slice (some ⟨g, 0, none⟩) n cap) (diedT rs id ep) ∧ TurnF (rfoot q iv (.slice (some ⟨g, 0, none⟩) n cap)) (rfoot q iv (.slice (some ⟨g, 0, none⟩) n cap)) w w' := by
  subst t1
  have HP : Hid (Calls Try.prog 44 #[.pointer (some ⟨q, 0, none⟩), .int .i64 id] w fun e w' => e = .returned (.int .i64 (i : Int)) ∧ w' = w) := hpl
  have HM : Hid (RBook w q B iv (.slice (some ⟨g, 0, none⟩) n cap) rs ∧ n = rs.length ∧ i < rs.length) := ⟨h, hnn, hil⟩
  have hin : (i : Int) < (n : Int) := by omega
  have hi0 : (0 : Int) ≤ (i : Int) := by omega
  have q1 : w.cell? ⟨q, 1, none⟩ = some (.slice (some ⟨g, 0, none⟩) n cap) := blk_cell h.cell rfl
  obtain ⟨bb, oo, e1, e2, hbl, hc⟩ := sp_cells h.sps.sees (by omega)
  cases e1
  obtain ⟨c1, c2⟩ := hc i hil
  rw [hy] at c1
  rw [hz] at c2
  rw [Nat.zero_add] at c1 c2
  have f2 : w.frozen? ⟨g, i * 2 + 1, none⟩ = false := by
    obtain ⟨g', cap', e3, _, _, hfz, _⟩ := rowE_form h.sps (by omega)
    cases e3
    exact hfz _
  have HD : Hid (∀ h : i < rs.length, rs.set i { rs[i] with died := ep } = diedT rs id ep) := hdd
  clear h hil hnn hsm hy hz hpl hc e2 hdd
  go_enter Try.func30, Try.ntmps30
  go_wp2_with (go_at_call 44; refine HP.out.mono ?_; rintro e w9 ⟨rfl, hw9⟩; subst w9)
  go_ret
  have hst := rbook_died (ep := ep) HM.out.1 HM.out.2.2
  rw [HD.out HM.out.2.2] at hst
  refine ⟨rfl, ?_, hst.2⟩
  have e9 : rs.map Th.id = (diedT rs id ep).map Th.id := by
    unfold diedT
    rw [List.map_map]
    refine List.map_congr_left fun t _ => ?_
    simp only [Function.comp]
    split <;> rfl
  unfold RBook
  rw [← e9]
  exact hst.1
theorem rplace_yes (q B : Nat) (iv sv : Value) (rs : List Th) (id : Int) (w : World) (h : RBook w q B iv sv rs) (hsm : rs.length ≤ 900) (hn : hasT rs id = true) :
    Calls Try.prog 44 #[.pointer (some ⟨q, 0, none⟩), .int .i64 id] w fun e w' => e = .returned (.int .i64 ((seatT rs id : Nat) : Int)) ∧ w' = w := by
  have := rplace_any q B id iv sv rs w h (by omega)
  rw [place_yes hn] at this
  exact this
theorem rdeath_good (q B : Nat) (iv sv : Value) (rs : List Th) (id ep : Int) (w : World) (h : RBook w q B iv sv rs) (hr : Once rs) (hsm : rs.length ≤ 900) (hn : deathOk rs id ep) :
    Calls Try.prog 30 #[.pointer (some ⟨q, 0, none⟩), .int .i64 id, .int .i64 ep] w fun e w' => e = .returned (.int .i64 0) ∧ ∃ iv' sv', RBook w' q B iv' sv' (diedT rs id ep) ∧ TurnF (rfoot q iv sv) (rfoot q iv' sv') w w' := by
  obtain ⟨he, t, ht, h1, h2, h3⟩ := hn
  have hh : hasT rs id = true := has_iffT.2 ⟨t, ht, h1⟩
  have hl := seat_has.1 hh
  have hi := (seat_at rs id).2 hl
  have hd := died_seat (e := ep) hr hl
  have et : rs[seatT rs id] = t := once_eq hr (List.getElem_mem hl) ht (by rw [hi, h1])
  obtain ⟨g, cap, rfl, _⟩ := rowE_form h.sps (by omega)
  unfold maxE at he
  refine (rdeath_here q B g rs.length cap (seatT rs id) iv rs id ep t.born 0 w h hl rfl hsm (by rw [et]) (by rw [et]; exact h2) (rplace_yes q B iv _ rs id w h hsm hh) rfl (by omega) (by omega) (fun _ => hd.symm)).mono ?_
  rintro e w' ⟨rfl, k1, k2⟩
  exact ⟨rfl, _, _, k1, k2⟩
theorem rdeath_bad (q B : Nat) (iv sv : Value) (rs : List Th) (id ep : Int) (w : World) (h : RBook w q B iv sv rs) (hr : Once rs) (hsm : rs.length ≤ 900) (hn : ¬ deathOk rs id ep) :
    Calls Try.prog 30 #[.pointer (some ⟨q, 0, none⟩), .int .i64 id, .int .i64 ep] w fun e w' => e = .returned (.int .i64 1) ∧ w' = w := by
  cases hh : hasT rs id with
  | false => exact rdeath_none q B iv sv rs id ep w h hsm hh
  | true =>
    have hl := seat_has.1 hh
    have hi := (seat_at rs id).2 hl
    obtain ⟨g, cap, rfl, _⟩ := rowE_form h.sps (by omega)
    have hpl := rplace_yes q B iv _ rs id w h hsm hh
    by_cases t1 : rs[seatT rs id].died = 0
    · by_cases t2 : ep < rs[seatT rs id].born
      · exact rdeath_early q B g rs.length cap (seatT rs id) iv rs id ep _ _ w h hl rfl hsm rfl rfl hpl t1 t2
      · by_cases t3 : 1099511627776 < ep
        · exact rdeath_late q B g rs.length cap (seatT rs id) iv rs id ep _ _ w h hl rfl hsm rfl rfl hpl t1 t2 t3
        · exact absurd ⟨by unfold maxE; omega, _, List.getElem_mem hl, hi, t1, by omega⟩ hn
    · exact rdeath_ended q B g rs.length cap (seatT rs id) iv rs id ep _ _ w h hl rfl hsm rfl rfl hpl t1
theorem rdrop_none (q B : Nat) (iv sv : Value) (rs : List Th) (id : Int) (w : World) (h : RBook w q B iv sv rs) (hsm : rs.length ≤ 900) (hn : hasT rs id = false) :
    Calls Try.prog 31 #[.pointer (some ⟨q, 0, none⟩), .int .i64 id] w fun e w' => e = .returned (.int .i64 1) ∧ w' = w := by
  have HP : Hid (Calls Try.prog 44 #[.pointer (some ⟨q, 0, none⟩), .int .i64 id] w fun e w' => e = .returned (.int .i64 (-1)) ∧ w' = w) := by
    have := rplace_any q B id iv sv rs w h (by omega)
    rw [place_no hn] at this
    exact this
  clear h hsm hn
  go_enter Try.func31, Try.ntmps31
  go_wp2_with (go_at_call 44; refine HP.out.mono ?_; rintro e w' ⟨rfl, rfl⟩)
  go_ret
  exact ⟨rfl, rfl⟩
end Go.Proofs.Ytbkciencikdacaa
