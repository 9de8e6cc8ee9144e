/- package life: Death of one that is there. -/
import Derived.Test.YtbkciencikdacaaFMut
namespace Go.Proofs.Ytbkciencikdacaa
open Go.RowKit Kit
set_option linter.unusedVariables false

set_option maxRecDepth 4000 in
set_option maxHeartbeats 4000000 in
theorem fdeath_ended (p B g n cap i : Nat) (ps : List Th) (id ep y z : Int) (w : World) (h : BookAt w p B (.slice (some ⟨g, 0, none⟩) n cap) ps) (hil : i < ps.length) (hnn : n = ps.length) (hsm : n ≤ 900) (hy : ps[i].born = y) (hz : ps[i].died = z) (hpl : ∀ W, Below w.heap.size w W → Calls Try.prog 32 #[.pointer (some ⟨p, 0, none⟩), .int .i64 id] W fun e w' => e = .returned (.tuple #[.int .i64 (i : Nat), .bool true]) ∧ Below W.heap.size W w') (t1 : ¬ z = 0) :
    Calls Try.prog 26 #[.pointer (some ⟨p, 0, none⟩), .int .i64 id, .int .i64 ep] w fun e w' => e = .returned errA ∧ Below w.heap.size w w' := by
  have HP : Hid (Calls Try.prog 32 #[.pointer (some ⟨p, 0, none⟩), .int .i64 id] w fun e w' => e = .returned (.tuple #[.int .i64 (i : Nat), .bool true]) ∧ Below w.heap.size w w') := hpl w (Below.refl _ _)
  have HM : Hid (BookAt w p B (.slice (some ⟨g, 0, none⟩) n cap) ps ∧ n = ps.length ∧ ∃ h : i < ps.length, ps[i].born = y ∧ ps[i].died = z) := ⟨h, hnn, hil, hy, hz⟩
  have HE : Hid (∀ w, Calls Try.prog 39 #[.agg #[.int .i64 y, .int .i64 z]] w fun e w' => e = .returned (.bool (!decide (z = 0))) ∧ Below w.heap.size w w') := fun w => fended_any y z w
  have hin : (i : Int) < (n : Int) := by omega
  have hi0 : (0 : Int) ≤ (i : Int) := by omega
  clear h hil hnn hsm hy hz hpl
  go_enter Try.func26, Try.ntmps26
  go_wp2_with fail
  go_at_call 32
  refine HP.out.mono ?_
  rintro e w1 ⟨rfl, hb⟩
  have H1 : Hid (BookAt w1 p B (.slice (some ⟨g, 0, none⟩) n cap) ps ∧ Below w.heap.size w w1) := ⟨HM.out.1.below hb, hb⟩
  clear hb HP
  have q0 : w1.cell? ⟨p, 0, none⟩ = some (.slice (some ⟨g, 0, none⟩) n cap) := blk_cell H1.out.1.cell rfl
  obtain ⟨hil, hy, hz⟩ := HM.out.2.2
  obtain ⟨bb, oo, e1, e2, hbl, hc⟩ := th_cells H1.out.1.row.sees (by omega)
  cases e1
  obtain ⟨c0, c1, c2⟩ := hc i hil
  rw [hy] at c1
  rw [hz] at c2
  rw [Nat.zero_add] at c1 c2
  have HC : Hid (w1.cell? ⟨g, i * 3 + 1, none⟩ = some (.int .i64 y) ∧ w1.cell? ⟨g, i * 3 + 2, none⟩ = some (.int .i64 z) ∧ g < w1.heap.size) := ⟨c1, c2, hbl⟩
  clear hc c0 hy hz e2 hil
  go_wp2_with fail
  go_at_call 39
  refine (HE.out _).mono ?_
  rintro e w2 ⟨rfl, hb2⟩
  have H2 : Hid (BookAt w2 p B (.slice (some ⟨g, 0, none⟩) n cap) ps ∧ Below w.heap.size w w2) := ⟨H1.out.1.below hb2, bel_tr H1.out.2 hb2⟩
  have d1 : w2.cell? ⟨g, i * 3 + 1, none⟩ = some (.int .i64 y) := (hb2.cell (by exact HC.out.2.2)).trans HC.out.1
  have d2 : w2.cell? ⟨g, i * 3 + 2, none⟩ = some (.int .i64 z) := (hb2.cell (by exact HC.out.2.2)).trans HC.out.2.1
  have f2 : w2.frozen? ⟨g, i * 3 + 2, none⟩ = false := by
    obtain ⟨g', cap', e3, _, _, hfz, _⟩ := rowE_form H2.out.1.row (by have := HM.out.2.2.1; omega)
    cases e3
    exact hfz _
  clear hb2 c1 c2 q0
  go_wp2_with fail
  go_ret
  exact ⟨rfl, H2.out.2⟩
set_option maxRecDepth 4000 in
set_option maxHeartbeats 4000000 in
theorem fdeath_early (p B g n cap i : Nat) (ps : List Th) (id ep y z : Int) (w : World) (h : BookAt w p B (.slice (some ⟨g, 0, none⟩) n cap) ps) (hil : i < ps.length) (hnn : n = ps.length) (hsm : n ≤ 900) (hy : ps[i].born = y) (hz : ps[i].died = z) (hpl : ∀ W, Below w.heap.size w W → Calls Try.prog 32 #[.pointer (some ⟨p, 0, none⟩), .int .i64 id] W fun e w' => e = .returned (.tuple #[.int .i64 (i : Nat), .bool true]) ∧ Below W.heap.size W w') (t1 : z = 0) (t2 : ep < y) :
    Calls Try.prog 26 #[.pointer (some ⟨p, 0, none⟩), .int .i64 id, .int .i64 ep] w fun e w' => e = .returned errA ∧ Below w.heap.size w w' := by
  subst t1
  have HP : Hid (Calls Try.prog 32 #[.pointer (some ⟨p, 0, none⟩), .int .i64 id] w fun e w' => e = .returned (.tuple #[.int .i64 (i : Nat), .bool true]) ∧ Below w.heap.size w w') := hpl w (Below.refl _ _)
  have HM : Hid (BookAt w p B (.slice (some ⟨g, 0, none⟩) n cap) ps ∧ n = ps.length ∧ ∃ h : i < ps.length, ps[i].born = y ∧ ps[i].died = 0) := ⟨h, hnn, hil, hy, hz⟩
  have HE : Hid (∀ w, Calls Try.prog 39 #[.agg #[.int .i64 y, .int .i64 0]] w fun e w' => e = .returned (.bool (!decide (0 = 0))) ∧ Below w.heap.size w w') := fun w => fended_any y 0 w
  have hin : (i : Int) < (n : Int) := by omega
  have hi0 : (0 : Int) ≤ (i : Int) := by omega
  clear h hil hnn hsm hy hz hpl
  go_enter Try.func26, Try.ntmps26
  go_wp2_with fail
  go_at_call 32
  refine HP.out.mono ?_
  rintro e w1 ⟨rfl, hb⟩
  have H1 : Hid (BookAt w1 p B (.slice (some ⟨g, 0, none⟩) n cap) ps ∧ Below w.heap.size w w1) := ⟨HM.out.1.below hb, hb⟩
  clear hb HP
  have q0 : w1.cell? ⟨p, 0, none⟩ = some (.slice (some ⟨g, 0, none⟩) n cap) := blk_cell H1.out.1.cell rfl
  obtain ⟨hil, hy, hz⟩ := HM.out.2.2
  obtain ⟨bb, oo, e1, e2, hbl, hc⟩ := th_cells H1.out.1.row.sees (by omega)
  cases e1
  obtain ⟨c0, c1, c2⟩ := hc i hil
  rw [hy] at c1
  rw [hz] at c2
  rw [Nat.zero_add] at c1 c2
  have HC : Hid (w1.cell? ⟨g, i * 3 + 1, none⟩ = some (.int .i64 y) ∧ w1.cell? ⟨g, i * 3 + 2, none⟩ = some (.int .i64 0) ∧ g < w1.heap.size) := ⟨c1, c2, hbl⟩
  clear hc c0 hy hz e2 hil
  go_wp2_with fail
  go_at_call 39
  refine (HE.out _).mono ?_
  rintro e w2 ⟨rfl, hb2⟩
  have H2 : Hid (BookAt w2 p B (.slice (some ⟨g, 0, none⟩) n cap) ps ∧ Below w.heap.size w w2) := ⟨H1.out.1.below hb2, bel_tr H1.out.2 hb2⟩
  have d1 : w2.cell? ⟨g, i * 3 + 1, none⟩ = some (.int .i64 y) := (hb2.cell (by exact HC.out.2.2)).trans HC.out.1
  have d2 : w2.cell? ⟨g, i * 3 + 2, none⟩ = some (.int .i64 0) := (hb2.cell (by exact HC.out.2.2)).trans HC.out.2.1
  have f2 : w2.frozen? ⟨g, i * 3 + 2, none⟩ = false := by
    obtain ⟨g', cap', e3, _, _, hfz, _⟩ := rowE_form H2.out.1.row (by have := HM.out.2.2.1; omega)
    cases e3
    exact hfz _
  clear hb2 c1 c2 q0
  go_wp2_with fail
  go_ret
  exact ⟨rfl, H2.out.2⟩
set_option maxRecDepth 4000 in
set_option maxHeartbeats 4000000 in
theorem fdeath_late (p B g n cap i : Nat) (ps : List Th) (id ep y z : Int) (w : World) (h : BookAt w p B (.slice (some ⟨g, 0, none⟩) n cap) ps) (hil : i < ps.length) (hnn : n = ps.length) (hsm : n ≤ 900) (hy : ps[i].born = y) (hz : ps[i].died = z) (hpl : ∀ W, Below w.heap.size w W → Calls Try.prog 32 #[.pointer (some ⟨p, 0, none⟩), .int .i64 id] W fun e w' => e = .returned (.tuple #[.int .i64 (i : Nat), .bool true]) ∧ Below W.heap.size W w') (t1 : z = 0) (t2 : ¬ ep < y) (t3 : 1099511627776 < ep) :
    Calls Try.prog 26 #[.pointer (some ⟨p, 0, none⟩), .int .i64 id, .int .i64 ep] w fun e w' => e = .returned errA ∧ Below w.heap.size w w' := by
  subst t1
  have HP : Hid (Calls Try.prog 32 #[.pointer (some ⟨p, 0, none⟩), .int .i64 id] w fun e w' => e = .returned (.tuple #[.int .i64 (i : Nat), .bool true]) ∧ Below w.heap.size w w') := hpl w (Below.refl _ _)
  have HM : Hid (BookAt w p B (.slice (some ⟨g, 0, none⟩) n cap) ps ∧ n = ps.length ∧ ∃ h : i < ps.length, ps[i].born = y ∧ ps[i].died = 0) := ⟨h, hnn, hil, hy, hz⟩
  have HE : Hid (∀ w, Calls Try.prog 39 #[.agg #[.int .i64 y, .int .i64 0]] w fun e w' => e = .returned (.bool (!decide (0 = 0))) ∧ Below w.heap.size w w') := fun w => fended_any y 0 w
  have hin : (i : Int) < (n : Int) := by omega
  have hi0 : (0 : Int) ≤ (i : Int) := by omega
  clear h hil hnn hsm hy hz hpl
  go_enter Try.func26, Try.ntmps26
  go_wp2_with fail
  go_at_call 32
  refine HP.out.mono ?_
  rintro e w1 ⟨rfl, hb⟩
  have H1 : Hid (BookAt w1 p B (.slice (some ⟨g, 0, none⟩) n cap) ps ∧ Below w.heap.size w w1) := ⟨HM.out.1.below hb, hb⟩
  clear hb HP
  have q0 : w1.cell? ⟨p, 0, none⟩ = some (.slice (some ⟨g, 0, none⟩) n cap) := blk_cell H1.out.1.cell rfl
  obtain ⟨hil, hy, hz⟩ := HM.out.2.2
  obtain ⟨bb, oo, e1, e2, hbl, hc⟩ := th_cells H1.out.1.row.sees (by omega)
  cases e1
  obtain ⟨c0, c1, c2⟩ := hc i hil
  rw [hy] at c1
  rw [hz] at c2
  rw [Nat.zero_add] at c1 c2
  have HC : Hid (w1.cell? ⟨g, i * 3 + 1, none⟩ = some (.int .i64 y) ∧ w1.cell? ⟨g, i * 3 + 2, none⟩ = some (.int .i64 0) ∧ g < w1.heap.size) := ⟨c1, c2, hbl⟩
  clear hc c0 hy hz e2 hil
  go_wp2_with fail
  go_at_call 39
  refine (HE.out _).mono ?_
  rintro e w2 ⟨rfl, hb2⟩
  have H2 : Hid (BookAt w2 p B (.slice (some ⟨g, 0, none⟩) n cap) ps ∧ Below w.heap.size w w2) := ⟨H1.out.1.below hb2, bel_tr H1.out.2 hb2⟩
  have d1 : w2.cell? ⟨g, i * 3 + 1, none⟩ = some (.int .i64 y) := (hb2.cell (by exact HC.out.2.2)).trans HC.out.1
  have d2 : w2.cell? ⟨g, i * 3 + 2, none⟩ = some (.int .i64 0) := (hb2.cell (by exact HC.out.2.2)).trans HC.out.2.1
  have f2 : w2.frozen? ⟨g, i * 3 + 2, none⟩ = false := by
    obtain ⟨g', cap', e3, _, _, hfz, _⟩ := rowE_form H2.out.1.row (by have := HM.out.2.2.1; omega)
    cases e3
    exact hfz _
  clear hb2 c1 c2 q0
  go_wp2_with fail
  go_ret
  exact ⟨rfl, H2.out.2⟩
set_option maxRecDepth 4000 in
set_option maxHeartbeats 4000000 in
theorem fdeath_here (p B g n cap i : Nat) (ps : List Th) (id ep y z : Int) (w : World) (h : BookAt w p B (.slice (some ⟨g, 0, none⟩) n cap) ps) (hil : i < ps.length) (hnn : n = ps.length) (hsm : n ≤ 900) (hy : ps[i].born = y) (hz : ps[i].died = z) (hpl : ∀ W, Below w.heap.size w W → Calls Try.prog 32 #[.pointer (some ⟨p, 0, none⟩), .int .i64 id] W fun e w' => e = .returned (.tuple #[.int .i64 (i : Nat), .bool true]) ∧ Below W.heap.size W w') (t1 : z = 0) (t2 : ¬ ep < y) (t3 : ¬ 1099511627776 < ep) (hdd : ∀ h : i < ps.length, ps.set i { ps[i] with died := ep } = diedT ps id ep) :
    Calls Try.prog 26 #[.pointer (some ⟨p, 0, none⟩), .int .i64 id, .int .i64 ep] w fun e w' => e = .returned .nilIface ∧ BookAt w' p B (.slice (some ⟨g, 0, none⟩) n cap) (diedT ps id ep) ∧ TurnF (pfoot p (.slice (some ⟨g, 0, none⟩) n cap)) (pfoot p (.slice (some ⟨g, 0, none⟩) n cap)) w w' := by
  subst t1
  have HP : Hid (Calls Try.prog 32 #[.pointer (some ⟨p, 0, none⟩), .int .i64 id] w fun e w' => e = .returned (.tuple #[.int .i64 (i : Nat), .bool true]) ∧ Below w.heap.size w w') := hpl w (Below.refl _ _)
  have HM : Hid (BookAt w p B (.slice (some ⟨g, 0, none⟩) n cap) ps ∧ n = ps.length ∧ ∃ h : i < ps.length, ps[i].born = y ∧ ps[i].died = 0) := ⟨h, hnn, hil, hy, hz⟩
  have HE : Hid (∀ w, Calls Try.prog 39 #[.agg #[.int .i64 y, .int .i64 0]] w fun e w' => e = .returned (.bool (!decide (0 = 0))) ∧ Below w.heap.size w w') := fun w => fended_any y 0 w
  have hin : (i : Int) < (n : Int) := by omega
  have hi0 : (0 : Int) ≤ (i : Int) := by omega
  have HD : Hid (∀ h : i < ps.length, ps.set i { ps[i] with died := ep } = diedT ps id ep) := hdd
  clear h hil hnn hsm hy hz hpl hdd
  go_enter Try.func26, Try.ntmps26
  go_wp2_with fail
  go_at_call 32
  refine HP.out.mono ?_
  rintro e w1 ⟨rfl, hb⟩
  have H1 : Hid (BookAt w1 p B (.slice (some ⟨g, 0, none⟩) n cap) ps ∧ Below w.heap.size w w1) := ⟨HM.out.1.below hb, hb⟩
  clear hb HP
  have q0 : w1.cell? ⟨p, 0, none⟩ = some (.slice (some ⟨g, 0, none⟩) n cap) := blk_cell H1.out.1.cell rfl
  obtain ⟨hil, hy, hz⟩ := HM.out.2.2
  obtain ⟨bb, oo, e1, e2, hbl, hc⟩ := th_cells H1.out.1.row.sees (by omega)
  cases e1
  obtain ⟨c0, c1, c2⟩ := hc i hil
  rw [hy] at c1
  rw [hz] at c2
  rw [Nat.zero_add] at c1 c2
  have HC : Hid (w1.cell? ⟨g, i * 3 + 1, none⟩ = some (.int .i64 y) ∧ w1.cell? ⟨g, i * 3 + 2, none⟩ = some (.int .i64 0) ∧ g < w1.heap.size) := ⟨c1, c2, hbl⟩
  clear hc c0 hy hz e2 hil
  go_wp2_with fail
  go_at_call 39
  refine (HE.out _).mono ?_
  rintro e w2 ⟨rfl, hb2⟩
  have H2 : Hid (BookAt w2 p B (.slice (some ⟨g, 0, none⟩) n cap) ps ∧ Below w.heap.size w w2) := ⟨H1.out.1.below hb2, bel_tr H1.out.2 hb2⟩
  have d1 : w2.cell? ⟨g, i * 3 + 1, none⟩ = some (.int .i64 y) := (hb2.cell (by exact HC.out.2.2)).trans HC.out.1
  have d2 : w2.cell? ⟨g, i * 3 + 2, none⟩ = some (.int .i64 0) := (hb2.cell (by exact HC.out.2.2)).trans HC.out.2.1
  have f2 : w2.frozen? ⟨g, i * 3 + 2, none⟩ = false := by
    obtain ⟨g', cap', e3, _, _, hfz, _⟩ := rowE_form H2.out.1.row (by have := HM.out.2.2.1; omega)
    cases e3
    exact hfz _
  clear hb2 c1 c2 q0
  go_wp2_with fail
  go_ret
  have hst := book_died (ep := ep) H2.out.1 HM.out.2.2.1
  rw [HD.out HM.out.2.2.1] at hst
  exact ⟨rfl, hst.1, (turnF_below H2.out.2).trans hst.2⟩
theorem fdeath_good (p B : Nat) (v : Value) (ps : List Th) (id ep : Int) (w : World) (h : BookAt w p B v ps) (hr : Asc ps) (hsm : ps.length ≤ 900) (hn : deathOk ps id ep) :
    Calls Try.prog 26 #[.pointer (some ⟨p, 0, none⟩), .int .i64 id, .int .i64 ep] w fun e w' => e = .returned .nilIface ∧ ∃ v', BookAt w' p B v' (diedT ps id ep) ∧ TurnF (pfoot p v) (pfoot p v') w w' := by
  obtain ⟨he, t, ht, h1, h2, h3⟩ := hn
  have hh : hasT ps id = true := has_iffT.2 ⟨t, ht, h1⟩
  obtain ⟨hl, hi⟩ := (low_memT hr).1 hh
  obtain ⟨hl2, hd⟩ := died_at (e := ep) hr hh
  have et : ps[lowT ps id] = t := once_eq (once_of hr (List.Perm.refl _)) (List.getElem_mem hl) ht (by rw [hi, h1])
  obtain ⟨g, cap, rfl, _⟩ := rowE_form h.row (by omega)
  have hpl : ∀ W, Below w.heap.size w W → Calls Try.prog 32 #[.pointer (some ⟨p, 0, none⟩), .int .i64 id] W fun e w' => e = .returned (.tuple #[.int .i64 (lowT ps id : Nat), .bool true]) ∧ Below W.heap.size W w' := fun W hb => by
    have := fplace_any _ ps id W (h.below hb).sees hr (by omega)
    rw [hh] at this
    exact this
  unfold maxE at he
  refine (fdeath_here p B g ps.length cap (lowT ps id) ps id ep t.born 0 w h hl rfl hsm (by rw [et]) (by rw [et]; exact h2) hpl rfl (by omega) (by omega) (fun _ => hd.symm)).mono ?_
  rintro e w' ⟨rfl, k1, k2⟩
  exact ⟨rfl, _, k1, k2⟩
theorem fdeath_bad (p B : Nat) (v : Value) (ps : List Th) (id ep : Int) (w : World) (h : BookAt w p B v ps) (hr : Asc ps) (hsm : ps.length ≤ 900) (hn : ¬ deathOk ps id ep) :
    Calls Try.prog 26 #[.pointer (some ⟨p, 0, none⟩), .int .i64 id, .int .i64 ep] w fun e w' => e = .returned errA ∧ Below w.heap.size w w' := by
  cases hh : hasT ps id with
  | false => exact fdeath_none _ ps id ep w h.sees hr (by omega) hh
  | true =>
    obtain ⟨hl, hi⟩ := (low_memT hr).1 hh
    obtain ⟨g, cap, rfl, _⟩ := rowE_form h.row (by omega)
    have hpl : ∀ W, Below w.heap.size w W → Calls Try.prog 32 #[.pointer (some ⟨p, 0, none⟩), .int .i64 id] W fun e w' => e = .returned (.tuple #[.int .i64 (lowT ps id : Nat), .bool true]) ∧ Below W.heap.size W w' := fun W hb => by
      have := fplace_any _ ps id W (h.below hb).sees hr (by omega)
      rw [hh] at this
      exact this
    by_cases t1 : ps[lowT ps id].died = 0
    · by_cases t2 : ep < ps[lowT ps id].born
      · exact fdeath_early p B g ps.length cap (lowT ps id) ps id ep _ _ w h hl rfl hsm rfl rfl hpl t1 t2
      · by_cases t3 : 1099511627776 < ep
        · exact fdeath_late p B g ps.length cap (lowT ps id) ps id ep _ _ w h hl rfl hsm rfl rfl hpl t1 t2 t3
        · exact absurd ⟨by unfold maxE; omega, _, List.getElem_mem hl, hi, t1, by omega⟩ hn
    · exact fdeath_ended p B g ps.length cap (lowT ps id) ps id ep _ _ w h hl rfl hsm rfl rfl hpl t1
end Go.Proofs.Ytbkciencikdacaa
