/- package life: Birth, Death, Drop. -/
import Derived.Test.YtbkciencikdacaaFBin
import Derived.Test.YtbkciencikdacaaFIns
import Derived.Test.YtbkciencikdacaaKitSt2
namespace Go.Proofs.Ytbkciencikdacaa
open Go.RowKit Kit
set_option linter.unusedVariables false

/-- A refusal: api.ErrArg, bare. -/
def errA : Value := .iface 73 (.int .i64 1)
set_option maxRecDepth 4000 in
set_option maxHeartbeats 4000000 in
theorem fbirth_bad (pv : Value) (ps : List Th) (id ep : Int) (w : World) (h : SeesB w pv ps) (hr : Asc ps) (hsm : ps.length ≤ 100000) (hn : pv = .pointer none ∨ ¬ birthOk ps id ep) :
    Calls Try.prog 25 #[pv, .int .i64 id, .int .i64 ep] w fun e w' => e = .returned errA ∧ Below w.heap.size w w' := by
  have HP : Hid (Calls Try.prog 32 #[pv, .int .i64 id] w fun e w' => e = .returned (.tuple #[.int .i64 (lowT ps id : Nat), .bool (hasT ps id)]) ∧ Below w.heap.size w w') := fplace_any pv ps id w h hr hsm
  obtain ⟨i, hi⟩ : ∃ i, i = lowT ps id := ⟨_, rfl⟩
  rw [← hi] at HP
  clear hi
  rcases h with ⟨rfl, rfl⟩ | ⟨p, v, rfl, _, _⟩
  · clear hn hr
    go_enter Try.func25, Try.ntmps25
    go_wp2_with fail
    go_at_call 32
    refine HP.out.mono ?_
    rintro e w1 ⟨rfl, hb⟩
    have HB : Hid (Below w.heap.size w w1) := hb
    clear hb
    go_wp2_with fail
    go_ret
    exact ⟨rfl, HB.out⟩
  · have hn : ¬ birthOk ps id ep := hn.resolve_left (by simp)
    cases hh : hasT ps id with
    | true =>
      rw [hh] at HP
      clear hn hr
      go_enter Try.func25, Try.ntmps25
      go_wp2_with fail
      go_at_call 32
      refine HP.out.mono ?_
      rintro e w1 ⟨rfl, hb⟩
      have HB : Hid (Below w.heap.size w w1) := hb
      clear hb
      go_wp2_with fail
      go_ret
      exact ⟨rfl, HB.out⟩
    | false =>
      rw [hh] at HP
      have hn2 : ep < 1 ∨ 1099511627776 < ep := by
        unfold birthOk maxE at hn
        by_cases c1 : 1 ≤ ep
        · by_cases c2 : ep ≤ 1099511627776
          · exact absurd ⟨c1, c2, hh⟩ hn
          · exact .inr (by omega)
        · exact .inl (by omega)
      clear hn hr
      by_cases c1 : ep < 1
      · clear hn2
        go_enter Try.func25, Try.ntmps25
        go_wp2_with fail
        go_at_call 32
        refine HP.out.mono ?_
        rintro e w1 ⟨rfl, hb⟩
        have HB : Hid (Below w.heap.size w w1) := hb
        clear hb
        go_wp2_with fail
        go_ret
        exact ⟨rfl, HB.out⟩
      · have c2 : 1099511627776 < ep := hn2.resolve_left c1
        clear hn2
        go_enter Try.func25, Try.ntmps25
        go_wp2_with fail
        go_at_call 32
        refine HP.out.mono ?_
        rintro e w1 ⟨rfl, hb⟩
        have HB : Hid (Below w.heap.size w w1) := hb
        clear hb
        go_wp2_with fail
        go_ret
        exact ⟨rfl, HB.out⟩
set_option maxRecDepth 4000 in
set_option maxHeartbeats 8000000 in
theorem fbirth_good (p B : Nat) (v : Value) (ps : List Th) (id ep : Int) (w : World) (h : BookAt w p B v ps) (hr : Asc ps) (hsm : ps.length ≤ 900) (hn : birthOk ps id ep) :
    Calls Try.prog 25 #[.pointer (some ⟨p, 0, none⟩), .int .i64 id, .int .i64 ep] w fun e w' => e = .returned .nilIface ∧ ∃ v', BookAt w' p B v' (putT ps ⟨id, ep, 0⟩) ∧ TurnF (pfoot p v) (pfoot p v') w w' := by
  have HP : Hid (Calls Try.prog 32 #[.pointer (some ⟨p, 0, none⟩), .int .i64 id] w fun e w' => e = .returned (.tuple #[.int .i64 (lowT ps id : Nat), .bool (hasT ps id)]) ∧ Below w.heap.size w w') := fplace_any _ ps id w h.sees hr (by omega)
  obtain ⟨c1, c2, hh⟩ := hn
  rw [hh] at HP
  unfold maxE at c2
  have hle := low_leT ps id
  obtain ⟨L, hL⟩ : ∃ L, L = putT ps ⟨id, ep, 0⟩ := ⟨_, rfl⟩
  have HL : Hid (ps.take (lowT ps id) ++ [(⟨id, ep, 0⟩ : Th)] ++ ps.drop (lowT ps id) = L) := hL.symm
  rw [← hL]
  obtain ⟨i, hi⟩ : ∃ i, i = lowT ps id := ⟨_, rfl⟩
  rw [← hi] at HP HL hle
  have HM : Hid (BookAt w p B v ps ∧ ps.length ≤ 900 ∧ i ≤ ps.length) := ⟨h, hsm, hle⟩
  clear h hr hsm hh hL hi hle
  go_enter Try.func25, Try.ntmps25
  go_wp2_with fail
  go_at_call 32
  refine HP.out.mono ?_
  rintro e w1 ⟨rfl, hb⟩
  have H1 : Hid (BookAt w1 p B v ps ∧ Below w.heap.size w w1) := ⟨HM.out.1.below hb, hb⟩
  clear hb HP
  have q0 : w1.cell? ⟨p, 0, none⟩ = some v := blk_cell H1.out.1.cell rfl
  have hpl : p < w1.heap.size := blk_lt H1.out.1.cell
  obtain ⟨ao, cap, hv⟩ := H1.out.1.row.sees.form
  obtain ⟨n, hn⟩ : ∃ n, n = ps.length := ⟨_, rfl⟩
  rw [← hn] at hv
  clear hn
  subst hv
  have HIN : Hid (Calls Try.prog 40 #[.slice ao n cap, .int .i64 (i : Int), .slice (some ⟨w1.heap.size, 0, none⟩) 1 1] (w1.alloc (.cells #[.int .i64 id, .int .i64 ep, .int .i64 0] 67)) fun e w' => ∃ a6 n6 c6, e = .returned (.slice a6 n6 c6) ∧ w'.cell? ⟨p, 0, none⟩ = some (.slice ao n cap) ∧ w'.frozen? ⟨p, 0, none⟩ = false ∧ p < w'.heap.size ∧ Hid (BookAt (w'.setCell ⟨p, 0, none⟩ (.slice a6 n6 c6)) p B (.slice a6 n6 c6) L ∧ TurnF (pfoot p (.slice ao n cap)) (pfoot p (.slice a6 n6 c6)) w (w'.setCell ⟨p, 0, none⟩ (.slice a6 n6 c6)))) := by
    have hb5 : Below w1.heap.size w1 (w1.alloc (.cells #[.int .i64 id, .int .i64 ep, .int .i64 0] 67)) := bel_newG _ _
    have hm5 := H1.out.1.below hb5
    refine (sins_any (.slice ao n cap) B i w1.heap.size ps ⟨id, ep, 0⟩ _ hm5.row hm5.low HM.out.2.2 (by have := HM.out.2.1; omega) (MapKept.heap_alloc w1 _).1 (fun e => by
      obtain ⟨cur, hc⟩ := rowE_obj H1.out.1.row e
      have := blk_lt hc
      omega)).mono ?_
    rw [HL.out]
    rintro e w6 ⟨v6, rfl, k1, k2, k3⟩
    obtain ⟨a6, c6, hv6⟩ := k1.sees.form
    obtain ⟨n6, hn6⟩ : ∃ z, z = L.length := ⟨_, rfl⟩
    rw [← hn6] at hv6
    subst hv6
    have hp6 : w6.heap[p]? = some (.cells #[.slice ao n cap] 57) := by rw [k2.block p (blk_lt hm5.cell) (fun e => hm5.off e.symm)]; exact hm5.cell
    have hst := book_store hm5 k2 k1 k3
    exact ⟨a6, n6, c6, rfl, blk_cell hp6 rfl, blk_frozen hp6 0, blk_lt hp6, hst.1, ((turnF_below H1.out.2).trans (turnF_below hb5)).trans hst.2⟩
  go_wp2_with (go_at_call 40; refine HIN.out.mono ?_; rintro e w6 ⟨a6, n6, c6, rfl, q6, f6, l6, HK6⟩)
  go_ret
  exact ⟨rfl, _, HK6.out.1, HK6.out.2⟩
set_option maxRecDepth 4000 in
set_option maxHeartbeats 4000000 in
theorem fdrop_bad (pv : Value) (ps : List Th) (id : Int) (w : World) (h : SeesB w pv ps) (hr : Asc ps) (hsm : ps.length ≤ 100000) (hn : hasT ps id = false) :
    Calls Try.prog 28 #[pv, .int .i64 id] w fun e w' => e = .returned errA ∧ Below w.heap.size w w' := by
  have HP : Hid (Calls Try.prog 32 #[pv, .int .i64 id] w fun e w' => e = .returned (.tuple #[.int .i64 (lowT ps id : Nat), .bool (hasT ps id)]) ∧ Below w.heap.size w w') := fplace_any pv ps id w h hr hsm
  obtain ⟨i, hi⟩ : ∃ i, i = lowT ps id := ⟨_, rfl⟩
  rw [← hi, hn] at HP
  clear hi h hr hsm hn
  go_enter Try.func28, Try.ntmps28
  go_wp2_with fail
  go_at_call 32
  refine HP.out.mono ?_
  rintro e w1 ⟨rfl, hb⟩
  have HB : Hid (Below w.heap.size w w1) := hb
  clear hb
  go_wp2_with fail
  go_ret
  exact ⟨rfl, HB.out⟩
set_option maxRecDepth 4000 in
set_option maxHeartbeats 8000000 in
theorem fdrop_good (p B : Nat) (v : Value) (ps : List Th) (id : Int) (w : World) (h : BookAt w p B v ps) (hr : Asc ps) (hsm : ps.length ≤ 900) (hn : hasT ps id = true) :
    Calls Try.prog 28 #[.pointer (some ⟨p, 0, none⟩), .int .i64 id] w fun e w' => e = .returned .nilIface ∧ ∃ v', BookAt w' p B v' (outT ps id) ∧ TurnF (pfoot p v) (pfoot p v') w w' := by
  have HP : Hid (Calls Try.prog 32 #[.pointer (some ⟨p, 0, none⟩), .int .i64 id] w fun e w' => e = .returned (.tuple #[.int .i64 (lowT ps id : Nat), .bool (hasT ps id)]) ∧ Below w.heap.size w w') := fplace_any _ ps id w h.sees hr (by omega)
  obtain ⟨hlt, _⟩ := (low_memT hr).1 hn
  have HO := out_at hr hn
  rw [hn] at HP
  obtain ⟨L, hL⟩ : ∃ L, L = outT ps id := ⟨_, rfl⟩
  rw [← hL] at HO ⊢
  obtain ⟨i, hi⟩ : ∃ i, i = lowT ps id := ⟨_, rfl⟩
  rw [← hi] at HP hlt
  have HL : Hid (ps.take i ++ ps.drop (i + 1) = L) := by rw [hi]; exact HO.symm
  clear HO hL hi
  obtain ⟨g, cap, hv, _⟩ := rowE_form h.row (by omega)
  obtain ⟨n, hnn⟩ : ∃ n, n = ps.length := ⟨_, rfl⟩
  rw [← hnn] at hv hlt
  subst hv
  have HM : Hid (BookAt w p B (.slice (some ⟨g, 0, none⟩) n cap) ps ∧ ps.length ≤ 900 ∧ n = ps.length) := ⟨h, hsm, hnn⟩
  have hin : (i : Int) < (n : Int) := by omega
  have hi0 : (0 : Int) ≤ (i : Int) := by omega
  have hnm : (n : Int) ≤ 900 := by omega
  have hw1 : IntKind.i64.wrap ((i : Int) + 1) = (i : Int) + 1 := by rw [IntKind.wrap_i64]; omega
  clear h hr hsm hn hnn
  go_enter Try.func28, Try.ntmps28
  go_wp2_with fail
  go_at_call 32
  refine HP.out.mono ?_
  rintro e w1 ⟨rfl, hb⟩
  have H1 : Hid (BookAt w1 p B (.slice (some ⟨g, 0, none⟩) n cap) ps ∧ Below w.heap.size w w1) := ⟨HM.out.1.below hb, hb⟩
  clear hb HP
  have q0 : w1.cell? ⟨p, 0, none⟩ = some (.slice (some ⟨g, 0, none⟩) n cap) := blk_cell H1.out.1.cell rfl
  have HDE : Hid (Calls Try.prog 42 #[.slice (some ⟨g, 0, none⟩) n cap, .int .i64 (i : Int), .int .i64 ((i : Int) + 1)] w1 fun e w' => ∃ m, e = .returned (.slice (some ⟨g, 0, none⟩) m cap) ∧ w'.cell? ⟨p, 0, none⟩ = some (.slice (some ⟨g, 0, none⟩) n cap) ∧ w'.frozen? ⟨p, 0, none⟩ = false ∧ p < w'.heap.size ∧ Hid (BookAt (w'.setCell ⟨p, 0, none⟩ (.slice (some ⟨g, 0, none⟩) m cap)) p B (.slice (some ⟨g, 0, none⟩) m cap) L ∧ TurnF (pfoot p (.slice (some ⟨g, 0, none⟩) n cap)) (pfoot p (.slice (some ⟨g, 0, none⟩) m cap)) w (w'.setCell ⟨p, 0, none⟩ (.slice (some ⟨g, 0, none⟩) m cap)))) := by
    have hd := sdel_any B g n cap i (i + 1) ps w1 H1.out.1.row (by omega) (by omega)
    rw [show ((i + 1 : Nat) : Int) = (i : Int) + 1 by omega, HL.out] at hd
    refine hd.mono ?_
    rintro e w6 ⟨rfl, k1, k2⟩
    obtain ⟨m, hm⟩ : ∃ m, m = i + (n - (i + 1)) := ⟨_, rfl⟩
    rw [← hm] at k1 ⊢
    have hp6 : w6.heap[p]? = some (.cells #[.slice (some ⟨g, 0, none⟩) n cap] 57) := by rw [k2.block p (blk_lt H1.out.1.cell) (fun e => H1.out.1.off e.symm)]; exact H1.out.1.cell
    have hst := book_store H1.out.1 k2 k1 (fun k hk => .inl hk)
    exact ⟨m, rfl, blk_cell hp6 rfl, blk_frozen hp6 0, blk_lt hp6, hst.1, (turnF_below H1.out.2).trans hst.2⟩
  go_wp2_with (go_at_call 42; refine HDE.out.mono ?_; rintro e w6 ⟨m, rfl, q6, f6, l6, HK6⟩)
  go_ret
  exact ⟨rfl, _, HK6.out.1, HK6.out.2⟩
set_option maxRecDepth 4000 in
set_option maxHeartbeats 4000000 in
theorem fdeath_none (pv : Value) (ps : List Th) (id ep : Int) (w : World) (h : SeesB w pv ps) (hr : Asc ps) (hsm : ps.length ≤ 100000) (hn : hasT ps id = false) :
    Calls Try.prog 26 #[pv, .int .i64 id, .int .i64 ep] w fun e w' => e = .returned errA ∧ Below w.heap.size w w' := by
  have HP : Hid (Calls Try.prog 32 #[pv, .int .i64 id] w fun e w' => e = .returned (.tuple #[.int .i64 (lowT ps id : Nat), .bool (hasT ps id)]) ∧ Below w.heap.size w w') := fplace_any pv ps id w h hr hsm
  obtain ⟨i, hi⟩ : ∃ i, i = lowT ps id := ⟨_, rfl⟩
  rw [← hi, hn] at HP
  clear hi h hr hsm hn
  go_enter Try.func26, Try.ntmps26
  go_wp2_with fail
  go_at_call 32
  refine HP.out.mono ?_
  rintro e w1 ⟨rfl, hb⟩
  have HB : Hid (Below w.heap.size w w1) := hb
  clear hb
  go_wp2_with fail
  go_ret
  exact ⟨rfl, HB.out⟩
/-- The cells of a book's row, and its thing at a place given another end. -/
theorem book_died {w : World} {p B g n cap i : Nat} {ps : List Th} {ep : Int} (h : BookAt w p B (.slice (some ⟨g, 0, none⟩) n cap) ps) (hi : i < ps.length) :
    BookAt (w.setCell ⟨g, i * 3 + 2, none⟩ (.int .i64 ep)) p B (.slice (some ⟨g, 0, none⟩) n cap) (ps.set i { ps[i] with died := ep }) ∧ TurnF (pfoot p (.slice (some ⟨g, 0, none⟩) n cap)) (pfoot p (.slice (some ⟨g, 0, none⟩) n cap)) w (w.setCell ⟨g, i * 3 + 2, none⟩ (.int .i64 ep)) := by
  have hpg : p ≠ g := fun e => h.off (by rw [e]; rfl)
  have hs : (w.setCell ⟨g, i * 3 + 2, none⟩ (.int .i64 ep)).heap.size = w.heap.size := by simp [World.setCell]
  refine ⟨⟨by rw [Below.heap_setCell _ _ _ p hpg]; exact h.cell, rowE_put h.row i hi 2 (by decide) _ _ rfl, by rw [hs]; exact h.low, h.hp⟩, rfl, rfl, rfl, by rw [hs]; exact Nat.le_refl _, fun k hk h1 => ?_, fun k hk => .inl hk⟩
  exact Below.heap_setCell _ _ _ k (fun e => h1 (.inr (by rw [e]; rfl)))
end Go.Proofs.Ytbkciencikdacaa
