/- package life: what is read of a book: Span, Holds, ids, At. -/
import Derived.Test.YtbkciencikdacaaFBin
import Derived.Test.YtbkciencikdacaaLInts
import Derived.Shelf.Abstract
import Derived.Deep.RegionHeld3
import Derived.Deep.RegionWith
import Derived.Deep.DeepCutAuto
namespace Go.Proofs.Ytbkciencikdacaa
open Go.RowKit Kit
set_option linter.unusedVariables false

theorem fspan_no (pv : Value) (ps : List Th) (s : Int) (w : World) (h : SeesB w pv ps) (hr : Asc ps) (hsm : ps.length ≤ 100000) (hn : hasT ps s = false) :
    Calls Try.prog 11 #[pv, .int .i64 s] w fun e w' => e = .returned (.tuple #[.agg #[.int .i64 0, .int .i64 0], .bool false]) ∧ Below w.heap.size w w' := by
  have HP : Hid (∀ W, Below w.heap.size w W → Calls Try.prog 32 #[pv, .int .i64 s] W fun e w' => e = .returned (.tuple #[.int .i64 (lowT ps s : Nat), .bool false]) ∧ Below W.heap.size W w') := fun W hb => by
    have := fplace_any pv ps s W (h.below hb) hr hsm
    rw [hn] at this
    exact this
  clear h hr hsm hn
  go_enter Try.func11, Try.ntmps11
  go_wp2_with fail
  go_at_call 32
  refine (HP.out _ (bel_newG _ _)).mono ?_
  rintro e w2 ⟨rfl, hb⟩
  have HB : Hid (Below w.heap.size w w2) := bel_tr (bel_newG _ _) hb
  have hl : w.heap.size < w2.heap.size := by have := hb.size; simp at this; omega
  have hbk : w2.heap[w.heap.size]? = some (.cells #[.int .i64 0, .int .i64 0] 36) := blk_below hb (MapKept.heap_alloc w _).1
  have c0 : w2.cell? ⟨w.heap.size, 0, none⟩ = some (.int .i64 0) := blk_cell hbk rfl
  have c1 : w2.cell? ⟨w.heap.size, 1, none⟩ = some (.int .i64 0) := blk_cell hbk rfl
  have f0 := blk_frozen hbk
  clear hb hbk
  go_wp2
  refine bodyPost_ret (v := .tuple #[.agg #[.int .i64 0, .int .i64 0], .bool false]) (by simp [results, Try.results11, go_sem, *]) rfl ⟨rfl, ?_⟩
  exact (HB.out.setCell (Nat.le_refl _) _).setCell (Nat.le_refl _) _
theorem fspan_yes (p B : Nat) (v : Value) (ps : List Th) (s : Int) (w : World) (h : w.heap[p]? = some (.cells #[v] 57)) (hs : SeesE thE w v ps) (hr : Asc ps) (hsm : ps.length ≤ 100000) (hn : hasT ps s = true) :
    Calls Try.prog 11 #[.pointer (some ⟨p, 0, none⟩), .int .i64 s] w fun e w' => (∃ t ∈ ps, t.id = s ∧ e = .returned (.tuple #[.agg #[.int .i64 t.born, .int .i64 t.died], .bool true])) ∧ Below w.heap.size w w' := by
  have HP : Hid (∀ W, Below w.heap.size w W → Calls Try.prog 32 #[.pointer (some ⟨p, 0, none⟩), .int .i64 s] W fun e w' => e = .returned (.tuple #[.int .i64 (lowT ps s : Nat), .bool true]) ∧ Below W.heap.size W w') := fun W hb => by
    have := fplace_any (.pointer (some ⟨p, 0, none⟩)) ps s W (.inr ⟨p, v, rfl, blk_below hb h, hs.below hb⟩) hr hsm
    rw [hn] at this
    exact this
  obtain ⟨hl, hid⟩ := (low_memT hr).1 hn
  obtain ⟨i, hi⟩ : ∃ i, lowT ps s = i := ⟨_, rfl⟩
  have HI : Hid (∃ t ∈ ps, t.id = s ∧ t = ps[lowT ps s]) := ⟨_, List.getElem_mem hl, hid, rfl⟩
  obtain ⟨ao, cap, rfl⟩ := hs.form
  obtain ⟨n, hnn⟩ : ∃ n, n = ps.length := ⟨_, rfl⟩
  obtain ⟨b, off, e, _, hb, hc⟩ := th_cells hs (by omega)
  subst e
  obtain ⟨t, ht⟩ : ∃ t, t = ps[lowT ps s] := ⟨_, rfl⟩
  obtain ⟨c0, c1, c2⟩ := hc (lowT ps s) hl
  rw [← ht] at c0 c1 c2
  have HT : Hid (t ∈ ps ∧ t.id = s) := ⟨by rw [ht]; exact List.getElem_mem hl, by rw [ht]; exact hid⟩
  obtain ⟨x, y, z⟩ := t
  simp only at c0 c1 c2
  rw [hi] at c0 c1 c2 HP
  have hin : (i : Int) < (n : Int) := by omega
  have hi0 : (0 : Int) ≤ (i : Int) := by omega
  have HC : Hid (w.heap[p]? = some (.cells #[.slice (some ⟨b, off, none⟩) n cap] 57) ∧ b < w.heap.size ∧ w.cell? ⟨b, off + i * 3 + 1, none⟩ = some (.int .i64 y) ∧ w.cell? ⟨b, off + i * 3 + 2, none⟩ = some (.int .i64 z)) := ⟨by rw [hnn]; exact h, hb, c1, c2⟩
  clear h hs hr hsm hn hl hid hi HI hc ht c0 c1 c2 hb hnn
  go_enter Try.func11, Try.ntmps11
  go_wp2_with fail
  go_at_call 32
  refine (HP.out _ (bel_newG _ _)).mono ?_
  rintro e w2 ⟨rfl, hb⟩
  have HB : Hid (Below w.heap.size w w2) := bel_tr (bel_newG _ _) hb
  have hl : w.heap.size < w2.heap.size := by have := hb.size; simp at this; omega
  have hbk : w2.heap[w.heap.size]? = some (.cells #[.int .i64 0, .int .i64 0] 36) := blk_below hb (MapKept.heap_alloc w _).1
  have c0 : w2.cell? ⟨w.heap.size, 0, none⟩ = some (.int .i64 0) := blk_cell hbk rfl
  have c1 : w2.cell? ⟨w.heap.size, 1, none⟩ = some (.int .i64 0) := blk_cell hbk rfl
  have f0 := blk_frozen hbk
  have q0 : w2.cell? ⟨p, 0, none⟩ = some (.slice (some ⟨b, off, none⟩) n cap) := blk_cell (blk_below HB.out HC.out.1) rfl
  have q1 : w2.cell? ⟨b, off + i * 3 + 1, none⟩ = some (.int .i64 y) := (HB.out.cell (by exact HC.out.2.1)).trans HC.out.2.2.1
  have q2 : w2.cell? ⟨b, off + i * 3 + 2, none⟩ = some (.int .i64 z) := (HB.out.cell (by exact HC.out.2.1)).trans HC.out.2.2.2
  clear hb hbk
  go_wp2
  refine bodyPost_ret (v := .tuple #[.agg #[.int .i64 y, .int .i64 z], .bool true]) (by simp [results, Try.results11, go_sem, *]) rfl ⟨⟨_, HT.out.1, HT.out.2, rfl⟩, ?_⟩
  exact (HB.out.setCell (Nat.le_refl _) _).setCell (Nat.le_refl _) _
theorem fholds_any (b d e : Int) (w : World) : Calls Try.prog 19 #[.agg #[.int .i64 b, .int .i64 d], .int .i64 e] w fun r w' => r = .returned (.bool (holdsB b d e)) ∧ Below w.heap.size w w' := by
  unfold holdsB
  by_cases h1 : b ≤ e
  · have HE : Hid (∀ w, Calls Try.prog 39 #[.agg #[.int .i64 b, .int .i64 d]] w fun r w' => r = .returned (.bool (!decide (d = 0))) ∧ Below w.heap.size w w') := fun w => fended_any b d w
    by_cases h2 : d = 0
    · subst h2
      go_enter Try.func19, Try.ntmps19
      go_wp2_with fail
      go_at_call 39
      refine (HE.out _).mono ?_
      rintro r w2 ⟨rfl, hb⟩
      have HB : Hid (Below w.heap.size w w2) := bel_tr (bel_newG _ _) hb
      clear hb
      go_wp2
      go_ret
      exact ⟨by simp [h1], HB.out⟩
    · by_cases h3 : e < d
      · go_enter Try.func19, Try.ntmps19
        go_wp2_with fail
        go_at_call 39
        refine (HE.out _).mono ?_
        rintro r w2 ⟨rfl, hb⟩
        have HB : Hid (Below w.heap.size w w2) := bel_tr (bel_newG _ _) hb
        have hbk : w2.heap[w.heap.size]? = some (.cells #[.int .i64 b, .int .i64 d] 36) := blk_below hb (MapKept.heap_alloc w _).1
        have c1 : w2.cell? ⟨w.heap.size, 1, none⟩ = some (.int .i64 d) := blk_cell hbk rfl
        clear hb hbk
        go_wp2
        go_ret
        exact ⟨by simp [h1, h2, h3], HB.out⟩
      · go_enter Try.func19, Try.ntmps19
        go_wp2_with fail
        go_at_call 39
        refine (HE.out _).mono ?_
        rintro r w2 ⟨rfl, hb⟩
        have HB : Hid (Below w.heap.size w w2) := bel_tr (bel_newG _ _) hb
        have hbk : w2.heap[w.heap.size]? = some (.cells #[.int .i64 b, .int .i64 d] 36) := blk_below hb (MapKept.heap_alloc w _).1
        have c1 : w2.cell? ⟨w.heap.size, 1, none⟩ = some (.int .i64 d) := blk_cell hbk rfl
        clear hb hbk
        go_wp2
        go_ret
        exact ⟨by simp [h2]; omega, HB.out⟩
  · go_enter Try.func19, Try.ntmps19
    go_wp2
    go_ret
    have h9 : ¬ b ≤ e := by omega
    exact ⟨by simp [h9], bel_newG _ _⟩
theorem ids_snoc (f : Th → Bool) (l : List Th) (i : Nat) (h : i < l.length) : idsT f (l.take (i + 1)) = idsT f (l.take i) ++ (if f l[i] then [l[i].id] else []) := by
  unfold idsT
  rw [List.take_succ_eq_append_getElem h, List.filter_append, List.map_append]
  congr 1
  by_cases hf : f l[i] = true
  · rw [List.filter_cons_of_pos hf, if_pos hf]; rfl
  · rw [List.filter_cons_of_neg hf, if_neg hf]; rfl
theorem ids_len (f : Th → Bool) (l : List Th) : (idsT f l).length ≤ l.length := by
  unfold idsT
  rw [List.length_map]
  exact List.length_filter_le _ _
theorem iV_snoc (a : List Int) (x : Int) : iV (a ++ [x]) = iV a ++ [.int .i64 x] := by simp [iV]
set_option maxRecDepth 4000 in
set_option maxHeartbeats 8000000 in
/-- The numbers of the things of whose spans something is true. -/
theorem fids_any (g : Nat) (cb : Array Value) (f : Th → Bool) (pv : Value) (ps : List Th) (w : World) (h : SeesB w pv ps) (hsm : ps.length ≤ 100000) (hg : ∀ args w, (callFunc g args).run Try.prog w = .ok (.enter g args) w)
    (hf : ∀ (W : World) (t : Th), Below w.heap.size w W → t ∈ ps → Calls Try.prog g (#[.agg #[.int .i64 t.born, .int .i64 t.died]] ++ cb) W fun e w' => e = .returned (.bool (f t)) ∧ Below W.heap.size W w') :
    Calls Try.prog 34 #[pv, .func (.func g) #[] cb] w fun e w' => ∃ r, e = .returned r ∧ RowV w' w.heap.size 3 r (iV (idsT f ps)) ∧ Below w.heap.size w w' := by
  have HF : Hid _ := hf
  have HA : Hid (Calls Try.prog 33 #[pv] w fun e w' => ∃ v, e = .returned v ∧ SeesE thE w v ps ∧ w' = w) := fall_any pv ps w h
  clear h hf
  go_enter Try.func34, Try.ntmps34
  go_wp2_with fail
  go_at_call 33
  refine HA.out.mono ?_
  rintro e w1 ⟨v, rfl, hs, hw⟩
  subst w1
  obtain ⟨ao, cap, rfl⟩ := hs.form
  obtain ⟨n, hn⟩ : ∃ n, n = ps.length := ⟨_, rfl⟩
  rw [← hn] at hs ⊢
  have HS : Hid (SeesE thE w (.slice ao n cap) ps) := hs
  have HN : Hid (n = ps.length ∧ n ≤ 100000) := ⟨hn, by omega⟩
  have hnm : (n : Int) ≤ 100000 := by omega
  clear hs HA hn hsm
  go_wp2_with fail
  go_loopw [5, 11] (fun s5 s11 wr => ∃ i : Nat, i ≤ n ∧ s11 = .int .i64 (i : Int) ∧ Hid (RowV wr w.heap.size 3 s5 (iV (idsT f (ps.take i))) ∧ Below w.heap.size w wr)) (fun _ s11 _ => n - (intOf s11).toNat)
  case atStart => exact ⟨0, Nat.zero_le _, rfl, rowV_nil _ _ _, Below.refl _ _⟩
  case round =>
    obtain ⟨wa, hwa⟩ : ∃ z, z = wr := ⟨_, rfl⟩
    subst hwa
    obtain ⟨i, hi, rfl, HR⟩ := hrel
    by_cases hlt : i < n
    · have hil : i < ps.length := by have := HN.out.1; omega
      have hii : (i : Int) < (n : Int) := by omega
      have hi0 : (0 : Int) ≤ (i : Int) := by omega
      obtain ⟨b, off, e, hnn, hb, hc⟩ := th_cells HS.out (by omega)
      subst e
      obtain ⟨c0, c1, c2⟩ := hc i hil
      have HSN : Hid (idsT f (ps.take (i + 1)) = idsT f (ps.take i) ++ (if f ps[i] then [ps[i].id] else [])) := ids_snoc f ps i hil
      have HL : Hid ((idsT f (ps.take i)).length ≤ 100000) := by
        have h1 := ids_len f (ps.take i)
        rw [List.length_take] at h1
        have := HN.out.2
        show _ ≤ _
        omega
      have HFT : Hid (∀ W, Below wa.heap.size wa W → Calls Try.prog g (#[.agg #[.int .i64 ps[i].born, .int .i64 ps[i].died]] ++ cb) W fun e w' => e = .returned (.bool (f ps[i])) ∧ Below W.heap.size W w') := fun W hb => HF.out W ps[i] (bel_tr HR.out.2 hb) (List.getElem_mem hil)
      obtain ⟨t, ht⟩ : ∃ t, t = ps[i] := ⟨_, rfl⟩
      rw [← ht] at c0 c1 c2 HSN HFT
      clear ht hc hnn
      obtain ⟨x, y, z⟩ := t
      simp only at c0 c1 c2 HSN HFT
      have c0 := (HR.out.2.cell (by exact hb)).trans c0
      have c1 := (HR.out.2.cell (by exact hb)).trans c1
      have c2 := (HR.out.2.cell (by exact hb)).trans c2
      cases hft : f ⟨x, y, z⟩ with
      | false =>
        rw [hft] at HSN HFT
        have HSM : Hid (idsT f (ps.take (i + 1)) = idsT f (ps.take i)) := by have := HSN.out; show _ = _; rw [this]; simp
        clear HSN
        go_wp2_with fail
        go_at_fn g
        refine (HFT.out _ (bel_newG _ _)).mono ?_
        rintro e w2 ⟨rfl, hb2⟩
        have HB2 : Hid (Below wa.heap.size wa w2) := bel_tr (bel_newG _ _) hb2
        clear hb2
        go_wp2_with fail
        go_roundw
        case rel => exact ⟨i + 1, by omega, by go_num, by rw [HSM.out]; exact HR.out.1.below HB2.out, bel_tr HR.out.2 HB2.out⟩
        case measure => simp [intOf]; omega
      | true =>
        rw [hft] at HSN HFT
        have HSM : Hid (iV (idsT f (ps.take (i + 1))) = iV (idsT f (ps.take i)) ++ [.int .i64 x]) := by have := HSN.out; show _ = _; rw [this]; exact iV_snoc _ _
        clear HSN
        go_wp2_with fail
        go_at_fn g
        refine (HFT.out _ (bel_newG _ _)).mono ?_
        rintro e w2 ⟨rfl, hb2⟩
        have HB2 : Hid (Below wa.heap.size wa w2) := bel_tr (bel_newG _ _) hb2
        have hbk : w2.heap[wa.heap.size]? = some (.cells #[.int .i64 x, .int .i64 y, .int .i64 z] 67) := blk_below hb2 (MapKept.heap_alloc wa _).1
        have d0 : w2.cell? ⟨wa.heap.size, 0, none⟩ = some (.int .i64 x) := blk_cell hbk rfl
        have hl2 : wa.heap.size < w2.heap.size := blk_lt hbk
        clear hb2 hbk c0 c1 c2
        go_wp2_with (at_builtin; refine wpList_appV Try.underlying23 infoI9 rfl (by decide) rfl _ _ rfl w.heap.size u5 (iV (idsT f (ps.take i))) rfl ?r1 (.slice (some ⟨w2.heap.size, 0, none⟩) 1 1) [.int .i64 x] rfl ?s1 ?c1 ?c2 ?c3 ?_)
        case r1 => exact (HR.out.1.below HB2.out).below (bel_newG _ _)
        case s1 => exact sees_one _ _ _ _ rfl
        case c1 => first | rfl | (intro y hy; simp at hy; subst hy; rfl)
        case c2 => have := HL.out; rw [iV_len]; simp; omega
        case c3 => have h1 := HR.out.2.size; have h2 := HB2.out.size; simp; omega
        intro l3 w3 hr3 hb3
        have HB3 : Hid (RowV w3 w.heap.size 3 l3 (iV (idsT f (ps.take (i + 1)))) ∧ Below w.heap.size w w3) := ⟨by rw [HSM.out]; exact hr3, Below.trans (Below.alloc (bel_tr HR.out.2 HB2.out) (by have h1 := HR.out.2.size; have h2 := HB2.out.size; omega) _) hb3⟩
        clear hr3 hb3
        go_wp2_with fail
        go_roundw
        case rel => exact ⟨i + 1, by omega, by go_num, HB3.out⟩
        case measure => simp [intOf]; omega
    · have hin : ¬ (i : Int) < (n : Int) := by omega
      have HE : Hid (RowV wa w.heap.size 3 u5 (iV (idsT f ps)) ∧ Below w.heap.size w wa) := by
        have h1 := HR.out
        rw [List.take_of_length_le (by have := HN.out.1; omega)] at h1
        exact h1
      go_wp2_with fail
      go_ret
      exact ⟨_, rfl, HE.out⟩
end Go.Proofs.Ytbkciencikdacaa
