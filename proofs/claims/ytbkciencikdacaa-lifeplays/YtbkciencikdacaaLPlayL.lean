/- A book that was played; what is needed and what is dead: the mathematics of the laws. fspan of any number; dolmenlaw10.all. -/
import Derived.Test.YtbkciencikdacaaLDoes
import Derived.Test.YtbkciencikdacaaLHas
import Derived.Test.YtbkciencikdacaaRAt
import Derived.Test.YtbkciencikdacaaLRound
namespace Go.Proofs.Ytbkciencikdacaa
open Go.RowKit Kit
set_option linter.unusedVariables false

theorem sees_cells {w : World} {bo : Option Addr} {m cap : Nat} {es : List Int} (h : Sees w (.slice bo m cap) (iV es)) (h0 : 0 < es.length) : ∃ b off, bo = some ⟨b, off, none⟩ ∧ b < w.heap.size ∧ ∀ i, i < es.length → w.cell? ⟨b, off + i, none⟩ = some (.int .i64 (es.getD i 0)) := by
  obtain ⟨ao, cap', e, _, _, _, h4⟩ := h
  injection e with e1 e2 e3
  subst e1
  obtain ⟨b, off, e4, hb, hc⟩ := h4 (by rw [iV_len]; exact h0)
  exact ⟨b, off, e4, hb, fun i hi => hc i _ (iV_at es i hi)⟩
noncomputable def playP (ss : List St) : List Th := ss.foldl (fun ps s => stepP s ps) []
theorem play_snoc (ss : List St) (i : Nat) (hi : i < ss.length) : playP (ss.take (i + 1)) = stepP ss[i] (playP (ss.take i)) := by
  unfold playP
  rw [List.take_succ_eq_append_getElem hi, List.foldl_append, List.foldl_cons, List.foldl_nil]
theorem step_ids (s : St) (l : List Th) (t : Th) (h : t ∈ stepP s l) : t.id = s.id ∨ ∃ u ∈ l, u.id = t.id := by
  unfold stepP at h
  split at h
  · split at h
    · have := (perm_put l _).mem_iff.1 h
      rcases List.mem_append.1 this with h1 | h1
      · exact .inr ⟨t, h1, rfl⟩
      · rw [List.mem_singleton] at h1
        subst h1
        exact .inl rfl
    · split at h
      · unfold diedT at h
        obtain ⟨u, h1, h2⟩ := List.mem_map.1 h
        refine .inr ⟨u, h1, ?_⟩
        rw [← h2]
        split <;> rfl
      · split at h
        · exact .inr ⟨t, (List.mem_filter.1 h).1, rfl⟩
        · exact .inr ⟨t, h, rfl⟩
  · exact .inr ⟨t, h, rfl⟩
theorem play_ok (ss : List St) : Asc (playP ss) ∧ (playP ss).length ≤ ss.length ∧ ∀ t ∈ playP ss, ∃ s ∈ ss, s.id = t.id := by
  unfold playP
  have key : ∀ (ss : List St) (l : List Th), Asc l → Asc (ss.foldl (fun ps s => stepP s ps) l) ∧ (ss.foldl (fun ps s => stepP s ps) l).length ≤ l.length + ss.length ∧ ∀ t ∈ ss.foldl (fun ps s => stepP s ps) l, (∃ u ∈ l, u.id = t.id) ∨ ∃ s ∈ ss, s.id = t.id := by
    intro ss
    induction ss with
    | nil => intro l h; exact ⟨h, by simp, fun t ht => .inl ⟨t, ht, rfl⟩⟩
    | cons s ss ih =>
      intro l h
      obtain ⟨h1, h2, h3⟩ := ih _ (step_asc h s)
      refine ⟨h1, ?_, fun t ht => ?_⟩
      · have := step_len l s
        simp only [List.foldl_cons, List.length_cons]
        omega
      · rcases h3 t ht with ⟨u, hu, e⟩ | ⟨s', hs, e⟩
        · rcases step_ids s l u hu with h4 | ⟨x, hx, h4⟩
          · exact .inr ⟨s, List.mem_cons_self .., by rw [← h4]; exact e⟩
          · exact .inl ⟨x, hx, by rw [h4, e]⟩
        · exact .inr ⟨s', List.mem_cons_of_mem _ hs, e⟩
  obtain ⟨h1, h2, h3⟩ := key ss [] asc0
  refine ⟨h1, by simpa using h2, fun t ht => ?_⟩
  rcases h3 t ht with ⟨u, hu, _⟩ | h
  · cases hu
  · exact h
theorem ids_mem {f : Th → Bool} {l : List Th} {y : Int} : y ∈ idsT f l ↔ ∃ t ∈ l, f t = true ∧ t.id = y := by
  unfold idsT
  rw [List.mem_map]
  constructor
  · rintro ⟨t, h1, h2⟩
    obtain ⟨h3, h4⟩ := List.mem_filter.1 h1
    exact ⟨t, h3, h4, h2⟩
  · rintro ⟨t, h1, h2, h3⟩
    exact ⟨t, List.mem_filter.2 ⟨h1, h2⟩, h3⟩
theorem ids_split (f : Th → Bool) (l : List Th) : (idsT f l).length + (idsT (fun t => !f t) l).length = l.length := by
  unfold idsT
  rw [List.length_map, List.length_map]
  induction l with
  | nil => rfl
  | cons a l ih =>
    cases h : f a
    · rw [List.filter_cons_of_neg (by simp [h]), List.filter_cons_of_pos (by simp [h]), List.length_cons, List.length_cons]; omega
    · rw [List.filter_cons_of_pos (by simp [h]), List.filter_cons_of_neg (by simp [h]), List.length_cons, List.length_cons]; omega
theorem ids_both {l : List Th} (h : Asc l) (f : Th → Bool) : srtI (idsT f l ++ idsT (fun t => !f t) l) = idsT (fun _ => true) l := by
  obtain ⟨h1, h2⟩ := srt_ok (idsT f l ++ idsT (fun t => !f t) l)
  refine ups_ext _ _ h1 (ids_ups h _) fun y => ?_
  rw [h2, List.mem_append, ids_mem, ids_mem, ids_mem]
  constructor
  · rintro (⟨t, h3, _, h5⟩ | ⟨t, h3, _, h5⟩)
    · exact ⟨t, h3, rfl, h5⟩
    · exact ⟨t, h3, rfl, h5⟩
  · rintro ⟨t, h3, _, h5⟩
    cases hf : f t
    · exact .inr ⟨t, h3, by simp [hf], h5⟩
    · exact .inl ⟨t, h3, hf, h5⟩
/-- The numbers of steps that are there. -/
def hereI (ps : List Th) (ss : List St) : List Int := (ss.filter fun s => hasT ps s.id).map St.id
theorem here_snoc (ps : List Th) (ss : List St) (i : Nat) (h : i < ss.length) : hereI ps (ss.take (i + 1)) = hereI ps (ss.take i) ++ (if hasT ps ss[i].id then [ss[i].id] else []) := by
  unfold hereI
  rw [List.take_succ_eq_append_getElem h, List.filter_append, List.map_append]
  congr 1
  by_cases hf : hasT ps ss[i].id = true
  · rw [List.filter_cons_of_pos (p := fun s : St => hasT ps s.id) hf, if_pos hf]; rfl
  · rw [List.filter_cons_of_neg (p := fun s : St => hasT ps s.id) hf, if_neg hf]; rfl
theorem here_len (ps : List Th) (ss : List St) : (hereI ps ss).length ≤ ss.length := by
  unfold hereI
  rw [List.length_map]
  exact List.length_filter_le _ _
theorem here_all {ps : List Th} {ss : List St} (h : Asc ps) (hs : ∀ t ∈ ps, ∃ s ∈ ss, s.id = t.id) : srtI (hereI ps ss) = idsT (fun _ => true) ps := by
  obtain ⟨h1, h2⟩ := srt_ok (hereI ps ss)
  refine ups_ext _ _ h1 (ids_ups h _) fun y => ?_
  rw [h2, ids_mem]
  unfold hereI
  rw [List.mem_map]
  constructor
  · rintro ⟨s, h3, rfl⟩
    obtain ⟨h4, h5⟩ := List.mem_filter.1 h3
    obtain ⟨t, h6, h7⟩ := has_iffT.1 h5
    exact ⟨t, h6, rfl, h7⟩
  · rintro ⟨t, h3, _, rfl⟩
    obtain ⟨s, h4, h5⟩ := hs t h3
    exact ⟨s, List.mem_filter.2 ⟨h4, has_iffT.2 ⟨t, h3, h5.symm⟩⟩, h5⟩
theorem need_more {b d : Int} {es fs : List Int} (h : ∀ e ∈ es, e ∈ fs) (hn : needB b d es = true) : needB b d fs = true := by
  unfold needB at *
  rw [Bool.or_eq_true, List.any_eq_true] at *
  rcases hn with hn | ⟨e, h1, h2⟩
  · exact .inl hn
  · exact .inr ⟨e, h e h1, h2⟩
theorem need_at {b d e : Int} {es : List Int} (h : e ∈ es) (hh : holdsB b d e = true) : needB b d es = true := by
  unfold needB
  rw [Bool.or_eq_true, List.any_eq_true]
  exact .inr ⟨e, h, hh⟩
theorem less_mem {es : List Int} {k : Nat} : ∀ e ∈ es.take k ++ es.drop (k + 1), e ∈ es := by
  intro e he
  rcases List.mem_append.1 he with h | h
  · exact List.mem_of_mem_take h
  · exact List.mem_of_mem_drop h
theorem ids_sub {f g : Th → Bool} {l : List Th} (h : ∀ t ∈ l, f t = true → g t = true) {y : Int} (hy : y ∈ idsT f l) : inL (idsT g l) y = true := by
  obtain ⟨t, h1, h2, h3⟩ := ids_mem.1 hy
  unfold inL
  exact decide_eq_true (ids_mem.2 ⟨t, h1, h t h1 h2, h3⟩)
theorem fspan_any (p : Nat) (v : Value) (ps : List Th) (s : Int) (w : World) (h : w.heap[p]? = some (.cells #[v] 57)) (hs : SeesE thE w v ps) (hr : Asc ps) (hsm : ps.length ≤ 100000) :
    Calls Try.prog 11 #[.pointer (some ⟨p, 0, none⟩), .int .i64 s] w fun e w' => ∃ x y : Int, e = .returned (.tuple #[.agg #[.int .i64 x, .int .i64 y], .bool (hasT ps s)]) ∧ ((∃ t ∈ ps, t.id = s ∧ x = t.born ∧ y = t.died) ∨ hasT ps s = false ∧ x = 0 ∧ y = 0) ∧ Below w.heap.size w w' := by
  cases hh : hasT ps s with
  | false =>
    refine (fspan_no _ ps s w (.inr ⟨p, v, rfl, h, hs⟩) hr hsm hh).mono ?_
    rintro e w' ⟨rfl, hb⟩
    exact ⟨0, 0, rfl, .inr ⟨rfl, rfl, rfl⟩, hb⟩
  | true =>
    refine (fspan_yes p 0 v ps s w h hs hr hsm hh).mono ?_
    rintro e w' ⟨⟨t, h1, h2, rfl⟩, hb⟩
    exact ⟨_, _, rfl, .inl ⟨t, h1, h2, rfl, rfl⟩, hb⟩
set_option maxRecDepth 4000 in
set_option maxHeartbeats 8000000 in
theorem lall_any (p : Nat) (v v0 : Value) (ps : List Th) (ss : List St) (w : World) (h : w.heap[p]? = some (.cells #[v] 57)) (hs : SeesE thE w v ps) (hr : Asc ps) (hsm : ps.length ≤ 100000) (hv : SeesE stE w v0 ss) (hl : ss.length ≤ 900) :
    Calls Try.prog 23 #[.pointer (some ⟨p, 0, none⟩), v0] w fun x w' => ∃ r, x = .returned r ∧ RowV w' w.heap.size 3 r (iV (srtI (hereI ps ss))) ∧ Below w.heap.size w w' := by
  obtain ⟨ao, cap, rfl⟩ := hv.form
  obtain ⟨n, hn⟩ : ∃ n, n = ss.length := ⟨_, rfl⟩
  rw [← hn] at hv ⊢
  have HS : Hid (SeesE stE w (.slice ao n cap) ss) := hv
  have HN : Hid (n = ss.length ∧ n ≤ 900) := ⟨hn, by omega⟩
  have HP : Hid (∀ (x : Int) (W : World), Below w.heap.size w W → Calls Try.prog 11 #[.pointer (some ⟨p, 0, none⟩), .int .i64 x] W fun e w' => ∃ a b : Int, e = .returned (.tuple #[.agg #[.int .i64 a, .int .i64 b], .bool (hasT ps x)]) ∧ ((∃ t ∈ ps, t.id = x ∧ a = t.born ∧ b = t.died) ∨ hasT ps x = false ∧ a = 0 ∧ b = 0) ∧ Below W.heap.size W w') := fun x W hb => fspan_any p v ps x W (blk_below hb h) (hs.below hb) hr hsm
  have hnm : (n : Int) ≤ 900 := by omega
  clear h hs hr hsm hv hl hn
  go_enter Try.func23, Try.ntmps23
  go_upto_region 3 with fail
  go_loopw [5, 6] (fun sl si wr => ∃ i : Nat, i ≤ n ∧ si = .int .i64 (i : Int) ∧ Hid (RowV wr w.heap.size 3 sl (iV (hereI ps (ss.take i))) ∧ Below w.heap.size w wr)) (fun _ si _ => n - (intOf si).toNat)
  case atStart => exact ⟨0, Nat.zero_le _, rfl, rowV_nil _ _ _, Below.refl _ _⟩
  case round =>
    obtain ⟨wa, hwa⟩ : ∃ z, z = wr := ⟨_, rfl⟩
    subst hwa
    obtain ⟨i, hi, rfl, HR⟩ := hrel
    by_cases hlt : i < n
    · have hil : i < ss.length := by have := HN.out.1; omega
      have hii : (i : Int) < (n : Int) := by omega
      have hi0 : (0 : Int) ≤ (i : Int) := by omega
      obtain ⟨b, off, e, hnn, hb, hc⟩ := st_cells (HS.out.below HR.out.2) (by omega)
      subst e
      obtain ⟨c0, c1, c2⟩ := hc i hil
      have HSN : Hid (hereI ps (ss.take (i + 1)) = hereI ps (ss.take i) ++ (if hasT ps ss[i].id then [ss[i].id] else [])) := here_snoc ps ss i hil
      have HL : Hid ((hereI ps (ss.take i)).length ≤ 900) := by
        have h1 := here_len ps (ss.take i)
        rw [List.length_take] at h1
        have := HN.out.2
        show _ ≤ _
        omega
      obtain ⟨s, hs⟩ : ∃ s, s = ss[i] := ⟨_, rfl⟩
      rw [← hs] at c0 c1 c2 HSN
      clear hs hc hnn
      obtain ⟨x, y, z⟩ := s
      simp only at c0 c1 c2 HSN
      have HSP : Hid (Calls Try.prog 11 #[.pointer (some ⟨p, 0, none⟩), .int .i64 y] wa fun e w' => ∃ a b : Int, e = .returned (.tuple #[.agg #[.int .i64 a, .int .i64 b], .bool (hasT ps y)]) ∧ ((∃ t ∈ ps, t.id = y ∧ a = t.born ∧ b = t.died) ∨ hasT ps y = false ∧ a = 0 ∧ b = 0) ∧ Below wa.heap.size wa w') := HP.out y wa HR.out.2
      have HCC : Hid (b < wa.heap.size ∧ wa.cell? ⟨b, off + i * 3 + 1, none⟩ = some (.int .i64 y)) := ⟨hb, c1⟩
      cases hft : hasT ps y with
      | false =>
        rw [hft] at HSP
        have HSM : Hid (hereI ps (ss.take (i + 1)) = hereI ps (ss.take i)) := by have := HSN.out; show _ = _; rw [this, hft]; simp
        clear HSN hft
        go_wp2_with (go_at_call 11; refine HSP.out.mono ?_; rintro e w2 ⟨a9, b9, rfl, _, hb2⟩; have HB2 : Hid (Below wa.heap.size wa w2) := hb2; clear hb2)
        go_roundw
        case rel => exact ⟨i + 1, by omega, by go_num, by rw [HSM.out]; exact (HR.out.1.below HB2.out).below (bel_newG _ _), bel_tr HR.out.2 (bel_tr HB2.out (bel_newG _ _))⟩
        case measure => simp [intOf]; omega
      | true =>
        rw [hft] at HSP
        have HSM : Hid (iV (hereI ps (ss.take (i + 1))) = iV (hereI ps (ss.take i)) ++ [.int .i64 y]) := by have := HSN.out; show _ = _; rw [this, hft]; exact iV_snoc _ _
        clear HSN hft
        go_upto_region 6 with (go_at_call 11; refine HSP.out.mono ?_; rintro e w2 ⟨a9, b9, rfl, _, hb2⟩; have HB2 : Hid (Below wa.heap.size wa w2) := hb2; clear hb2)
        obtain ⟨w3, hw3⟩ : ∃ z, z = w2.alloc (.cells #[.int .i64 a9, .int .i64 b9] 36) := ⟨_, rfl⟩
        have HB3 : Hid (Below wa.heap.size wa w3) := by rw [hw3]; exact bel_tr HB2.out (bel_newG _ _)
        rw [← hw3]
        clear hw3 c0 c1 c2 hb
        have d1 : w3.cell? ⟨b, off + i * 3 + 1, none⟩ = some (.int .i64 y) := (HB3.out.cell (by exact HCC.out.1)).trans HCC.out.2
        have dl : b < w3.heap.size := cell_lt9 d1
        go_wp2_with (at_builtin; refine wpList_appV Try.underlying23 infoI9 rfl (by decide) rfl _ _ rfl w.heap.size u5 (iV (hereI ps (ss.take i))) rfl ?r1 (.slice (some ⟨w3.heap.size, 0, none⟩) 1 1) [.int .i64 y] rfl ?s1 ?c1 ?c2 ?c3 ?_)
        case r1 => exact (HR.out.1.below HB3.out).below (bel_newG _ _)
        case s1 => exact sees_one _ _ _ _ rfl
        case c1 => first | rfl | (intro y hy; simp at hy; subst hy; rfl)
        case c2 => have := HL.out; rw [iV_len]; simp; omega
        case c3 => have h1 := HR.out.2.size; have h2 := HB3.out.size; simp; omega
        intro l3 w4 hr3 hb3
        have HB4 : Hid (RowV w4 w.heap.size 3 l3 (iV (hereI ps (ss.take (i + 1)))) ∧ Below w.heap.size w w4) := ⟨by rw [HSM.out]; exact hr3, Below.trans (Below.alloc (bel_tr HR.out.2 HB3.out) (by have h1 := HR.out.2.size; have h2 := HB3.out.size; omega) _) hb3⟩
        clear hr3 hb3
        go_wp2_with fail
        go_roundw
        case rel => exact ⟨i + 1, by omega, by go_num, HB4.out⟩
        case measure => simp [intOf]; omega
    · have hin : ¬ (i : Int) < (n : Int) := by omega
      have HE : Hid (RowV wa w.heap.size 3 u5 (iV (hereI ps ss)) ∧ Below w.heap.size w wa ∧ (hereI ps ss).length ≤ 100000) := by
        have h1 := HR.out
        rw [List.take_of_length_le (by have := HN.out.1; omega)] at h1
        exact ⟨h1.1, h1.2, by have := here_len ps ss; have := HN.out.1; have := HN.out.2; omega⟩
      go_wp2_with (go_at_call 22; refine (rsorted_any _ _ _ HE.out.1.sees HE.out.2.2).mono ?_; rintro e w4 ⟨r4, rfl, hr4, hb4⟩; have H4 : Hid (RowV w4 w.heap.size 3 r4 (iV (srtI (hereI ps ss))) ∧ Below w.heap.size w w4) := ⟨hr4.mono HE.out.2.1.size, bel_tr HE.out.2.1 hb4⟩; clear hr4 hb4)
      go_ret
      exact ⟨_, rfl, H4.out⟩
end Go.Proofs.Ytbkciencikdacaa
