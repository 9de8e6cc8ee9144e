/- dolmenlaw10.LifeDrops. -/
import Derived.Test.YtbkciencikdacaaLPlayL
import Derived.Deep.RegionHeld3
namespace Go.Proofs.Ytbkciencikdacaa
open Go.RowKit Kit
set_option linter.unusedVariables false

/-- What is left when some numbers were dropped. -/
def dropsT (l : List Th) (is : List Int) : List Th := l.filter fun t => !inL is t.id
theorem drops0 (l : List Th) : dropsT l [] = l := by unfold dropsT; rw [List.filter_eq_self]; intro t _; simp [inL]
theorem drops_snoc (l : List Th) (is : List Int) (i : Nat) (h : i < is.length) : outT (dropsT l (is.take i)) (is.getD i 0) = dropsT l (is.take (i + 1)) := by
  unfold outT dropsT
  rw [List.filter_filter]
  refine List.filter_congr fun t _ => ?_
  have hm : t.id ∈ is.take (i + 1) ↔ t.id ∈ is.take i ∨ t.id = is.getD i 0 := by
    rw [List.take_succ_eq_append_getElem h, List.mem_append, List.mem_singleton, getD9 h]
  unfold inL
  rw [Bool.eq_iff_iff, Bool.and_eq_true, Bool.not_eq_true', Bool.not_eq_true', decide_eq_false_iff_not, decide_eq_false_iff_not, decide_eq_true_iff, hm]
  constructor
  · rintro ⟨h1, h2⟩ h3
    rcases h3 with h3 | h3
    · first | exact h2 h3 | exact h1 h3
    · first | exact h1 h3 | exact h2 h3
  · intro h3
    first
      | exact ⟨fun e => h3 (.inr e), fun e => h3 (.inl e)⟩
      | exact ⟨fun e => h3 (.inl e), fun e => h3 (.inr e)⟩
theorem drops_asc {l : List Th} (h : Asc l) (is : List Int) : Asc (dropsT l is) := h.sublist List.filter_sublist
theorem drops_len (l : List Th) (is : List Int) : (dropsT l is).length ≤ l.length := List.length_filter_le _ _
theorem drops_has {l : List Th} {is : List Int} {i : Nat} (hu : Ups is) (h : i < is.length) (hm : ∃ t ∈ l, t.id = is.getD i 0) : hasT (dropsT l (is.take i)) (is.getD i 0) = true := by
  obtain ⟨t, h1, h2⟩ := hm
  refine has_iffT.2 ⟨t, List.mem_filter.2 ⟨h1, ?_⟩, h2⟩
  rw [h2]
  unfold inL
  rw [Bool.not_eq_true', decide_eq_false_iff_not]
  intro hin
  obtain ⟨j, hj, e⟩ := List.getElem_of_mem hin
  rw [List.length_take] at hj
  rw [List.getElem_take, getD9 h] at e
  have := List.pairwise_iff_getElem.1 hu j i (by omega) h (by omega)
  omega
theorem drops_gone (l : List Th) (is : List Int) (i : Nat) (h : i < is.length) : hasT (dropsT l (is.take (i + 1))) (is.getD i 0) = false := by
  rw [← drops_snoc l is i h, Bool.eq_false_iff]
  intro e
  obtain ⟨t, h1, h2⟩ := has_iffT.1 e
  have := (List.mem_filter.1 h1).2
  simp [h2] at this
theorem drops_all {l : List Th} (h : Asc l) (f : Th → Bool) : dropsT l (idsT (fun t => !f t) l) = l.filter f := by
  unfold dropsT
  refine List.filter_congr fun t ht => ?_
  rw [Bool.eq_iff_iff]
  unfold inL
  rw [Bool.not_eq_true', decide_eq_false_iff_not, ids_mem]
  constructor
  · intro h1
    cases hf : f t
    · exact absurd ⟨t, ht, by simp [hf], rfl⟩ h1
    · rfl
  · rintro hf ⟨u, h1, h2, h3⟩
    have := once_eq (once_of h (List.Perm.refl _)) h1 ht h3
    subst this
    simp [hf] at h2
theorem ids_filter {l : List Th} {f g : Th → Bool} (h : ∀ t ∈ l, g t = true → f t = true) : idsT g (l.filter f) = idsT g l := by
  unfold idsT
  rw [List.filter_filter]
  congr 1
  refine List.filter_congr fun t ht => ?_
  cases hg : g t
  · simp
  · simp [h t ht hg]
theorem ids_none (l : List Th) (f : Th → Bool) : idsT (fun t => !f t) (l.filter f) = [] := by
  unfold idsT
  rw [List.filter_filter, List.map_eq_nil_iff, List.filter_eq_nil_iff]
  intro t _
  cases f t <;> simp
/-- Values of one cell each. -/
def vlE : Enc { v : Value // v.oneCell' = true } where
  k := 1
  c x := [x.1]
  len _ := rfl
  pos := by decide
  one p u hu := by simp at hu; subst hu; exact p.2
theorem infoIs : (Try.prog.info? 23).map (fun i => (i.zero, i.size, i.bytes)) = some (some (.slice none 0 0), 1, 24) := by kernel_rfl
theorem rowV_turn {w w' : World} {p B C : Nat} {v x : Value} {ps : List Th} {xs : List Value} {e : TypeId} {F' : Nat → Prop} (hb : BookAt w p B v ps) (t : TurnF (pfoot p v) F' w w') (h : RowV w C e x xs) (h1 : e ≠ 57) (h2 : e ≠ 67) : RowV w' C e x xs := by
  refine rowV_stay h fun k hk => ?_
  obtain ⟨cur, hc⟩ := rowV_obj h hk
  refine t.block k (blk_lt hc) fun hf => ?_
  rcases hf with rfl | hf
  · exact obj_ne hc hb.cell h1 rfl
  · obtain ⟨cur2, hc2⟩ := rowE_obj hb.row hf
    exact obj_ne hc hc2 h2 rfl
theorem rowE_turn {α : Type} {E : Enc α} {w w' : World} {p B C : Nat} {v x : Value} {ps : List Th} {xs : List α} {e : TypeId} {F' : Nat → Prop} (hb : BookAt w p B v ps) (t : TurnF (pfoot p v) F' w w') (h : RowE E w C e x xs) (h1 : e ≠ 57) (h2 : e ≠ 67) : RowE E w' C e x xs := by
  refine rowE_stay h fun k hk => ?_
  obtain ⟨cur, hc⟩ := rowE_obj h hk
  refine t.block k (blk_lt hc) fun hf => ?_
  rcases hf with rfl | hf
  · exact obj_ne hc hb.cell h1 rfl
  · obtain ⟨cur2, hc2⟩ := rowE_obj hb.row hf
    exact obj_ne hc hc2 h2 rfl
/-- A list of answers kept: row by row what lived at each epoch. -/
def Ats (w : World) (B : Nat) (ps : List Th) (es : List Int) (xs : List { v : Value // v.oneCell' = true }) : Prop :=
  xs.length = es.length ∧ ∀ (j : Nat) (h : j < xs.length), ∃ a c, xs[j].1 = .slice a (idsT (fun t => holdsB t.born t.died (es.getD j 0)) ps).length c ∧ RowV w B 3 xs[j].1 (iV (idsT (fun t => holdsB t.born t.died (es.getD j 0)) ps))
theorem Ats.stay {w w' : World} {B : Nat} {ps : List Th} {es : List Int} {xs : List { v : Value // v.oneCell' = true }} (h : Ats w B ps es xs) (hb : ∀ (k : Nat) (c : Array Value), w.heap[k]? = some (Obj.cells c 3) → w'.heap[k]? = w.heap[k]?) : Ats w' B ps es xs := by
  refine ⟨h.1, fun j hj => ?_⟩
  obtain ⟨a, c, h1, h2⟩ := h.2 j hj
  exact ⟨a, c, h1, rowV_stay h2 fun k hk => by obtain ⟨cur, hc⟩ := rowV_obj h2 hk; exact hb k _ hc⟩
theorem Ats.below {w w' : World} {B : Nat} {ps : List Th} {es : List Int} {xs : List { v : Value // v.oneCell' = true }} (h : Ats w B ps es xs) (hb : Below w.heap.size w w') : Ats w' B ps es xs := h.stay fun k c hk => hb.block k (blk_lt hk)
theorem Ats.snoc {w : World} {B : Nat} {ps : List Th} {es : List Int} {i : Nat} {xs : List { v : Value // v.oneCell' = true }} (h : Ats w B ps (es.take i) xs) (hi : i < es.length) (x : { v : Value // v.oneCell' = true }) (a : Option Addr) (c : Nat) (hx : x.1 = .slice a (idsT (fun t => holdsB t.born t.died (es.getD i 0)) ps).length c) (hr : RowV w B 3 x.1 (iV (idsT (fun t => holdsB t.born t.died (es.getD i 0)) ps))) : Ats w B ps (es.take (i + 1)) (xs ++ [x]) := by
  have hl : xs.length = i := by rw [h.1, List.length_take]; omega
  have ht : (es.take (i + 1)).length = i + 1 := by rw [List.length_take]; omega
  have hg : ∀ j, j < i + 1 → (es.take (i + 1)).getD j 0 = es.getD j 0 := fun j hj => by
    rw [getD9 (by omega), getD9 (by omega), List.getElem_take]
  have hg2 : ∀ j, j < i → (es.take i).getD j 0 = es.getD j 0 := fun j hj => by
    rw [getD9 (by rw [List.length_take]; omega), getD9 (by omega), List.getElem_take]
  refine ⟨by rw [List.length_append, hl, ht]; rfl, fun j hj => ?_⟩
  rw [List.length_append, hl] at hj
  have hj : j < i + 1 := hj
  rw [hg j hj]
  by_cases hji : j < i
  · obtain ⟨a', c', h1, h2⟩ := h.2 j (by omega)
    rw [hg2 j hji] at h1 h2
    rw [List.getElem_append_left (by omega)]
    exact ⟨a', c', h1, h2⟩
  · obtain rfl : j = i := by omega
    rw [List.getElem_append_right (by omega)]
    simp only [hl, Nat.sub_self, List.getElem_singleton]
    exact ⟨a, c, hx, hr⟩
theorem ats_nil (w : World) (B : Nat) (ps : List Th) : Ats w B ps [] [] := ⟨rfl, fun j hj => by simp at hj⟩
set_option maxRecDepth 4000 in
set_option maxHeartbeats 16000000 in
theorem ldrops_any (v0 v1 : Value) (ss : List St) (es : List Int) (w : World) (hs : SeesE stE w v0 ss) (he : Sees w v1 (iV es)) :
    Calls Try.prog 7 #[v0, v1] w fun e w' => e = .returned (.bool true) ∧ Below w.heap.size w w' := by
  obtain ⟨ao, cap, rfl⟩ := hs.form
  obtain ⟨n, hn⟩ : ∃ n, n = ss.length := ⟨_, rfl⟩
  obtain ⟨bo, bcap, hbf, _⟩ := he
  have he : Sees w v1 (iV es) := ⟨bo, bcap, hbf, ‹_›⟩
  rw [iV_len] at hbf
  obtain ⟨m, hm⟩ : ∃ m, m = es.length := ⟨_, rfl⟩
  rw [← hn] at hs ⊢
  rw [← hm] at hbf
  subst hbf
  have HS : Hid (SeesE stE w (.slice ao n cap) ss) := hs
  have HE : Hid (Sees w (.slice bo m bcap) (iV es)) := he
  have HN : Hid (n = ss.length) := hn
  have HM : Hid (m = es.length) := hm
  clear hs he hn hm
  by_cases hbig : 80 < n
  · have hbi : (80 : Int) < (n : Int) := by omega
    go_enter Try.func7, Try.ntmps7
    go_wp2_with (go_at_call 8; refine (awake_any _).mono ?_; rintro e w1 ⟨rfl, hb1⟩)
    go_ret
    exact ⟨rfl, hb1⟩
  have hbi : ¬ (80 : Int) < (n : Int) := by omega
  by_cases hbig2 : 20 < m
  · have hbj : (20 : Int) < (m : Int) := by omega
    go_enter Try.func7, Try.ntmps7
    go_wp2_with (go_at_call 8; refine (awake_any _).mono ?_; rintro e w1 ⟨rfl, hb1⟩)
    go_ret
    exact ⟨rfl, hb1⟩
  have hbj : ¬ (20 : Int) < (m : Int) := by omega
  have hnN : (n : Int) ≤ 80 := by omega
  have hmM : (m : Int) ≤ 20 := by omega
  have HNM : Hid (n ≤ 80 ∧ m ≤ 20) := ⟨by omega, by omega⟩
  have HNB : Hid (BookAt (w.alloc (.cells #[.slice none 0 0] 57)) w.heap.size w.heap.size (.slice none 0 0) (playP (ss.take 0)) ∧ Below w.heap.size w (w.alloc (.cells #[.slice none 0 0] 57))) := ⟨new_book w, bel_newG _ _⟩
  clear hbig hbig2
  go_enter Try.func7, Try.ntmps7
  go_wp2_with (go_at_call 9; refine (fnew_any w).mono ?_; rintro e w1 ⟨rfl, rfl⟩)
  go_loopw [6] (fun s wr => ∃ (i : Nat) (v : Value), i ≤ n ∧ s = .int .i64 (i : Int) ∧ Hid (BookAt wr w.heap.size w.heap.size v (playP (ss.take i)) ∧ Below w.heap.size w wr)) (fun s _ => n - (intOf s).toNat)
  case atStart => exact ⟨0, _, Nat.zero_le _, rfl, HNB.out⟩
  case round =>
    obtain ⟨wa, hwa⟩ : ∃ z, z = wr := ⟨_, rfl⟩
    subst hwa
    obtain ⟨i, v, hi, rfl, HI⟩ := hrel
    clear HNB
    by_cases hlt : i < n
    · have hii : (i : Int) < (n : Int) := by omega
      have hi0 : (0 : Int) ≤ (i : Int) := by omega
      have hil : i < ss.length := by have := HN.out; omega
      obtain ⟨b, off, e, hnn, hb, hc⟩ := st_cells (HS.out.below HI.out.2) (by omega)
      subst e
      obtain ⟨c0, c1, c2⟩ := hc i hil
      have HSN : Hid (playP (ss.take (i + 1)) = stepP ss[i] (playP (ss.take i))) := play_snoc ss i hil
      have HD : Hid (Calls Try.prog 10 #[.pointer (some ⟨w.heap.size, 0, none⟩), .pointer (some ⟨wa.heap.size, 0, none⟩), .agg (stE.c ss[i]).toArray] (wa.alloc (.cells #[.slice none 0 0, .slice none 0 0] 32)) fun e w' => ∃ bb, e = .returned (.bool bb) ∧ ∃ v', BookAt w' w.heap.size w.heap.size v' (stepP ss[i] (playP (ss.take i))) ∧ Below w.heap.size w w') := by
        have hp := play_ok (ss.take i)
        have hl : (ss.take i).length ≤ n := by rw [List.length_take]; omega
        have hnm := HNM.out.1
        have hbe : Below wa.heap.size wa (wa.alloc (.cells #[.slice none 0 0, .slice none 0 0] 32)) := bel_newG _ _
        have hr : RBook (wa.alloc (.cells #[.slice none 0 0, .slice none 0 0] 32)) wa.heap.size wa.heap.size (.slice none 0 0) (.slice none 0 0) [] := ⟨(MapKept.heap_alloc wa _).1, rowE_nil inE _ _ _, rowE_nil spE _ _ _, hbe.size, Nat.le_refl _⟩
        refine (ldoes_any _ _ _ _ ss[i] v _ _ _ [] _ (HI.out.1.below hbe) hr hp.1 List.Pairwise.nil (by have := hp.2.1; omega) (by simp)).mono ?_
        rintro e w' ⟨bb, rfl, _, v', iv', sv', k1, k2, k3⟩
        refine ⟨bb, rfl, v', k1, k3.below (bel_tr HI.out.2 hbe) (bel_tr HI.out.2 hbe).size fun j hj => ?_⟩
        rcases hj with hj | hj
        · exact (HI.out.1.below hbe).foot j hj
        · have := RBk.foot hr j hj
          have := HI.out.2.size
          omega
      obtain ⟨s, hs⟩ : ∃ s, s = ss[i] := ⟨_, rfl⟩
      rw [← hs] at c0 c1 c2 HSN HD
      clear hs hc hnn
      obtain ⟨sk, sd, se⟩ := s
      simp only at c0 c1 c2
      go_wp2_with (go_at_call 10; refine HD.out.mono ?_; rintro e w2 ⟨bb, rfl, v2, hb2, ht2⟩; have HI2 : Hid (BookAt w2 w.heap.size w.heap.size v2 (playP (ss.take (i + 1))) ∧ Below w.heap.size w w2) := ⟨by rw [HSN.out]; exact hb2, ht2⟩; clear hb2 ht2)
      go_roundw
      case rel => exact ⟨i + 1, _, by omega, by go_num, HI2.out⟩
      case measure => simp [intOf]; omega
    · have hin : ¬ (i : Int) < (n : Int) := by omega
      obtain ⟨ps, hps⟩ : ∃ z, z = playP (ss.take i) := ⟨_, rfl⟩
      have HG : Hid (Asc ps ∧ ps.length ≤ 80 ∧ ∀ t ∈ ps, ∃ s ∈ ss, s.id = t.id) := by
        have hp := play_ok (ss.take i)
        have hl : (ss.take i).length ≤ n := by rw [List.length_take]; omega
        have hnm := HNM.out.1
        rw [hps]
        refine ⟨hp.1, by have := hp.2.1; omega, fun t ht => ?_⟩
        obtain ⟨s, h1, h2⟩ := hp.2.2 t ht
        exact ⟨s, List.mem_of_mem_take h1, h2⟩
      rw [← hps] at HI
      clear hps
      have HB0 : Hid (Below w.heap.size w wa ∧ w.heap.size ≤ wa.heap.size) := ⟨HI.out.2, HI.out.2.size⟩
      obtain ⟨need, hneed⟩ : ∃ z : Th → Bool, z = fun t => needB t.born t.died es := ⟨_, rfl⟩
      have HF : Hid (need = fun t => needB t.born t.died es) := hneed
      clear hneed
      go_wp2_with fail
      go_at_call 16
      refine (fneeded_any _ _ ps es _ HI.out.1.sees (by have := HG.out.2.1; omega) (HE.out.below HI.out.2) (by have := HM.out; have := HNM.out.2; omega)).mono ?_
      rw [← HF.out]
      rintro e w2 ⟨r2, rfl, k1, k2⟩
      obtain ⟨na, ncap, hnf, _⟩ := k1.sees
      rw [iV_len] at hnf
      obtain ⟨nn, hnn⟩ : ∃ z, z = (idsT need ps).length := ⟨_, rfl⟩
      rw [← hnn] at hnf
      subst hnf
      have H2 : Hid (RowV w2 w.heap.size 3 (.slice na nn ncap) (iV (idsT need ps)) ∧ Below wa.heap.size wa w2 ∧ nn = (idsT need ps).length) := ⟨k1.mono HB0.out.2, k2, hnn⟩
      clear k1 k2 hnn
      go_wp2_with fail
      go_at_call 18
      refine (fdead_any _ _ ps es _ (HI.out.1.below H2.out.2.1).sees (by have := HG.out.2.1; omega) ((HE.out.below HI.out.2).below H2.out.2.1) (by have := HM.out; have := HNM.out.2; omega)).mono ?_
      rw [show (fun t : Th => !needB t.born t.died es) = fun t => !need t by rw [HF.out]]
      rintro e w3 ⟨r3, rfl, k1, k2⟩
      obtain ⟨da, dcap, hdf, _⟩ := k1.sees
      rw [iV_len] at hdf
      obtain ⟨dd, hdd⟩ : ∃ z, z = idsT (fun t => !need t) ps := ⟨_, rfl⟩
      rw [← hdd] at hdf k1
      obtain ⟨dn, hdn⟩ : ∃ z, z = dd.length := ⟨_, rfl⟩
      rw [← hdn] at hdf
      subst hdf
      have H3 : Hid (RowV w3 w.heap.size 3 (.slice da dn dcap) (iV dd) ∧ RowV w3 w.heap.size 3 (.slice na nn ncap) (iV (idsT need ps)) ∧ Below wa.heap.size wa w3) := ⟨k1.mono (Nat.le_trans HB0.out.2 H2.out.2.1.size), H2.out.1.below k2, bel_tr H2.out.2.1 k2⟩
      have HDD : Hid (dd = idsT (fun t => !need t) ps ∧ dn = dd.length ∧ Ups dd ∧ dn ≤ 80) := by
        refine ⟨hdd, hdn, by rw [hdd]; exact ids_ups HG.out.1 _, ?_⟩
        have := ids_len (fun t => !need t) ps
        have := HG.out.2.1
        rw [hdn, hdd]
        omega
      have hdn80 : (dn : Int) ≤ 80 := by have := HDD.out.2.2.2; omega
      clear k1 k2 hdd hdn
      go_wp2_with fail
      go_loopw [9, 10] (fun sl si wx => ∃ (j : Nat) (xs : List { v : Value // v.oneCell' = true }), j ≤ m ∧ si = .int .i64 (j : Int) ∧ Hid (RowE vlE wx w3.heap.size 23 sl xs ∧ Ats wx w3.heap.size ps (es.take j) xs ∧ Below w3.heap.size w3 wx)) (fun _ si _ => m - (intOf si).toNat)
      case atStart => exact ⟨0, [], Nat.zero_le _, rfl, rowE_nil vlE _ _ _, ats_nil _ _ _, Below.refl _ _⟩
      case round =>
        obtain ⟨wb, hwb⟩ : ∃ z, z = wr := ⟨_, rfl⟩
        subst hwb
        obtain ⟨j, xs, hj, rfl, HJ⟩ := hrel
        by_cases hjm : j < m
        · have hji : (j : Int) < (m : Int) := by omega
          have hj0 : (0 : Int) ≤ (j : Int) := by omega
          have HBB : Hid (Below wa.heap.size wa wb) := bel_tr H3.out.2.2 HJ.out.2.2
          have hjl : j < es.length := by have := HM.out; omega
          obtain ⟨b, off, e, hb, hc⟩ := sees_cells ((HE.out.below HI.out.2).below HBB.out) (by omega)
          subst e
          have c0 := hc j hjl
          obtain ⟨ee, hee⟩ : ∃ z, z = es.getD j 0 := ⟨_, rfl⟩
          rw [← hee] at c0
          have HEE : Hid (ee = es.getD j 0 ∧ j < es.length) := ⟨hee, hjl⟩
          clear hc hee hb hjl
          go_wp2_with fail
          go_at_call 14
          refine (fat_any _ ps ee _ (HI.out.1.below HBB.out).sees (by have := HG.out.2.1; omega)).mono ?_
          rintro e w4 ⟨r4, rfl, k1, k2⟩
          obtain ⟨aa, acap, haf, _⟩ := k1.sees
          rw [iV_len] at haf
          obtain ⟨an, han⟩ : ∃ z, z = (idsT (fun t => holdsB t.born t.died ee) ps).length := ⟨_, rfl⟩
          rw [← han] at haf
          subst haf
          have H4 : Hid (RowV w4 w3.heap.size 3 (.slice aa an acap) (iV (idsT (fun t => holdsB t.born t.died ee) ps)) ∧ Below wb.heap.size wb w4 ∧ an = (idsT (fun t => holdsB t.born t.died ee) ps).length) := ⟨k1.mono HJ.out.2.2.size, k2, han⟩
          clear k1 k2 han c0
          have HX : Hid (xs.length + 1 ≤ 21) := by
            have h1 := HJ.out.2.1.1
            rw [List.length_take] at h1
            have := HNM.out.2
            show _ ≤ _
            omega
          have HU : Hid (Below w4.heap.size w4 (w4.alloc (.cells #[.slice aa an acap] 23)) ∧ SeesE vlE (w4.alloc (.cells #[.slice aa an acap] 23)) (.slice (some ⟨w4.heap.size, 0, none⟩) 1 1) [⟨.slice aa an acap, rfl⟩]) := ⟨bel_newG _ _, seesE_at vlE (x := ⟨.slice aa an acap, rfl⟩) (MapKept.heap_alloc w4 _).1⟩
          have HLL : Hid (xs.length + ([⟨.slice aa an acap, rfl⟩] : List { v : Value // v.oneCell' = true }).length ≤ maxLen ∧ (xs.length + ([⟨.slice aa an acap, rfl⟩] : List { v : Value // v.oneCell' = true }).length) * 24 ≤ 140737488355328 ∧ w3.heap.size ≤ (w4.alloc (.cells #[.slice aa an acap] 23)).heap.size) := by
            have h1 : xs.length + 1 ≤ 21 := HX.out
            have h2 := HJ.out.2.2.size
            have h3 := H4.out.2.1.size
            have h4 := HU.out.1.size
            refine ⟨?_, ?_, by omega⟩ <;> simp only [List.length_cons, List.length_nil] <;> (try unfold maxLen) <;> omega
          go_wp2_with (at_builtin; refine wpList_appF (E := vlE) Try.underlying61 infoIs rfl rfl _ _ rfl w3.heap.size u9 xs rfl ((HJ.out.1.below H4.out.2.1).below HU.out.1) (.slice (some ⟨w4.heap.size, 0, none⟩) 1 1) [⟨.slice aa an acap, rfl⟩] rfl HU.out.2 HLL.out.1 HLL.out.2.1 HLL.out.2.2 ?_; intro v5 w5 k1 k2 k3; have H5 : Hid (RowE vlE w5 w3.heap.size 23 v5 (xs ++ [⟨.slice aa an acap, rfl⟩]) ∧ Ats w5 w3.heap.size ps (es.take (j + 1)) (xs ++ [⟨.slice aa an acap, rfl⟩]) ∧ Below w3.heap.size w3 w5) := (by
            have hbe := bel_tr H4.out.2.1 HU.out.1
            have hr9 := HJ.out.1.below hbe
            have hst : ∀ (k : Nat) (c : Array Value), (w4.alloc (.cells #[.slice aa an acap] 23)).heap[k]? = some (Obj.cells c 3) → w5.heap[k]? = (w4.alloc (.cells #[.slice aa an acap] 23)).heap[k]? := fun k c hk => k2.block k (blk_lt hk) (fun e => by
              obtain ⟨cur, hc⟩ := rowE_obj hr9 e.symm
              exact obj_ne (s := 3) (t := 23) hk hc (by decide) rfl)
            have h4r := H4.out.1.below HU.out.1
            refine ⟨k1, ?_, (bel_tr HJ.out.2.2 hbe).grown k2 HLL.out.2.2 (fun q hq => hr9.block q hq)⟩
            refine ((HJ.out.2.1.below hbe).stay hst).snoc HEE.out.2 _ aa acap ?_ ?_
            · rw [← HEE.out.1, ← H4.out.2.2]
            · rw [← HEE.out.1]
              exact rowV_stay h4r fun k hk => by obtain ⟨cur, hc⟩ := rowV_obj h4r hk; exact hst k _ hc); clear k1 k2 k3)
          go_roundw
          case rel => exact ⟨j + 1, _, by omega, by go_num, H5.out⟩
          case measure => simp [intOf]; omega
        · have hjn : ¬ (j : Int) < (m : Int) := by omega
          have HA : Hid (RowE vlE wb w3.heap.size 23 u9 xs ∧ Ats wb w3.heap.size ps es xs ∧ Below w3.heap.size w3 wb) := by
            have h1 := HJ.out
            rw [List.take_of_length_le (by have := HM.out; omega)] at h1
            exact h1
          obtain ⟨ta, tcap, htf⟩ := HA.out.1.sees.form
          obtain ⟨tn, htn⟩ : ∃ z, z = xs.length := ⟨_, rfl⟩
          rw [← htn] at htf
          have HTN : Hid (tn = xs.length ∧ tn = m) := by
            refine ⟨htn, ?_⟩
            have h1 := HA.out.2.1.1
            have h2 := HM.out
            omega
          clear htn
          subst htf
          have HD0 : Hid (BookAt wb w.heap.size w.heap.size v (dropsT ps (dd.take 0)) ∧ RowV wb w.heap.size 3 (.slice da dn dcap) (iV dd) ∧ RowV wb w.heap.size 3 (.slice na nn ncap) (iV (idsT need ps)) ∧ RowE vlE wb w3.heap.size 23 (.slice ta tn tcap) xs ∧ Ats wb w3.heap.size ps es xs ∧ Below w.heap.size w wb) := by
            have hbe := HA.out.2.2
            rw [List.take_zero, drops0]
            exact ⟨(HI.out.1.below H3.out.2.2).below hbe, H3.out.1.below hbe, H3.out.2.1.below hbe, HA.out.1, HA.out.2.1, bel_tr HB0.out.1 (bel_tr H3.out.2.2 hbe)⟩
          clear HJ HA H2 H3
          go_wp2_with fail
          go_loopw [11] (fun si wx => ∃ (q : Nat) (vq : Value), q ≤ dn ∧ si = .int .i64 (q : Int) ∧ Hid (BookAt wx w.heap.size w.heap.size vq (dropsT ps (dd.take q)) ∧ RowV wx w.heap.size 3 (.slice da dn dcap) (iV dd) ∧ RowV wx w.heap.size 3 (.slice na nn ncap) (iV (idsT need ps)) ∧ RowE vlE wx w3.heap.size 23 (.slice ta tn tcap) xs ∧ Ats wx w3.heap.size ps es xs ∧ Below w.heap.size w wx)) (fun si _ => dn - (intOf si).toNat)
          case atStart => exact ⟨0, _, Nat.zero_le _, rfl, HD0.out⟩
          case round =>
            obtain ⟨wc, hwc⟩ : ∃ z, z = wr := ⟨_, rfl⟩
            subst hwc
            obtain ⟨q, vq, hq, rfl, HQ⟩ := hrel
            clear HD0
            by_cases hqd : q < dn
            · have hqi : (q : Int) < (dn : Int) := by omega
              have hq0 : (0 : Int) ≤ (q : Int) := by omega
              have hql : q < dd.length := by have := HDD.out.2.1; omega
              obtain ⟨b, off, e, hb, hc⟩ := sees_cells HQ.out.2.1.sees (by omega)
              subst e
              have c0 := hc q hql
              obtain ⟨x, hx⟩ : ∃ z, z = dd.getD q 0 := ⟨_, rfl⟩
              rw [← hx] at c0
              have HXX : Hid (dd.getD q 0 = x ∧ q < dd.length ∧ hasT (dropsT ps (dd.take q)) x = true ∧ outT (dropsT ps (dd.take q)) x = dropsT ps (dd.take (q + 1)) ∧ hasT (dropsT ps (dd.take (q + 1))) x = false) := by
                have hm : ∃ t ∈ ps, t.id = dd.getD q 0 := by
                  have h1 : dd.getD q 0 ∈ dd := by rw [getD9 hql]; exact List.getElem_mem _
                  rw [HDD.out.1, ids_mem] at h1
                  obtain ⟨t, h2, _, h3⟩ := h1
                  exact ⟨t, h2, by rw [← HDD.out.1] at h3; exact h3⟩
                have h1 := drops_has (l := ps) HDD.out.2.2.1 hql hm
                have h2 := drops_snoc ps dd q hql
                have h3 := drops_gone ps dd q hql
                rw [← hx] at h1 h2 h3
                exact ⟨hx.symm, hql, h1, h2, h3⟩
              clear hc hx hb hql
              have HCC : Hid (b < wc.heap.size ∧ wc.cell? ⟨b, off + q, none⟩ = some (.int .i64 x)) := ⟨cell_lt9 c0, c0⟩
              go_wp2_with fail
              go_at_call 28
              refine (fdrop_good _ _ vq _ x _ HQ.out.1 (drops_asc HG.out.1 _) (by have := drops_len ps (dd.take q); have := HG.out.2.1; omega) HXX.out.2.2.1).mono ?_
              rw [HXX.out.2.2.2.1]
              rintro e w6 ⟨rfl, v6, hm6, ht6⟩
              have H6 : Hid (BookAt w6 w.heap.size w.heap.size v6 (dropsT ps (dd.take (q + 1))) ∧ RowV w6 w.heap.size 3 (.slice (some ⟨b, off, none⟩) dn dcap) (iV dd) ∧ RowV w6 w.heap.size 3 (.slice na nn ncap) (iV (idsT need ps)) ∧ RowE vlE w6 w3.heap.size 23 (.slice ta tn tcap) xs ∧ Ats w6 w3.heap.size ps es xs ∧ Below w.heap.size w w6) := by
                have hf := HQ.out.1
                refine ⟨hm6, rowV_turn hf ht6 HQ.out.2.1 (by decide) (by decide), rowV_turn hf ht6 HQ.out.2.2.1 (by decide) (by decide), rowE_turn hf ht6 HQ.out.2.2.2.1 (by decide) (by decide), HQ.out.2.2.2.2.1.stay (fun k c hk => ht6.block k (blk_lt hk) fun hfk => ?_), ht6.below HQ.out.2.2.2.2.2 HQ.out.2.2.2.2.2.size hf.foot⟩
                rcases hfk with rfl | hfk
                · exact obj_ne hk hf.cell (by decide) rfl
                · obtain ⟨cur2, hc2⟩ := rowE_obj hf.row hfk
                  exact obj_ne hk hc2 (by decide) rfl
              clear hm6 ht6 c0
              have d0 : w6.cell? ⟨b, off + q, none⟩ = some (.int .i64 x) := by
                obtain ⟨b', off', e, hb, hc⟩ := sees_cells H6.out.2.1.sees (by have := HXX.out.2.1; omega)
                cases e
                have := hc q HXX.out.2.1
                rw [HXX.out.1] at this
                exact this
              have d1 : b < w6.heap.size := cell_lt9 d0
              go_wp2_with fail
              go_at_call 28
              refine (fdrop_bad _ _ x _ H6.out.1.sees (drops_asc HG.out.1 _) (by have := drops_len ps (dd.take (q + 1)); have := HG.out.2.1; omega) HXX.out.2.2.2.2).mono ?_
              rintro e w7 ⟨rfl, k1⟩
              have H7 : Hid (BookAt w7 w.heap.size w.heap.size v6 (dropsT ps (dd.take (q + 1))) ∧ RowV w7 w.heap.size 3 (.slice (some ⟨b, off, none⟩) dn dcap) (iV dd) ∧ RowV w7 w.heap.size 3 (.slice na nn ncap) (iV (idsT need ps)) ∧ RowE vlE w7 w3.heap.size 23 (.slice ta tn tcap) xs ∧ Ats w7 w3.heap.size ps es xs ∧ Below w.heap.size w w7) := ⟨H6.out.1.below k1, H6.out.2.1.below k1, H6.out.2.2.1.below k1, H6.out.2.2.2.1.below k1, H6.out.2.2.2.2.1.below k1, bel_tr H6.out.2.2.2.2.2 k1⟩
              clear k1 d0 d1
              unfold errA
              go_wp2_with fail
              go_roundw
              case rel => exact ⟨q + 1, _, by omega, by go_num, H7.out⟩
              case measure => simp [intOf]; omega
            · have hqn : ¬ (q : Int) < (dn : Int) := by omega
              obtain ⟨qs, hqs⟩ : ∃ z, z = ps.filter need := ⟨_, rfl⟩
              have HQS : Hid (Asc qs ∧ qs.length ≤ 80 ∧ qs.length = nn ∧ (∀ e ∈ es, idsT (fun t => holdsB t.born t.died e) qs = idsT (fun t => holdsB t.born t.died e) ps) ∧ idsT (fun t => needB t.born t.died es) qs = idsT need ps ∧ idsT (fun t => !needB t.born t.died es) qs = []) := by
                have hnl : qs.length = (idsT need ps).length := by rw [hqs]; unfold idsT; rw [List.length_map]
                have h9 : nn = (idsT need ps).length := by
                  obtain ⟨_, _, e, _⟩ := HQ.out.2.2.1.sees
                  rw [iV_len] at e
                  injection e
                rw [hqs] at hnl ⊢
                refine ⟨HG.out.1.sublist List.filter_sublist, by have := List.length_filter_le need ps; have := HG.out.2.1; omega, by rw [hnl, h9], fun e he => ?_, ?_, ?_⟩
                · refine ids_filter fun t _ ht => ?_
                  rw [HF.out]
                  exact need_at he ht
                · rw [show (fun t : Th => needB t.born t.died es) = need by rw [HF.out]]
                  exact ids_filter fun t _ ht => ht
                · rw [show (fun t : Th => !needB t.born t.died es) = fun t => !need t by rw [HF.out]]
                  exact ids_none ps need
              have HD1 : Hid (BookAt wc w.heap.size w.heap.size vq qs ∧ RowV wc w.heap.size 3 (.slice na nn ncap) (iV (idsT need ps)) ∧ RowE vlE wc w3.heap.size 23 (.slice ta tn tcap) xs ∧ Ats wc w3.heap.size ps es xs ∧ Below w.heap.size w wc) := by
                have h1 := HQ.out
                rw [List.take_of_length_le (by have := HDD.out.2.1; omega), HDD.out.1, drops_all HG.out.1 need, ← hqs] at h1
                exact ⟨h1.1, h1.2.2.1, h1.2.2.2.1, h1.2.2.2.2.1, h1.2.2.2.2.2⟩
              clear HQ hqs
              go_wp2_with fail
              go_loopw [12] (fun si wx => ∃ (y : Nat), y ≤ m ∧ si = .int .i64 (y : Int) ∧ Hid (Below wc.heap.size wc wx)) (fun si _ => m - (intOf si).toNat)
              case atStart => exact ⟨0, Nat.zero_le _, rfl, Below.refl _ _⟩
              case round =>
                obtain ⟨wd, hwd⟩ : ∃ z, z = wr := ⟨_, rfl⟩
                subst hwd
                obtain ⟨y, hy, rfl, HY⟩ := hrel
                by_cases hym : y < m
                · have hyi : (y : Int) < (m : Int) := by omega
                  have hy0 : (0 : Int) ≤ (y : Int) := by omega
                  have hyl : y < es.length := by have := HM.out; omega
                  have hyt : (y : Int) < (tn : Int) := by have := HTN.out.2; omega
                  have HDB : Hid (Below w.heap.size w wd) := bel_tr HD1.out.2.2.2.2 HY.out
                  obtain ⟨b, off, e, hb, hc⟩ := sees_cells (HE.out.below HDB.out) (by omega)
                  subst e
                  have c0 := hc y hyl
                  obtain ⟨ee, hee⟩ : ∃ z, z = es.getD y 0 := ⟨_, rfl⟩
                  rw [← hee] at c0
                  have hxl : y < xs.length := by have := HTN.out; omega
                  obtain ⟨ta', toff, etf, htn9, htb, htc⟩ := (HD1.out.2.2.1.below HY.out).sees.cells (by omega)
                  have t0 := htc y hxl 0 _ rfl
                  have t0 : wd.cell? ⟨ta', toff + y, none⟩ = some xs[y].1 := by simpa [vlE] using t0
                  obtain ⟨xa, xc, hxf, hxr⟩ := (HD1.out.2.2.2.1.below HY.out).2 y hxl
                  rw [← hee] at hxf hxr
                  rw [hxf] at t0 hxr
                  obtain ⟨xn, hxn⟩ : ∃ z, z = (idsT (fun t => holdsB t.born t.died ee) ps).length := ⟨_, rfl⟩
                  rw [← hxn] at t0 hxr
                  have HXR : Hid (Sees wd (.slice xa xn xc) (iV (idsT (fun t => holdsB t.born t.died ee) ps)) ∧ ee ∈ es) := ⟨hxr.sees, by rw [hee, getD9 hyl]; exact List.getElem_mem _⟩
                  subst etf
                  have hb2 : b < wd.heap.size := cell_lt9 c0
                  have ht2 : ta' < wd.heap.size := cell_lt9 t0
                  have HKQ : Hid (∀ {X : World}, Below wd.heap.size wd X → X.cell? ⟨b, off + y, none⟩ = some (.int .i64 ee) ∧ X.cell? ⟨ta', toff + y, none⟩ = some (.slice xa xn xc)) := fun hbx => ⟨(hbx.cell (by exact hb2)).trans c0, (hbx.cell (by exact ht2)).trans t0⟩
                  have HAT : Hid (∀ X, Below wd.heap.size wd X → Calls Try.prog 14 #[.pointer (some ⟨w.heap.size, 0, none⟩), .int .i64 ee] X fun x w' => ∃ r, x = .returned r ∧ RowV w' X.heap.size 3 r (iV (idsT (fun t => holdsB t.born t.died ee) ps)) ∧ Below X.heap.size X w') := fun X hbx => by
                    have := fat_any (.pointer (some ⟨w.heap.size, 0, none⟩)) qs ee X ((HD1.out.1.below HY.out).below hbx).sees (by have := HQS.out.2.1; omega)
                    rw [HQS.out.2.2.2.1 ee HXR.out.2] at this
                    exact this
                  clear hc hee hxf hxr hxn htc htn9 htb hb hyl
                  go_upto_region 25 with fail
                  go_region_held3 (fun X => X.cell? ⟨b, off + y, none⟩ = some (.int .i64 ee) ∧ X.cell? ⟨ta', toff + y, none⟩ = some (.slice xa xn xc)) (first | exact HKQ.out (bel_drewL wd) | exact HKQ.out hw4 | exact HKQ.out hw5 | fail)
                    (first
                      | (go_at_call 14; refine (HAT.out _ (bel_drewL wd)).mono ?_; rintro e w4 ⟨r4, rfl, k4, b4⟩; have hw4 : Below wd.heap.size wd w4 := bel_tr (bel_drewL wd) b4)
                      | (go_at_call 13; refine (ints_same _ _ _ _ k4.sees (HXR.out.1.below hw4)).mono ?_; rintro e w5 ⟨rfl, b5⟩; have hw5 : Below wd.heap.size wd w5 := bel_tr hw4 b5)
                      | fail)
                  have HW5 : Hid (Below wc.heap.size wc w5) := bel_tr HY.out hw5
                  clear hw4 hw5 k4 b4 b5
                  go_wp2_with fail
                  go_roundw
                  case rel => exact ⟨y + 1, by omega, by go_num, HW5.out⟩
                  case measure => simp [intOf]; omega
                · have hyn : ¬ (y : Int) < (m : Int) := by omega
                  have HZ : Hid (BookAt wd w.heap.size w.heap.size vq qs ∧ Sees wd (.slice na nn ncap) (iV (idsT need ps)) ∧ Below w.heap.size w wd) := ⟨HD1.out.1.below HY.out, (HD1.out.2.1.below HY.out).sees, bel_tr HD1.out.2.2.2.2 HY.out⟩
                  have HLEN : Hid (((qs.length : Nat) : Int) = (nn : Int)) := by have := HQS.out.2.2.1; show _ = _; omega
                  clear HD1 HY
                  go_wp2_with fail
                  go_at_call 12
                  refine (flen_any _ qs _ HZ.out.1.sees).mono ?_
                  rw [HLEN.out]
                  rintro e w9 ⟨rfl, hw9⟩
                  subst w9
                  go_wp2_with fail
                  go_at_call 16
                  refine (fneeded_any _ _ qs es _ HZ.out.1.sees (by have := HQS.out.2.1; omega) (HE.out.below HZ.out.2.2) (by have := HM.out; have := HNM.out.2; omega)).mono ?_
                  rw [HQS.out.2.2.2.2.1]
                  rintro e wz ⟨rz, rfl, k1, k2⟩
                  have HZ1 : Hid (Sees wz rz (iV (idsT need ps)) ∧ Below wd.heap.size wd wz) := ⟨k1.sees, k2⟩
                  clear k1 k2
                  go_wp2_with fail
                  go_at_call 13
                  refine (ints_same _ _ _ _ HZ1.out.1 (HZ.out.2.1.below HZ1.out.2)).mono ?_
                  rintro e wy ⟨rfl, k1⟩
                  have HZ2 : Hid (Below wd.heap.size wd wy) := bel_tr HZ1.out.2 k1
                  clear k1
                  go_wp2_with fail
                  go_at_call 18
                  refine (fdead_any _ _ qs es _ (HZ.out.1.below HZ2.out).sees (by have := HQS.out.2.1; omega) ((HE.out.below HZ.out.2.2).below HZ2.out) (by have := HM.out; have := HNM.out.2; omega)).mono ?_
                  rw [HQS.out.2.2.2.2.2]
                  rintro e wx ⟨rx, rfl, k1, k2⟩
                  obtain ⟨xa, xcap, hxf, _⟩ := k1.sees
                  have hxf : rx = .slice xa 0 xcap := hxf
                  subst hxf
                  have HZ3 : Hid (Below w.heap.size w wx) := bel_tr HZ.out.2.2 (bel_tr HZ2.out k2)
                  clear k1 k2
                  go_wp2_with fail
                  go_at_call 8
                  refine (awake_any _).mono ?_
                  rintro e wv ⟨rfl, k1⟩
                  have HZ4 : Hid (Below w.heap.size w wv) := bel_tr HZ3.out k1
                  clear k1
                  go_wp2_with fail
                  go_ret
                  exact ⟨rfl, HZ4.out⟩
end Go.Proofs.Ytbkciencikdacaa
