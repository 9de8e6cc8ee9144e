/- dolmenlaw10.LifeNeeded. -/
import Derived.Test.YtbkciencikdacaaLPlayL
import Derived.Deep.RegionLaw
namespace Go.Proofs.Ytbkciencikdacaa
open Go.RowKit Kit
set_option linter.unusedVariables false

theorem sees_inE {w : World} {v : Value} {l : List Int} (h : Sees w v (iV l)) : SeesE inE w v l := by
  obtain ⟨ao, cap, h1, h2, h3, h4, h5⟩ := h
  rw [iV_len] at h1 h2 h5
  refine ⟨ao, cap, h1, h2, h3, h4, fun h0 => ?_⟩
  obtain ⟨b, off, e, hb, hc⟩ := h5 h0
  rw [inE_flat]
  exact ⟨b, off, e, hb, hc⟩
theorem from_seesI {w : World} {b off n cap : Nat} {l : List Int} (h : SeesE inE w (.slice (some ⟨b, off, none⟩) n cap) l) (j : Nat) (hj : j ≤ n) :
    ∃ A : Addr, (if cap = j then some (⟨b, off, none⟩ : Addr) else some ⟨b, off + j, none⟩) = some A ∧ Hid (SeesE inE w (.slice (some A) (n - j) (cap - j)) (l.drop j)) := by
  obtain ⟨ao, cap', e, h2, h3, _, _⟩ := id h
  injection e with e1 e2 e3
  subst e3
  by_cases hc : cap = j
  · refine ⟨_, by rw [if_pos hc], ?_⟩
    have : l.drop j = [] := List.drop_eq_nil_of_le (by omega)
    show SeesE _ _ _ _
    rw [this, show n - j = 0 by omega, show cap - j = 0 by omega]
    exact ⟨_, 0, rfl, Nat.le_refl _, Nat.zero_le _, by simp, fun h => absurd h (by simp)⟩
  · refine ⟨_, by rw [if_neg hc], ?_⟩
    have h9 := h.drop j (by omega)
    rw [show off + j * inE.k = off + j by simp [inE]] at h9
    exact h9
theorem app_firstN {W w' : World} {t : TypeId} {n c : Nat} (hg : ((W.alloc (.cells #[] t)).drew).grownBy w' (Value.slice (some ⟨W.heap.size, 0, none⟩) n c).ownBlock) : Below W.heap.size W w' := by
  have hb : Below W.heap.size W (W.alloc (.cells #[] t)).drew := (bel_newG _ _).drew
  exact ⟨hg.os.trans hb.os, hg.tape.trans hb.tape, hg.output.trans hb.output, Nat.le_trans hb.size hg.size, fun k hk => by
    have h2 := hb.size
    rw [hg.block k (by omega) (fun e => by simp [Value.ownBlock] at e; omega), hb.block k hk]⟩
/-- append at a step that is guarded, and taken. -/
theorem wpList_appT {α : Type} {E : Enc α} {P : Program} {T e : TypeId} {z : Value} {bytes : Nat} (hT : P.underlying T = some (.slice e)) (hI : (P.info? e).map (fun i => (i.zero, i.size, i.bytes)) = some (some z, E.k, bytes)) (hzc : z.cells.size = E.k) {ops : Array Oper} {rest : List Oper} {o : Oper} {a : Act} {Q : Exit → Act → World → Prop} {w : World} (hgw : Region.wanted o (yielded ops a.tmps) = true) (s x : Operand)
    (ho : o.op = .call { callee := .builtin .append, args := #[s, x], argTypes := #[T, T] }) (base : Nat) (v : Value) (xs : List α) (hs : a.eval s = v) (hown : RowE E w base e v xs)
    (y : Value) (news : List α) (hx : a.eval x = y) (hv : SeesE E w y news) (hm : xs.length + news.length ≤ maxLen) (hlen : (xs.length + news.length) * bytes ≤ 140737488355328) (hbase : base ≤ w.heap.size)
    (h : ∀ v' w', RowE E w' base e v' (xs ++ news) → w.grownBy w' v.ownBlock → wpList P ops Q rest (a.put o.dst v') w') : wpList P ops Q (o :: rest) a w := by
  unfold wpList
  rw [if_pos hgw]
  exact .inl (wp_appE hT hI hzc s x ho base v xs hs hown y news hx hv hm hlen hbase h)
set_option maxRecDepth 4000 in
set_option maxHeartbeats 16000000 in
theorem lneeded_any (v0 v1 : Value) (kk : Int) (ss : List St) (es : List Int) (w : World) (hs : SeesE stE w v0 ss) (he : Sees w v1 (iV es)) :
    Calls Try.prog 4 #[v0, v1, .int .i64 kk] w fun e w' => e = .returned (.bool true) ∧ Below w.heap.size w w' := by
  obtain ⟨ao, cap, rfl⟩ := hs.form
  obtain ⟨n, hn⟩ : ∃ n, n = ss.length := ⟨_, rfl⟩
  obtain ⟨bo, bcap, hbf, _⟩ := he
  have he : Sees w v1 (iV es) := ⟨bo, bcap, hbf, ‹_›⟩
  rw [iV_len] at hbf
  obtain ⟨m, hm⟩ : ∃ m, m = es.length := ⟨_, rfl⟩
  rw [← hn] at hs ⊢
  rw [← hm] at hbf
  subst hbf
  have HS : Hid (SeesE stE w (.slice ao n cap) ss) := hs
  have HE : Hid (Sees w (.slice bo m bcap) (iV es)) := he
  have HN : Hid (n = ss.length) := hn
  have HM : Hid (m = es.length) := hm
  clear hs he hn hm
  by_cases hbig : 80 < n
  · have hbi : (80 : Int) < (n : Int) := by omega
    go_enter Try.func4, Try.ntmps4
    go_wp2_with (go_at_call 8; refine (awake_any _).mono ?_; rintro e w1 ⟨rfl, hb1⟩)
    go_ret
    exact ⟨rfl, hb1⟩
  have hbi : ¬ (80 : Int) < (n : Int) := by omega
  by_cases hzero : m = 0
  · subst hzero
    go_enter Try.func4, Try.ntmps4
    go_wp2_with (go_at_call 8; refine (awake_any _).mono ?_; rintro e w1 ⟨rfl, hb1⟩)
    go_ret
    exact ⟨rfl, hb1⟩
  have hz0 : ((m : Int) == 0) = false := by rw [beq_eq_false_iff_ne]; omega
  have hz1 : (0 : Int) < (m : Int) := by omega
  by_cases hbig2 : 20 < m
  · have hbj : (20 : Int) < (m : Int) := by omega
    go_enter Try.func4, Try.ntmps4
    go_wp2_with (go_at_call 8; refine (awake_any _).mono ?_; rintro e w1 ⟨rfl, hb1⟩)
    go_ret
    exact ⟨rfl, hb1⟩
  have hbj : ¬ (20 : Int) < (m : Int) := by omega
  have hnN : (n : Int) ≤ 80 := by omega
  have hmM : (m : Int) ≤ 20 := by omega
  have HNM : Hid (n ≤ 80 ∧ m ≤ 20) := ⟨by omega, by omega⟩
  have HNB : Hid (BookAt (w.alloc (.cells #[.slice none 0 0] 57)) w.heap.size w.heap.size (.slice none 0 0) (playP (ss.take 0)) ∧ Below w.heap.size w (w.alloc (.cells #[.slice none 0 0] 57))) := ⟨new_book w, bel_newG _ _⟩
  clear hbig hbig2
  go_enter Try.func4, Try.ntmps4
  go_wp2_with (go_at_call 9; refine (fnew_any w).mono ?_; rintro e w1 ⟨rfl, rfl⟩)
  go_loopw [8] (fun s wr => ∃ (i : Nat) (v : Value), i ≤ n ∧ s = .int .i64 (i : Int) ∧ Hid (BookAt wr w.heap.size w.heap.size v (playP (ss.take i)) ∧ Below w.heap.size w wr)) (fun s _ => n - (intOf s).toNat)
  case atStart => exact ⟨0, _, Nat.zero_le _, rfl, HNB.out⟩
  case round =>
    obtain ⟨wa, hwa⟩ : ∃ z, z = wr := ⟨_, rfl⟩
    subst hwa
    obtain ⟨i, v, hi, rfl, HI⟩ := hrel
    clear HNB
    by_cases hlt : i < n
    · have hii : (i : Int) < (n : Int) := by omega
      have hi0 : (0 : Int) ≤ (i : Int) := by omega
      have hil : i < ss.length := by have := HN.out; omega
      obtain ⟨b, off, e, hnn, hb, hc⟩ := st_cells (HS.out.below HI.out.2) (by omega)
      subst e
      obtain ⟨c0, c1, c2⟩ := hc i hil
      have HSN : Hid (playP (ss.take (i + 1)) = stepP ss[i] (playP (ss.take i))) := play_snoc ss i hil
      have HD : Hid (Calls Try.prog 10 #[.pointer (some ⟨w.heap.size, 0, none⟩), .pointer (some ⟨wa.heap.size, 0, none⟩), .agg (stE.c ss[i]).toArray] (wa.alloc (.cells #[.slice none 0 0, .slice none 0 0] 32)) fun e w' => ∃ bb, e = .returned (.bool bb) ∧ ∃ v', BookAt w' w.heap.size w.heap.size v' (stepP ss[i] (playP (ss.take i))) ∧ Below w.heap.size w w') := by
        have hp := play_ok (ss.take i)
        have hl : (ss.take i).length ≤ n := by rw [List.length_take]; omega
        have hnm := HNM.out.1
        have hbe : Below wa.heap.size wa (wa.alloc (.cells #[.slice none 0 0, .slice none 0 0] 32)) := bel_newG _ _
        have hr : RBook (wa.alloc (.cells #[.slice none 0 0, .slice none 0 0] 32)) wa.heap.size wa.heap.size (.slice none 0 0) (.slice none 0 0) [] := ⟨(MapKept.heap_alloc wa _).1, rowE_nil inE _ _ _, rowE_nil spE _ _ _, hbe.size, Nat.le_refl _⟩
        refine (ldoes_any _ _ _ _ ss[i] v _ _ _ [] _ (HI.out.1.below hbe) hr hp.1 List.Pairwise.nil (by have := hp.2.1; omega) (by simp)).mono ?_
        rintro e w' ⟨bb, rfl, _, v', iv', sv', k1, k2, k3⟩
        refine ⟨bb, rfl, v', k1, k3.below (bel_tr HI.out.2 hbe) (bel_tr HI.out.2 hbe).size fun j hj => ?_⟩
        rcases hj with hj | hj
        · exact (HI.out.1.below hbe).foot j hj
        · have := RBk.foot hr j hj
          have := HI.out.2.size
          omega
      obtain ⟨s, hs⟩ : ∃ s, s = ss[i] := ⟨_, rfl⟩
      rw [← hs] at c0 c1 c2 HSN HD
      clear hs hc hnn
      obtain ⟨sk, sd, se⟩ := s
      simp only at c0 c1 c2
      go_wp2_with (go_at_call 10; refine HD.out.mono ?_; rintro e w2 ⟨bb, rfl, v2, hb2, ht2⟩; have HI2 : Hid (BookAt w2 w.heap.size w.heap.size v2 (playP (ss.take (i + 1))) ∧ Below w.heap.size w w2) := ⟨by rw [HSN.out]; exact hb2, ht2⟩; clear hb2 ht2)
      go_roundw
      case rel => exact ⟨i + 1, _, by omega, by go_num, HI2.out⟩
      case measure => simp [intOf]; omega
    · have hin : ¬ (i : Int) < (n : Int) := by omega
      obtain ⟨ps, hps⟩ : ∃ z, z = playP (ss.take i) := ⟨_, rfl⟩
      have HG : Hid (Asc ps ∧ ps.length ≤ 80 ∧ ∀ t ∈ ps, ∃ s ∈ ss, s.id = t.id) := by
        have hp := play_ok (ss.take i)
        have hl : (ss.take i).length ≤ n := by rw [List.length_take]; omega
        have hnm := HNM.out.1
        rw [hps]
        refine ⟨hp.1, by have := hp.2.1; omega, fun t ht => ?_⟩
        obtain ⟨s, h1, h2⟩ := hp.2.2 t ht
        exact ⟨s, List.mem_of_mem_take h1, h2⟩
      rw [← hps] at HI
      clear hps
      have HB0 : Hid (Below w.heap.size w wa ∧ w.heap.size ≤ wa.heap.size) := ⟨HI.out.2, HI.out.2.size⟩
      have HMZ : Hid (1 ≤ m) := by show _ ≤ _; omega
      have HROU : Hid (Calls Try.prog 21 #[.int .i64 kk, .int .i64 (m : Int)] wa fun e w' => (∃ r : Nat, e = .returned (.int .i64 (r : Int)) ∧ (r : Int) < (m : Int)) ∧ w' = wa) := round_any kk m wa (by omega) (by omega)
      go_wp2_with fail
      go_at_call 21
      refine HROU.out.mono ?_
      rintro e w9 ⟨⟨k, rfl, hkm⟩, hw9⟩
      subst w9
      clear HROU
      have hkn : k < m := by omega
      have HK : Hid (k < m ∧ k < es.length) := ⟨hkn, by have := HM.out; omega⟩
      obtain ⟨b, off, e, hb, hc⟩ := sees_cells (HE.out.below HI.out.2) (by have := HM.out; omega)
      subst e
      have hck := hc k HK.out.2
      obtain ⟨ee, hee⟩ : ∃ z, z = es.getD k 0 := ⟨_, rfl⟩
      rw [← hee] at hck
      have HEE : Hid (ee ∈ es ∧ b < wa.heap.size ∧ wa.cell? ⟨b, off + k, none⟩ = some (.int .i64 ee)) := ⟨by rw [hee, getD9 HK.out.2]; exact List.getElem_mem _, hb, hck⟩
      have hbc : m ≤ bcap := by
        obtain ⟨_, _, e, h2, _⟩ := HE.out
        rw [iV_len] at h2 e
        injection e with e1 e2 e3
        omega
      obtain ⟨A, hA, HA⟩ := from_seesI (sees_inE (HE.out.below HI.out.2)) (k + 1) hkn
      have HS1 : Hid (SeesE inE (wa.alloc (.cells #[] 3)).drew (.slice (some ⟨b, off, none⟩) k bcap) (es.take k)) := ((sees_inE (HE.out.below HI.out.2)).take k (by have := HK.out.2; omega)).below ((bel_newG _ _).drew)
      have HO1 : Hid (RowE inE (wa.alloc (.cells #[] 3)).drew wa.heap.size 3 (.slice (some ⟨wa.heap.size, 0, none⟩) 0 0) []) := rowE_empty inE wa 3 wa.heap.size _ rfl (Nat.le_refl _)
      have HL1 : Hid (([] : List Int).length + (es.take k).length ≤ maxLen ∧ (([] : List Int).length + (es.take k).length) * 8 ≤ 140737488355328 ∧ wa.heap.size ≤ (wa.alloc (.cells #[] 3)).drew.heap.size ∧ k = (([] : List Int) ++ es.take k).length ∧ (([] : List Int) ++ es.take k).length + (es.drop (k + 1)).length ≤ maxLen ∧ ((([] : List Int) ++ es.take k).length + (es.drop (k + 1)).length) * 8 ≤ 140737488355328) := by
        have h1 := HK.out.2
        have h2 := HM.out
        have h3 := HNM.out.2
        have e1 : (es.take k).length = k := by rw [List.length_take]; omega
        have e2 : (es.drop (k + 1)).length = es.length - (k + 1) := by rw [List.length_drop]
        rw [List.nil_append, e1, e2]
        refine ⟨?_, ?_, ((bel_newG wa _).drew).size, rfl, ?_, ?_⟩ <;> (try simp only [List.length_nil]) <;> (try unfold maxLen) <;> omega
      have HDL : Hid (m - (k + 1) = (es.drop (k + 1)).length) := by
        have h2 := HM.out
        show _ = _
        rw [List.length_drop]; omega
      have k0 : (0 : Int) ≤ (k : Int) := by omega
      have k1 : (k : Int) ≤ (m : Int) := by omega
      have k2 : (k : Int) + 1 ≤ (m : Int) := by omega
      have k3 : (0 : Int) ≤ (k : Int) + 1 := by omega
      have k4 : (k : Int) ≤ (bcap : Int) := by omega
      have k5 : (m : Int) ≤ (bcap : Int) := by omega
      have k9 : IntKind.i64.wrap ((k : Int) + 1) = (k : Int) + 1 := by rw [IntKind.wrap_i64]; omega
      have k10 : ((k : Int) + 1).toNat = k + 1 := by omega
      clear hc hck hee hkn hbc hb
      go_upto_region 11 with fail
      go_cut [2, 9] from 51 to 60 (fun s2 s9 wx => s2 = .int .i64 (k : Int) ∧ ∃ a4 n4 c4, s9 = .slice a4 n4 c4 ∧ Hid (RowE inE wx wa.heap.size 3 (.slice a4 n4 c4) (es.take k ++ es.drop (k + 1)) ∧ Below wa.heap.size wa wx))
      case first =>
        go_region_law (first
          | (refine step_appE (E := inE) Try.underlying23 infoI9 rfl (by rfl) (.tmp 51) (.tmp 54) (by rfl) wa.heap.size (.slice (some ⟨wa.heap.size, 0, none⟩) 0 0) [] (by rfl) HO1.out (.slice (some ⟨b, off, none⟩) k bcap) (es.take k) (by rfl) HS1.out HL1.out.1 HL1.out.2.1 HL1.out.2.2.1 ?_; intro v3 w3 x1 x2; have HB3 : Hid (Below wa.heap.size wa w3) := app_firstN x2; obtain ⟨a3, c3, hv3⟩ := x1.sees.form; rw [← HL1.out.2.2.2.1] at hv3; subst hv3; have HR3 : Hid (RowE inE w3 wa.heap.size 3 (.slice a3 k c3) (([] : List Int) ++ es.take k)) := x1; have HS3 : Hid (SeesE inE w3 (.slice (some A) (m - (k + 1)) (bcap - (k + 1))) (es.drop (k + 1))) := (HA.out.below HB3.out); clear x1 x2)
          | (refine step_appE (E := inE) Try.underlying23 infoI9 rfl (by rfl) (.tmp 55) (.tmp 59) (by rfl) wa.heap.size (.slice a3 k c3) (([] : List Int) ++ es.take k) (by rfl) HR3.out (.slice (some A) (m - (k + 1)) (bcap - (k + 1))) (es.drop (k + 1)) (by first | rfl | (simp [Act.eval, Act.put]; done)) HS3.out HL1.out.2.2.2.2.1 HL1.out.2.2.2.2.2 HB3.out.size ?_; intro v4 w4 x1 x2; have HB4 : Hid (Below wa.heap.size wa w4) := (row_kept HR3.out (Below.refl _ _) x2).2 HB3.out HB3.out.size; obtain ⟨a4, c4, hv4⟩ := x1.sees.form; obtain ⟨n4, hn4⟩ : ∃ z, z = (([] : List Int) ++ es.take k ++ es.drop (k + 1)).length := ⟨_, rfl⟩; rw [← hn4] at hv4; clear hn4; subst hv4; have HK4 : Hid (RowE inE w4 wa.heap.size 3 (.slice a4 n4 c4) (es.take k ++ es.drop (k + 1))) := x1; clear x1 x2))
        all_goals (
          go_wp2_with fail
          go_meet
          case rel => exact ⟨rfl, _, _, _, rfl, HK4.out, HB4.out⟩)
      case rest =>
        obtain ⟨rfl, a4, n4, c4, rfl, H1⟩ := hcut
        obtain ⟨less, hless⟩ : ∃ z, z = es.take k ++ es.drop (k + 1) := ⟨_, rfl⟩
        have HLS : Hid (less.length ≤ 100 ∧ ∀ e ∈ less, e ∈ es) := by
          refine ⟨?_, fun e he => ?_⟩
          · rw [hless, List.length_append, List.length_take, List.length_drop]
            have := HM.out
            have := HNM.out.2
            omega
          · rw [hless] at he; exact less_mem e he
        rw [← hless] at H1
        clear hless HO1 HS1 HL1 HDL hA HA k2 k3 k4 k5 k9 k10
        have HWC : Hid (RowV wc wa.heap.size 3 (.slice a4 n4 c4) (iV less) ∧ Below wa.heap.size wa wc) := ⟨inE_row H1.out.1, H1.out.2⟩
        clear H1
        obtain ⟨need, hneed⟩ : ∃ z : Th → Bool, z = fun t => needB t.born t.died es := ⟨_, rfl⟩
        have HF : Hid (need = fun t => needB t.born t.died es) := hneed
        clear hneed
        go_wp2_with fail
        go_at_call 16
        refine (fneeded_any _ _ ps es _ (HI.out.1.below HWC.out.2).sees (by have := HG.out.2.1; omega) ((HE.out.below HI.out.2).below HWC.out.2) (by have := HM.out; have := HNM.out.2; omega)).mono ?_
        rw [← HF.out]
        rintro e w2 ⟨r2, rfl, x1, x2⟩
        obtain ⟨na, ncap, hnf, _⟩ := x1.sees
        rw [iV_len] at hnf
        obtain ⟨nn, hnn⟩ : ∃ z, z = (idsT need ps).length := ⟨_, rfl⟩
        rw [← hnn] at hnf
        subst hnf
        have H2 : Hid (Sees w2 (.slice na nn ncap) (iV (idsT need ps)) ∧ Below wc.heap.size wc w2 ∧ nn = (idsT need ps).length) := ⟨x1.sees, x2, hnn⟩
        clear x1 x2 hnn
        go_wp2_with fail
        go_at_call 16
        refine (fneeded_any _ _ ps less _ ((HI.out.1.below HWC.out.2).below H2.out.2.1).sees (by have := HG.out.2.1; omega) (HWC.out.1.sees.below H2.out.2.1) (by have := HLS.out.1; omega)).mono ?_
        rintro e w3 ⟨r3, rfl, x1, x2⟩
        obtain ⟨ca, ccap, hcf, _⟩ := x1.sees
        rw [iV_len] at hcf
        obtain ⟨cl, hcl⟩ : ∃ z, z = idsT (fun t => needB t.born t.died less) ps := ⟨_, rfl⟩
        rw [← hcl] at hcf x1
        obtain ⟨cn, hcn⟩ : ∃ z, z = cl.length := ⟨_, rfl⟩
        rw [← hcn] at hcf
        subst hcf
        have HCL : Hid (cn = cl.length ∧ cn ≤ 80 ∧ ∀ y ∈ cl, inL (idsT need ps) y = true) := by
          refine ⟨hcn, ?_, fun y hy => ?_⟩
          · have := ids_len (fun t => needB t.born t.died less) ps
            have := HG.out.2.1
            rw [hcn, hcl]; omega
          · rw [hcl] at hy
            refine ids_sub (fun t _ ht => ?_) hy
            rw [HF.out]
            exact need_more HLS.out.2 ht
        have H3 : Hid (Sees w3 (.slice ca cn ccap) (iV cl) ∧ Sees w3 (.slice na nn ncap) (iV (idsT need ps)) ∧ Below wc.heap.size wc w3) := ⟨x1.sees, H2.out.1.below x2, bel_tr H2.out.2.1 x2⟩
        have hcn80 : (cn : Int) ≤ 80 := by have := HCL.out.2.1; omega
        clear x1 x2 hcl hcn
        go_wp2_with fail
        go_at_call 18
        refine (fdead_any _ _ ps es _ ((HI.out.1.below HWC.out.2).below H3.out.2.2).sees (by have := HG.out.2.1; omega) (((HE.out.below HI.out.2).below HWC.out.2).below H3.out.2.2) (by have := HM.out; have := HNM.out.2; omega)).mono ?_
        rw [show (fun t : Th => !needB t.born t.died es) = fun t => !need t by rw [HF.out]]
        rintro e w4 ⟨r4, rfl, x1, x2⟩
        obtain ⟨da, dcap, hdf, _⟩ := x1.sees
        rw [iV_len] at hdf
        obtain ⟨dn, hdn⟩ : ∃ z, z = (idsT (fun t => !need t) ps).length := ⟨_, rfl⟩
        rw [← hdn] at hdf
        subst hdf
        have HSP : Hid (((ps.length : Nat) : Int) = (nn : Int) + (dn : Int) ∧ nn ≤ 80 ∧ dn ≤ 80) := by
          have h1 := ids_split need ps
          have h2 := H2.out.2.2
          have h3 := HG.out.2.1
          refine ⟨?_, ?_, ?_⟩ <;> omega
        have H4 : Hid (Sees w4 (.slice da dn dcap) (iV (idsT (fun t => !need t) ps)) ∧ Sees w4 (.slice na nn ncap) (iV (idsT need ps)) ∧ Sees w4 (.slice ca cn ccap) (iV cl) ∧ BookAt w4 w.heap.size w.heap.size v ps ∧ Below wa.heap.size wa w4) := ⟨x1.sees, H3.out.2.1.below x2, H3.out.1.below x2, ((HI.out.1.below HWC.out.2).below H3.out.2.2).below x2, bel_tr HWC.out.2 (bel_tr H3.out.2.2 x2)⟩
        clear x1 x2 hdn H3
        have n1 : (nn : Int) ≤ 80 := by have := HSP.out.2.1; omega
        have n2 : (dn : Int) ≤ 80 := by have := HSP.out.2.2; omega
        have n3 : IntKind.i64.wrap ((nn : Int) + (dn : Int)) = (nn : Int) + (dn : Int) := by rw [IntKind.wrap_i64]; omega
        go_wp2_with fail
        go_at_call 12
        refine (flen_any _ ps _ H4.out.2.2.2.1.sees).mono ?_
        rw [HSP.out.1]
        rintro e w9 ⟨rfl, hw9⟩
        subst w9
        have HAP : Hid (RowE inE (w4.alloc (.cells #[] 3)) w4.heap.size 3 (.slice (some ⟨w4.heap.size, 0, none⟩) 0 0) [] ∧ SeesE inE (w4.alloc (.cells #[] 3)) (.slice na nn ncap) (idsT need ps) ∧ w4.heap.size ≤ (w4.alloc (.cells #[] 3)).heap.size) := ⟨rowE_empty inE w4 3 w4.heap.size _ rfl (Nat.le_refl _), (sees_inE H4.out.2.1).below (bel_newG _ _), (bel_newG _ _).size⟩
        have HAL : Hid (([] : List Int).length + (idsT need ps).length ≤ maxLen ∧ (([] : List Int).length + (idsT need ps).length) * 8 ≤ 140737488355328 ∧ (([] : List Int) ++ idsT need ps).length + (idsT (fun t => !need t) ps).length ≤ maxLen ∧ ((([] : List Int) ++ idsT need ps).length + (idsT (fun t => !need t) ps).length) * 8 ≤ 140737488355328) := by
          have h1 := ids_len need ps
          have h2 := ids_len (fun t => !need t) ps
          have h3 := HG.out.2.1
          refine ⟨?_, ?_, ?_, ?_⟩ <;> (try simp only [List.length_nil, List.nil_append]) <;> (try unfold maxLen) <;> omega
        go_wp2_with (first
          | (at_builtin; refine wpList_appT (E := inE) Try.underlying23 infoI9 rfl (by first | rfl | (simp [Region.wanted, yielded, Act.put]; done)) _ _ rfl w4.heap.size (.slice (some ⟨w4.heap.size, 0, none⟩) 0 0) [] rfl HAP.out.1 (.slice na nn ncap) (idsT need ps) rfl HAP.out.2.1 HAL.out.1 HAL.out.2.1 HAP.out.2.2 ?_; intro v5 w5 x1 x2; obtain ⟨a5, c5, hv5⟩ := x1.sees.form; obtain ⟨n5, hn5⟩ : ∃ z, z = (([] : List Int) ++ idsT need ps).length := ⟨_, rfl⟩; rw [← hn5] at hv5; clear hn5; subst hv5; have H5 : Hid (RowE inE w5 w4.heap.size 3 (.slice a5 n5 c5) (([] : List Int) ++ idsT need ps) ∧ Below w4.heap.size w4 w5) := ⟨x1, (row_kept HAP.out.1 (Below.refl _ _) x2).2 (bel_newG _ _) HAP.out.2.2⟩; have H5S : Hid (SeesE inE w5 (.slice da dn dcap) (idsT (fun t => !need t) ps)) := (sees_inE H4.out.1).below H5.out.2; clear x1 x2)
          | (at_builtin; refine wpList_appT (E := inE) Try.underlying23 infoI9 rfl (by first | rfl | (simp [Region.wanted, yielded, Act.put]; done)) _ _ rfl w4.heap.size (.slice a5 n5 c5) (([] : List Int) ++ idsT need ps) rfl H5.out.1 (.slice da dn dcap) (idsT (fun t => !need t) ps) rfl H5S.out HAL.out.2.2.1 HAL.out.2.2.2 H5.out.2.size ?_; intro v6 w6 x1 x2; obtain ⟨a6, c6, hv6⟩ := x1.sees.form; obtain ⟨n6, hn6⟩ : ∃ z, z = (([] : List Int) ++ idsT need ps ++ idsT (fun t => !need t) ps).length := ⟨_, rfl⟩; rw [← hn6] at hv6; clear hn6; subst hv6; have H6 : Hid (Sees w6 (.slice a6 n6 c6) (iV (([] : List Int) ++ idsT need ps ++ idsT (fun t => !need t) ps)) ∧ Below w4.heap.size w4 w6) := ⟨inE_sees x1.sees, (row_kept H5.out.1 (Below.refl _ _) x2).2 H5.out.2 H5.out.2.size⟩; clear x1 x2)
          | fail)
        go_at_call 22
        refine (rsorted_any (.slice a6 n6 c6) (([] : List Int) ++ idsT need ps ++ idsT (fun t => !need t) ps) _ H6.out.1 (by have h1 := ids_len need ps; have h2 := ids_len (fun t => !need t) ps; have h3 := HG.out.2.1; simp only [List.length_append, List.length_nil]; omega)).mono ?_
        rw [List.nil_append, ids_both HG.out.1 need]
        rintro e w7 ⟨r7, rfl, x1, x2⟩
        have H7 : Hid (Sees w7 r7 (iV (idsT (fun _ => true) ps)) ∧ Below w4.heap.size w4 w7) := ⟨x1.sees, bel_tr H6.out.2 x2⟩
        clear x1 x2
        go_wp2_with fail
        go_at_call 23
        refine (lall_any _ v _ ps ss _ (H4.out.2.2.2.1.below H7.out.2).cell (H4.out.2.2.2.1.below H7.out.2).row.sees HG.out.1 (by have := HG.out.2.1; omega) ((HS.out.below HI.out.2).below (bel_tr H4.out.2.2.2.2 H7.out.2)) (by have := HN.out; have := HNM.out.1; omega)).mono ?_
        rw [here_all HG.out.1 HG.out.2.2]
        rintro e w8 ⟨r8, rfl, x1, x2⟩
        have H8 : Hid (Sees w8 r8 (iV (idsT (fun _ => true) ps)) ∧ Sees w8 r7 (iV (idsT (fun _ => true) ps)) ∧ Below w4.heap.size w4 w8) := ⟨x1.sees, H7.out.1.below x2, bel_tr H7.out.2 x2⟩
        clear x1 x2
        go_wp2_with fail
        go_at_call 13
        refine (ints_same _ _ _ _ H8.out.2.1 H8.out.1).mono ?_
        rintro e w10 ⟨rfl, x1⟩
        have HT : Hid (Sees w10 (.slice na nn ncap) (iV (idsT need ps)) ∧ Sees w10 (.slice ca cn ccap) (iV cl) ∧ BookAt w10 w.heap.size w.heap.size v ps ∧ Below wa.heap.size wa w10) := by
          have hb := bel_tr H8.out.2.2 x1
          exact ⟨H4.out.2.1.below hb, H4.out.2.2.1.below hb, H4.out.2.2.2.1.below hb, bel_tr H4.out.2.2.2.2 hb⟩
        clear x1 H8 H7 H6 H4 H5 H5S HAP HAL H2 HWC
        go_wp2_with fail
        go_loopw [13] (fun si wx => ∃ (y : Nat), y ≤ cn ∧ si = .int .i64 (y : Int) ∧ wx = w10) (fun si _ => cn - (intOf si).toNat)
        case atStart => exact ⟨0, Nat.zero_le _, rfl, rfl⟩
        case round =>
          obtain ⟨y, hy, rfl, hwx⟩ := hrel
          subst hwx
          by_cases hyc : y < cn
          · have hyi : (y : Int) < (cn : Int) := by omega
            have hy0 : (0 : Int) ≤ (y : Int) := by omega
            have hyl : y < cl.length := by have := HCL.out.1; omega
            obtain ⟨b2, off2, e, hb, hc⟩ := sees_cells HT.out.2.1 (by omega)
            subst e
            have c0 := hc y hyl
            obtain ⟨x, hx⟩ : ∃ z, z = cl.getD y 0 := ⟨_, rfl⟩
            rw [← hx] at c0
            have HX : Hid (inL (idsT need ps) x = true) := HCL.out.2.2 x (by rw [hx, getD9 hyl]; exact List.getElem_mem _)
            clear hc hx hyl hb
            go_wp2_with (go_at_call 24; refine (lhas_any _ _ x _ HT.out.1).mono ?_; rw [HX.out]; rintro e w9 ⟨rfl, hw9⟩; subst w9)
            go_roundw
            case rel => exact ⟨y + 1, by omega, by go_num, by first | trivial | rfl⟩
            case measure => simp [intOf]; omega
          · have hyn : ¬ (y : Int) < (cn : Int) := by omega
            have hck : wr.cell? ⟨b, off + k, none⟩ = some (.int .i64 ee) := (HT.out.2.2.2.cell (by exact HEE.out.2.1)).trans HEE.out.2.2
            have hbl : b < wr.heap.size := cell_lt9 hck
            have hki : (k : Int) < (m : Int) := by have := HK.out.1; omega
            go_wp2_with fail
            go_at_call 14
            refine (fat_any _ ps ee _ HT.out.2.2.1.sees (by have := HG.out.2.1; omega)).mono ?_
            rintro e w11 ⟨r11, rfl, x1, x2⟩
            obtain ⟨ta, tcap, htf, _⟩ := x1.sees
            rw [iV_len] at htf
            obtain ⟨tl, htl⟩ : ∃ z, z = idsT (fun t => holdsB t.born t.died ee) ps := ⟨_, rfl⟩
            rw [← htl] at htf x1
            obtain ⟨tn, htn⟩ : ∃ z, z = tl.length := ⟨_, rfl⟩
            rw [← htn] at htf
            subst htf
            have HTL : Hid (tn = tl.length ∧ tn ≤ 80 ∧ ∀ y ∈ tl, inL (idsT need ps) y = true) := by
              refine ⟨htn, ?_, fun y hy => ?_⟩
              · have := ids_len (fun t => holdsB t.born t.died ee) ps
                have := HG.out.2.1
                rw [htn, htl]; omega
              · rw [htl] at hy
                refine ids_sub (fun t _ ht => ?_) hy
                rw [HF.out]
                exact need_at HEE.out.1 ht
            have HT2 : Hid (Sees w11 (.slice na nn ncap) (iV (idsT need ps)) ∧ Sees w11 (.slice ta tn tcap) (iV tl) ∧ Below wa.heap.size wa w11) := ⟨HT.out.1.below x2, x1.sees, bel_tr HT.out.2.2.2 x2⟩
            have htn80 : (tn : Int) ≤ 80 := by have := HTL.out.2.1; omega
            clear x1 x2 htl htn HT hck hbl
            go_wp2_with fail
            go_loopw [15] (fun si wx => ∃ (z : Nat), z ≤ tn ∧ si = .int .i64 (z : Int) ∧ wx = w11) (fun si _ => tn - (intOf si).toNat)
            case atStart => exact ⟨0, Nat.zero_le _, rfl, rfl⟩
            case round =>
              obtain ⟨z, hz, rfl, hwx⟩ := hrel
              subst hwx
              by_cases hzc : z < tn
              · have hzi : (z : Int) < (tn : Int) := by omega
                have hz0 : (0 : Int) ≤ (z : Int) := by omega
                have hzl : z < tl.length := by have := HTL.out.1; omega
                obtain ⟨b2, off2, e, hb, hc⟩ := sees_cells HT2.out.2.1 (by omega)
                subst e
                have c0 := hc z hzl
                obtain ⟨x, hx⟩ : ∃ z9, z9 = tl.getD z 0 := ⟨_, rfl⟩
                rw [← hx] at c0
                have HX : Hid (inL (idsT need ps) x = true) := HTL.out.2.2 x (by rw [hx, getD9 hzl]; exact List.getElem_mem _)
                clear hc hx hzl hb
                go_wp2_with (go_at_call 24; refine (lhas_any _ _ x _ HT2.out.1).mono ?_; rw [HX.out]; rintro e w9 ⟨rfl, hw9⟩; subst w9)
                go_roundw
                case rel => exact ⟨z + 1, by omega, by go_num, by first | trivial | rfl⟩
                case measure => simp [intOf]; omega
              · have hzn : ¬ (z : Int) < (tn : Int) := by omega
                have HZ : Hid (Below w.heap.size w wr) := bel_tr HB0.out.1 HT2.out.2.2
                go_wp2_with fail
                go_at_call 8
                refine (awake_any _).mono ?_
                rintro e wv ⟨rfl, x1⟩
                have HZ4 : Hid (Below w.heap.size w wv) := bel_tr HZ.out x1
                clear x1
                go_wp2_with fail
                go_ret
                exact ⟨rfl, HZ4.out⟩
end Go.Proofs.Ytbkciencikdacaa
