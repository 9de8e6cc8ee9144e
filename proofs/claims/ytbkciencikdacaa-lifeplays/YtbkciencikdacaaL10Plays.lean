/- dolmenlaw10.LifePlays. -/
import Derived.Test.YtbkciencikdacaaLPlayL
import Derived.Deep.RegionHeld3
import Derived.BigQuiet
import Derived.Laws.StructEq
namespace Go.Proofs.Ytbkciencikdacaa
open Go.RowKit Kit
set_option linter.unusedVariables false

noncomputable def playR (ss : List St) : List Th := ss.foldl (fun rs s => stepR s rs) []
theorem playR_snoc (ss : List St) (i : Nat) (hi : i < ss.length) : playR (ss.take (i + 1)) = stepR ss[i] (playR (ss.take i)) := by
  unfold playR
  rw [List.take_succ_eq_append_getElem hi, List.foldl_append, List.foldl_cons, List.foldl_nil]
theorem play_perm (ss : List St) : (playP ss).Perm (playR ss) := by
  have key : ∀ (ss : List St) (a b : List Th), a.Perm b → (ss.foldl (fun ps s => stepP s ps) a).Perm (ss.foldl (fun rs s => stepR s rs) b) := by
    intro ss
    induction ss with
    | nil => intro a b h; exact h
    | cons s ss ih => intro a b h; exact ih _ _ (step_perm h s)
  exact key ss [] [] (List.Perm.refl _)
/-- The last place ahead of j where a number stands; -1: nowhere. -/
def lastI (rs : List Th) (id : Int) (j : Nat) : Int := if seatT rs id < j then ((seatT rs id : Nat) : Int) else -1
theorem last0 (rs : List Th) (id : Int) : lastI rs id 0 = -1 := by unfold lastI; rw [if_neg (by omega)]
theorem last_here {rs : List Th} {id : Int} (h : Once rs) {j : Nat} (hj : j < rs.length) (he : rs[j].id = id) : lastI rs id (j + 1) = (j : Int) := by
  have hs : seatT rs id = j := by
    have h1 := seat_at rs id
    have h2 := seat_has.1 (has_iffT.2 ⟨_, List.getElem_mem hj, he⟩)
    have h3 := h1.2 h2
    rcases Nat.lt_trichotomy (seatT rs id) j with h4 | h4 | h4
    · exact absurd (by rw [h3, he]) (List.pairwise_iff_getElem.1 h _ j h2 hj h4)
    · exact h4
    · exact absurd he (h1.1 j hj h4)
  unfold lastI
  rw [hs, if_pos (by omega)]
theorem last_not {rs : List Th} {id : Int} {j : Nat} (hj : j < rs.length) (he : ¬ rs[j].id = id) : lastI rs id (j + 1) = lastI rs id j := by
  have hs : seatT rs id ≠ j := fun e => by
    have h1 := (seat_at rs id).2 (by omega)
    simp only [e] at h1
    exact he h1
  unfold lastI
  by_cases h : seatT rs id < j
  · rw [if_pos h, if_pos (by omega)]
  · rw [if_neg h, if_neg (by omega)]
theorem last_yes {rs : List Th} {id : Int} (h : hasT rs id = true) : lastI rs id rs.length = ((seatT rs id : Nat) : Int) := by
  unfold lastI
  rw [if_pos (seat_has.1 h)]
theorem last_no {rs : List Th} {id : Int} (h : hasT rs id = false) : lastI rs id rs.length = -1 := by
  unfold lastI
  rw [if_neg]
  intro e
  have := seat_has.2 e
  rw [h] at this
  cases this
theorem ne_false (f : Th → Bool) : (fun t => (f t != false)) = f := by funext t; cases f t <;> rfl
theorem ne_true (f : Th → Bool) : (fun t => (f t != true)) = fun t => !f t := by funext t; cases f t <;> rfl
/-- Both books, in one world. -/
structure Two (w : World) (B : Nat) (v iv sv : Value) (ps rs : List Th) : Prop where
  pb : BookAt w B B v ps
  rb : RBook w (B + 1) B iv sv rs
theorem Two.below {w w' : World} {B : Nat} {v iv sv : Value} {ps rs : List Th} (h : Two w B v iv sv ps rs) (hb : Below w.heap.size w w') : Two w' B v iv sv ps rs := ⟨h.pb.below hb, RBk.below h.rb hb⟩
set_option maxRecDepth 4000 in
set_option maxHeartbeats 16000000 in
theorem lplays_any (v0 v1 : Value) (sb sd ep : Int) (ss : List St) (es : List Int) (w : World) (hs : SeesE stE w v0 ss) (he : Sees w v1 (iV es)) :
    Calls Try.prog 3 #[v0, v1, .agg #[.int .i64 sb, .int .i64 sd], .int .i64 ep] w fun e w' => e = .returned (.bool true) ∧ Below w.heap.size w w' := by
  obtain ⟨ao, cap, rfl⟩ := hs.form
  obtain ⟨n, hn⟩ : ∃ n, n = ss.length := ⟨_, rfl⟩
  obtain ⟨bo, bcap, hbf, _⟩ := he
  have he : Sees w v1 (iV es) := ⟨bo, bcap, hbf, ‹_›⟩
  rw [iV_len] at hbf
  obtain ⟨m, hm⟩ : ∃ m, m = es.length := ⟨_, rfl⟩
  rw [← hn] at hs ⊢
  rw [← hm] at hbf
  subst hbf
  have HS : Hid (SeesE stE w (.slice ao n cap) ss) := hs
  have HE : Hid (Sees w (.slice bo m bcap) (iV es)) := he
  have HN : Hid (n = ss.length) := hn
  have HM : Hid (m = es.length) := hm
  clear hs he hn hm
  have HBX0 : Hid (Below w.heap.size w (w.alloc (.cells #[.int .i64 sb, .int .i64 sd] 25))) := bel_newG _ _
  by_cases hbig : 100 < n
  · have hbi : (100 : Int) < (n : Int) := by omega
    go_enter Try.func3, Try.ntmps3
    go_wp2_with (go_at_call 8; refine (awake_any _).mono ?_; rintro e w1 ⟨rfl, hb1⟩)
    go_ret
    exact ⟨rfl, bel_tr HBX0.out hb1⟩
  have hbi : ¬ (100 : Int) < (n : Int) := by omega
  by_cases hbig2 : 30 < m
  · have hbj : (30 : Int) < (m : Int) := by omega
    go_enter Try.func3, Try.ntmps3
    go_wp2_with (go_at_call 8; refine (awake_any _).mono ?_; rintro e w1 ⟨rfl, hb1⟩)
    go_ret
    exact ⟨rfl, bel_tr HBX0.out hb1⟩
  have hbj : ¬ (30 : Int) < (m : Int) := by omega
  have hnN : (n : Int) ≤ 100 := by omega
  have hmM : (m : Int) ≤ 30 := by omega
  have HNM : Hid (n ≤ 100 ∧ m ≤ 30) := ⟨by omega, by omega⟩
  obtain ⟨W, hW⟩ : ∃ z, z = w.alloc (.cells #[.int .i64 sb, .int .i64 sd] 25) := ⟨_, rfl⟩
  have HW : Hid (Below w.heap.size w W ∧ W.heap[w.heap.size]? = some (.cells #[.int .i64 sb, .int .i64 sd] 25)) := ⟨by rw [hW]; exact bel_newG _ _, by rw [hW]; exact (MapKept.heap_alloc w _).1⟩
  obtain ⟨W1, hW1⟩ : ∃ z, z = W.alloc (.cells #[.slice none 0 0] 57) := ⟨_, rfl⟩
  obtain ⟨W2, hW2⟩ : ∃ z, z = W1.alloc (.cells #[.slice none 0 0, .slice none 0 0] 32) := ⟨_, rfl⟩
  have hsz : W1.heap.size = W.heap.size + 1 := by rw [hW1]; simp
  have HNB : Hid (Two W2 W.heap.size (.slice none 0 0) (.slice none 0 0) (.slice none 0 0) (playP (ss.take 0)) (playR (ss.take 0)) ∧ Below W.heap.size W W2) := by
    have hb1 : Below W.heap.size W W1 := by rw [hW1]; exact bel_newG _ _
    have hb2 : Below W1.heap.size W1 W2 := by rw [hW2]; exact bel_newG _ _
    have hc : W2.heap[W.heap.size + 1]? = some (.cells #[.slice none 0 0, .slice none 0 0] 32) := by rw [← hsz, hW2]; exact (MapKept.heap_alloc W1 _).1
    have hbk : BookAt W1 W.heap.size W.heap.size (.slice none 0 0) [] := by rw [hW1]; exact new_book W
    exact ⟨⟨hbk.below hb2, ⟨hc, rowE_nil inE _ _ _, rowE_nil spE _ _ _, (bel_tr hb1 hb2).size, by omega⟩⟩, bel_tr hb1 hb2⟩
  have HE1 : Hid (W1 = W.alloc (.cells #[.slice none 0 0] 57)) := hW1
  have HE2 : Hid (W2 = W1.alloc (.cells #[.slice none 0 0, .slice none 0 0] 32)) := hW2
  clear hbig hbig2 HBX0 hW1 hW2
  go_enter Try.func3, Try.ntmps3
  go_upto_region 3 with fail
  rw [← hW]
  clear hW
  go_upto_region 4 with (go_at_call 9; refine (fnew_any W).mono ?_; rintro e w1 ⟨rfl, hw1⟩; rw [← HE1.out] at hw1; subst w1)
  go_upto_region 5 with fail
  rw [← HE2.out]
  clear HE1 HE2 hsz
  go_wp2_with fail
  go_loopw [11] (fun s wr => ∃ (i : Nat) (v iv sv : Value), i ≤ n ∧ s = .int .i64 (i : Int) ∧ Hid (Two wr W.heap.size v iv sv (playP (ss.take i)) (playR (ss.take i)) ∧ Below W.heap.size W wr)) (fun s _ => n - (intOf s).toNat)
  case atStart => exact ⟨0, _, _, _, Nat.zero_le _, rfl, HNB.out⟩
  case round =>
    obtain ⟨wa, hwa⟩ : ∃ z, z = wr := ⟨_, rfl⟩
    subst hwa
    obtain ⟨i, v, iv, sv, hi, rfl, HI⟩ := hrel
    clear HNB
    by_cases hlt : i < n
    · have hii : (i : Int) < (n : Int) := by omega
      have hi0 : (0 : Int) ≤ (i : Int) := by omega
      have hil : i < ss.length := by have := HN.out; omega
      obtain ⟨b, off, e, hnn, hb, hc⟩ := st_cells ((HS.out.below HW.out.1).below HI.out.2) (by omega)
      subst e
      obtain ⟨c0, c1, c2⟩ := hc i hil
      have HD : Hid (Calls Try.prog 10 #[.pointer (some ⟨W.heap.size, 0, none⟩), .pointer (some ⟨W.heap.size + 1, 0, none⟩), .agg (stE.c ss[i]).toArray] wa fun e w' => e = .returned (.bool true) ∧ ∃ v' iv' sv', Two w' W.heap.size v' iv' sv' (playP (ss.take (i + 1))) (playR (ss.take (i + 1))) ∧ Below W.heap.size W w') := by
        have hp := play_ok (ss.take i)
        have hpm := play_perm (ss.take i)
        have hl : (ss.take i).length ≤ n := by rw [List.length_take]; omega
        have hnm := HNM.out.1
        rw [play_snoc ss i hil, playR_snoc ss i hil]
        refine (ldoes_any _ _ _ _ ss[i] v iv sv _ _ _ HI.out.1.pb HI.out.1.rb hp.1 (once_of hp.1 hpm) (by have := hp.2.1; omega) (by have := hp.2.1; have := hpm.length_eq; omega)).mono ?_
        rintro e w' ⟨bb, rfl, hbb, v', iv', sv', k1, k2, k3⟩
        rw [hbb (okB_perm hpm _)]
        refine ⟨rfl, v', iv', sv', ⟨k1, k2⟩, k3.below HI.out.2 HI.out.2.size fun j hj => ?_⟩
        rcases hj with hj | hj
        · exact HI.out.1.pb.foot j hj
        · exact RBk.foot HI.out.1.rb j hj
      obtain ⟨s, hs⟩ : ∃ s, s = ss[i] := ⟨_, rfl⟩
      rw [← hs] at c0 c1 c2 HD
      clear hs hc hnn
      obtain ⟨sk, sid, se⟩ := s
      simp only at c0 c1 c2
      go_wp2_with (go_at_call 10; refine HD.out.mono ?_; rintro e w2 ⟨rfl, v2, iv2, sv2, hb2, ht2⟩; have HI2 : Hid (Two w2 W.heap.size v2 iv2 sv2 (playP (ss.take (i + 1))) (playR (ss.take (i + 1))) ∧ Below W.heap.size W w2) := ⟨hb2, ht2⟩; clear hb2 ht2)
      go_roundw
      case rel => exact ⟨i + 1, _, _, _, by omega, by go_num, HI2.out⟩
      case measure => simp [intOf]; omega
    · have hin : ¬ (i : Int) < (n : Int) := by omega
      obtain ⟨ps, hps⟩ : ∃ z, z = playP (ss.take i) := ⟨_, rfl⟩
      obtain ⟨rs, hrs⟩ : ∃ z, z = playR (ss.take i) := ⟨_, rfl⟩
      have HG : Hid (Asc ps ∧ ps.length ≤ 100 ∧ ps.Perm rs ∧ Once rs ∧ rs.length ≤ 100) := by
        have hp := play_ok (ss.take i)
        have hpm := play_perm (ss.take i)
        have hl : (ss.take i).length ≤ n := by rw [List.length_take]; omega
        have hnm := HNM.out.1
        rw [hps, hrs]
        exact ⟨hp.1, by have := hp.2.1; omega, hpm, once_of hp.1 hpm, by have := hp.2.1; have := hpm.length_eq; omega⟩
      rw [← hps, ← hrs] at HI
      clear hps hrs
      have hisl : iv.ownBlock = iv.ownBlock := rfl
      obtain ⟨ia, icap, hif⟩ := HI.out.1.rb.ids.sees.form
      obtain ⟨sa, scap, hsf⟩ := HI.out.1.rb.sps.sees.form
      obtain ⟨rn, hrn⟩ : ∃ z, z = rs.length := ⟨_, rfl⟩
      rw [List.length_map, ← hrn] at hif
      rw [← hrn] at hsf
      subst hif hsf
      have HRN : Hid (rn = rs.length ∧ rn ≤ 100 ∧ rn = ps.length) := ⟨hrn, by have := HG.out.2.2.2.2; omega, by have := HG.out.2.2.1.length_eq; omega⟩
      have hrn100 : (rn : Int) ≤ 100 := by have := HRN.out.2.1; omega
      clear hrn hisl
      go_wp2_with fail
      go_loopw [12] (fun s wx => ∃ (y : Nat), y ≤ n ∧ s = .int .i64 (y : Int) ∧ Hid (Below wa.heap.size wa wx)) (fun s _ => n - (intOf s).toNat)
      case atStart => exact ⟨0, Nat.zero_le _, rfl, Below.refl _ _⟩
      case round =>
        obtain ⟨wb, hwb⟩ : ∃ z, z = wr := ⟨_, rfl⟩
        subst hwb
        obtain ⟨y, hy, rfl, HY⟩ := hrel
        have HT : Hid (Two wb W.heap.size v (.slice ia rn icap) (.slice sa rn scap) ps rs ∧ Below W.heap.size W wb) := ⟨HI.out.1.below HY.out, bel_tr HI.out.2 HY.out⟩
        by_cases hyn : y < n
        · have hyi : (y : Int) < (n : Int) := by omega
          have hy0 : (0 : Int) ≤ (y : Int) := by omega
          have hyl : y < ss.length := by have := HN.out; omega
          obtain ⟨b, off, e, hnn, hb, hc⟩ := st_cells ((HS.out.below HW.out.1).below HT.out.2) (by omega)
          subst e
          obtain ⟨c0, c1, c2⟩ := hc y hyl
          obtain ⟨s, hs⟩ : ∃ s, s = ss[y] := ⟨_, rfl⟩
          rw [← hs] at c0 c1 c2
          clear hs hc hnn
          obtain ⟨sk, x, se⟩ := s
          simp only at c0 c1 c2
          have HC1 : Hid (b < wb.heap.size ∧ wb.cell? ⟨b, off + y * 3 + 1, none⟩ = some (.int .i64 x)) := ⟨hb, c1⟩
          go_upto_region 16 with (go_at_call 11; refine (fspan_any _ v ps x _ HT.out.1.pb.cell HT.out.1.pb.row.sees HG.out.1 (by have := HG.out.2.1; omega)).mono ?_; rintro e w2 ⟨xb, xd, rfl, hxx, hb2⟩; have H2 : Hid (((∃ t ∈ ps, t.id = x ∧ xb = t.born ∧ xd = t.died) ∨ hasT ps x = false ∧ xb = 0 ∧ xd = 0) ∧ Below wb.heap.size wb w2) := ⟨hxx, hb2⟩; clear hxx hb2)
          obtain ⟨w3, hw3⟩ : ∃ z, z = w2.alloc (.cells #[.int .i64 xb, .int .i64 xd] 36) := ⟨_, rfl⟩
          have H3 : Hid (Below wb.heap.size wb w3 ∧ w3.heap[w2.heap.size]? = some (.cells #[.int .i64 xb, .int .i64 xd] 36)) := ⟨by rw [hw3]; exact bel_tr H2.out.2 (bel_newG _ _), by rw [hw3]; exact (MapKept.heap_alloc w2 _).1⟩
          rw [← hw3]
          clear hw3 c0 c1 c2 hb
          have hqk := (HT.out.1.below H3.out.1).rb.cell
          have q0 : w3.cell? ⟨W.heap.size + 1, 0, none⟩ = some (.slice ia rn icap) := blk_cell hqk rfl
          have q1 : w3.cell? ⟨W.heap.size + 1, 1, none⟩ = some (.slice sa rn scap) := blk_cell hqk rfl
          have ql : W.heap.size + 1 < w3.heap.size := blk_lt hqk
          have HQ : Hid (w3.cell? ⟨W.heap.size + 1, 0, none⟩ = some (.slice ia rn icap) ∧ w3.cell? ⟨W.heap.size + 1, 1, none⟩ = some (.slice sa rn scap) ∧ W.heap.size + 1 < w3.heap.size ∧ SeesE inE w3 (.slice ia rn icap) (rs.map Th.id) ∧ SeesE spE w3 (.slice sa rn scap) rs ∧ w3.cell? ⟨b, off + y * 3 + 1, none⟩ = some (.int .i64 x) ∧ b < w3.heap.size) := ⟨q0, q1, ql, (HT.out.1.below H3.out.1).rb.ids.sees, (HT.out.1.below H3.out.1).rb.sps.sees, (H3.out.1.cell (by exact HC1.out.1)).trans HC1.out.2, Nat.lt_of_lt_of_le HC1.out.1 H3.out.1.size⟩
          obtain ⟨ok, hok⟩ : ∃ z, z = hasT ps x := ⟨_, rfl⟩
          rw [← hok] at H2 ⊢
          have HOK : Hid (ok = hasT ps x ∧ ok = hasT rs x) := ⟨hok, by rw [hok]; exact has_perm HG.out.2.2.1 x⟩
          clear hok hqk q0 q1 ql
          go_upto_region 18 with fail
          go_loopw [15, 16] (fun sk sj wx => ∃ (j : Nat), j ≤ rn ∧ sj = .int .i64 (j : Int) ∧ sk = .int .i64 (lastI rs x j) ∧ Hid (Below w3.heap.size w3 wx)) (fun _ sj _ => rn - (intOf sj).toNat)
          case atStart => exact ⟨0, Nat.zero_le _, rfl, by rw [last0], Below.refl _ _⟩
          case round =>
            obtain ⟨wc, hwc⟩ : ∃ z, z = wr := ⟨_, rfl⟩
            subst hwc
            obtain ⟨j, hj, rfl, rfl, HJ⟩ := hrel
            have q0 : wc.cell? ⟨W.heap.size + 1, 0, none⟩ = some (.slice ia rn icap) := (HJ.out.cell (by exact HQ.out.2.2.1)).trans HQ.out.1
            have ql : W.heap.size + 1 < wc.heap.size := cell_lt9 q0
            by_cases hjr : j < rn
            · have hji : (j : Int) < (rn : Int) := by omega
              have hj0 : (0 : Int) ≤ (j : Int) := by omega
              have hjl : j < rs.length := by have := HRN.out.1; omega
              have cx : wc.cell? ⟨b, off + y * 3 + 1, none⟩ = some (.int .i64 x) := (HJ.out.cell (by exact HQ.out.2.2.2.2.2.2)).trans HQ.out.2.2.2.2.2.1
              obtain ⟨b1, o1, e1, hnn1, hb1, hc1⟩ := in_cells (HQ.out.2.2.2.1.below HJ.out) (by rw [List.length_map]; omega)
              subst e1
              have d0 := hc1 j (by rw [List.length_map]; exact hjl)
              rw [List.getElem_map] at d0
              obtain ⟨z, hz⟩ : ∃ z9, z9 = rs[j].id := ⟨_, rfl⟩
              rw [← hz] at d0
              have HZ : Hid (rs[j].id = z) := hz.symm
              clear hnn1 hc1 hz
              by_cases hzx : z = x
              · subst hzx
                have HL : Hid (lastI rs z (j + 1) = (j : Int)) := last_here HG.out.2.2.2.1 hjl HZ.out
                go_upto_region 20 with fail
                go_quiet (fail)
                go_wp2
                go_roundw
                case rel => exact ⟨j + 1, by omega, by go_num, by rw [HL.out], drewNB HJ.out _⟩
                case measure => simp [intOf]; omega
              · have hzb : (z == x) = false := by simpa using hzx
                have HL : Hid (lastI rs x (j + 1) = lastI rs x j) := last_not hjl (by rw [HZ.out]; exact hzx)
                obtain ⟨lk, hlk⟩ : ∃ l9, l9 = lastI rs x j := ⟨_, rfl⟩
                rw [← hlk] at HL ⊢
                clear hlk
                go_upto_region 20 with fail
                go_quiet (fail)
                go_wp2
                go_roundw
                case rel => exact ⟨j + 1, by omega, by go_num, by rw [HL.out], drewNB HJ.out _⟩
                case measure => simp [intOf]; omega
            · have hjn : ¬ (j : Int) < (rn : Int) := by omega
              have hjr2 : j = rs.length := by have := HRN.out.1; omega
              have q1 : wc.cell? ⟨W.heap.size + 1, 1, none⟩ = some (.slice sa rn scap) := (HJ.out.cell (by exact HQ.out.2.2.1)).trans HQ.out.2.1
              have hbk := blk_below HJ.out H3.out.2
              have x0 : wc.cell? ⟨w2.heap.size, 0, none⟩ = some (.int .i64 xb) := blk_cell hbk rfl
              have x1 : wc.cell? ⟨w2.heap.size, 1, none⟩ = some (.int .i64 xd) := blk_cell hbk rfl
              have xl : w2.heap.size < wc.heap.size := blk_lt hbk
              have HREL : Hid (Below wa.heap.size wa wc) := bel_tr HY.out (bel_tr H3.out.1 HJ.out)
              have hne := ownW_nonempty wc
              have t0 : ∀ n : OwnW wc, n.1.cell? ⟨w2.heap.size, 0, none⟩ = some (.int .i64 xb) := fun n => (n.2.cell (by exact xl)).trans x0
              have t1 : ∀ n : OwnW wc, n.1.cell? ⟨w2.heap.size, 1, none⟩ = some (.int .i64 xd) := fun n => (n.2.cell (by exact xl)).trans x1
              have t2 : ∀ n : OwnW wc, n.1.cell? ⟨W.heap.size + 1, 1, none⟩ = some (.slice sa rn scap) := fun n => (n.2.cell (by exact ql)).trans q1
              cases hk : ok with
              | true =>
                have hhas : hasT rs x = true := by rw [← HOK.out.2]; exact hk
                have hsl := seat_has.1 hhas
                obtain ⟨k, hkk⟩ : ∃ k, k = seatT rs x := ⟨_, rfl⟩
                have hlast : lastI rs x j = (k : Int) := by rw [hjr2, hkk]; exact last_yes hhas
                rw [← hkk] at hsl
                have heq : xb = rs[k].born ∧ xd = rs[k].died := by
                  rcases H2.out.1 with ⟨t, h1, h2, h3, h4⟩ | ⟨h1, _, _⟩
                  · have h5 : rs[k] = t := once_eq HG.out.2.2.2.1 (List.getElem_mem hsl) (HG.out.2.2.1.mem_iff.1 h1) (by
                      have h6 := (seat_at rs x).2 (by rw [← hkk]; exact hsl)
                      simp only [← hkk] at h6
                      rw [h6, h2])
                    rw [h5]
                    exact ⟨h3, h4⟩
                  · rw [hk] at h1; cases h1
                obtain ⟨b2, o2, e2, hnn2, hb2, hc2⟩ := sp_cells (HQ.out.2.2.2.2.1.below HJ.out) (by omega)
                subst e2
                obtain ⟨g0, g1⟩ := hc2 k hsl
                rw [← heq.1] at g0
                rw [← heq.2] at g1
                rw [hlast]
                have hk0 : (0 : Int) ≤ (k : Int) := by omega
                have hkn : (k : Int) < (rn : Int) := by have := HRN.out.1; omega
                have t3 : ∀ n : OwnW wc, n.1.cell? ⟨b2, o2 + k * 2, none⟩ = some (.int .i64 xb) := fun n => (n.2.cell (by exact hb2)).trans g0
                have t4 : ∀ n : OwnW wc, n.1.cell? ⟨b2, o2 + k * 2 + 1, none⟩ = some (.int .i64 xd) := fun n => (n.2.cell (by exact hb2)).trans g1
                clear hk hhas hsl hkk hlast heq hnn2 hb2 hc2 g0 g1 hbk x0 x1 hjr2 q1
                go_upto_region 22 with fail
                refine wp_region_own (by kernel_rfl) (by kernel_rfl) ?_
                repeat (go_big_quiet_step (fail))
                refine wpQuiet_nil ?_
                rintro _ ⟨mm, rfl⟩
                have HMM : Hid (Below wa.heap.size wa mm.1) := bel_tr HREL.out mm.2
                clear t0 t1 t2 t3 t4 q0
                go_wp2
                go_roundw
                case rel => exact ⟨y + 1, by omega, by go_num, HMM.out⟩
                case measure => simp [intOf]; omega
              | false =>
                have hhas : hasT rs x = false := by rw [← HOK.out.2]; exact hk
                have hlast : lastI rs x j = -1 := by rw [hjr2]; exact last_no hhas
                have heq : xb = 0 ∧ xd = 0 := by
                  rcases H2.out.1 with ⟨t, h1, h2, _, _⟩ | ⟨_, h2, h3⟩
                  · have := has_iffT.2 ⟨t, h1, h2⟩
                    rw [← HOK.out.1, hk] at this
                    cases this
                  · exact ⟨h2, h3⟩
                obtain ⟨rfl, rfl⟩ := heq
                rw [hlast]
                clear hk hhas hlast hbk x0 x1 hjr2 q1
                go_upto_region 22 with fail
                refine wp_region_own (by kernel_rfl) (by kernel_rfl) ?_
                repeat (go_big_quiet_step (fail))
                refine wpQuiet_nil ?_
                rintro _ ⟨mm, rfl⟩
                have HMM : Hid (Below wa.heap.size wa mm.1) := bel_tr HREL.out mm.2
                clear t0 t1 t2 q0
                go_wp2
                go_roundw
                case rel => exact ⟨y + 1, by omega, by go_num, HMM.out⟩
                case measure => simp [intOf]; omega
        · have hynn : ¬ (y : Int) < (n : Int) := by omega
          have hqk := HT.out.1.rb.cell
          have hsk := blk_below (bel_tr HT.out.2 (Below.refl _ _)) HW.out.2
          have hq0 : wb.cell? ⟨W.heap.size + 1, 0, none⟩ = some (.slice ia rn icap) := blk_cell hqk rfl
          have hb0 : wb.cell? ⟨w.heap.size, 0, none⟩ = some (.int .i64 sb) := blk_cell hsk rfl
          have hb1 : wb.cell? ⟨w.heap.size, 1, none⟩ = some (.int .i64 sd) := blk_cell hsk rfl
          have hql : W.heap.size + 1 < wb.heap.size := blk_lt hqk
          have hbl : w.heap.size < wb.heap.size := blk_lt hsk
          have HKQ : Hid (∀ {X : World}, Below wb.heap.size wb X → X.cell? ⟨W.heap.size + 1, 0, none⟩ = some (.slice ia rn icap) ∧ X.cell? ⟨w.heap.size, 0, none⟩ = some (.int .i64 sb) ∧ X.cell? ⟨w.heap.size, 1, none⟩ = some (.int .i64 sd)) := fun hbx => ⟨(hbx.cell (by exact hql)).trans hq0, (hbx.cell (by exact hbl)).trans hb0, (hbx.cell (by exact hbl)).trans hb1⟩
          have HP9 : Hid (∀ X, Below wb.heap.size wb X → SeesB X (.pointer (some ⟨W.heap.size, 0, none⟩)) ps ∧ RBook X (W.heap.size + 1) W.heap.size (.slice ia rn icap) (.slice sa rn scap) rs ∧ Sees X (.slice bo m bcap) (iV es)) := fun X hbx => ⟨(HT.out.1.below hbx).pb.sees, (HT.out.1.below hbx).rb, ((HE.out.below HW.out.1).below HT.out.2).below hbx⟩
          have hpl : ps.length ≤ 100000 := by have := HG.out.2.1; omega
          have hrl : rs.length ≤ 900 := by have := HG.out.2.2.2.2; omega
          have hel : es.length ≤ 100000 := by have := HM.out; have := HNM.out.2; omega
          have HLEN : Hid (∀ X, Below wb.heap.size wb X → Calls Try.prog 12 #[.pointer (some ⟨W.heap.size, 0, none⟩)] X fun e w' => e = .returned (.int .i64 (rn : Int)) ∧ w' = X) := fun X hbx => by
            have := flen_any _ ps X (HP9.out X hbx).1
            rw [← HRN.out.2.2] at this
            exact this
          have HAT : Hid (∀ X, Below wb.heap.size wb X → Calls Try.prog 14 #[.pointer (some ⟨W.heap.size, 0, none⟩), .int .i64 ep] X fun x w' => ∃ r, x = .returned r ∧ RowV w' X.heap.size 3 r (iV (idsT (fun t => holdsB t.born t.died ep) ps)) ∧ Below X.heap.size X w') := fun X hbx => fat_any _ ps ep X (HP9.out X hbx).1 hpl
          have HRAT : Hid (∀ X, Below wb.heap.size wb X → Calls Try.prog 15 #[.pointer (some ⟨W.heap.size + 1, 0, none⟩), .int .i64 ep] X fun x w' => ∃ r, x = .returned r ∧ RowV w' X.heap.size 3 r (iV (idsT (fun t => holdsB t.born t.died ep) ps)) ∧ Below X.heap.size X w') := fun X hbx => by
            have := rat_any _ _ _ _ rs ep X (HP9.out X hbx).2.1 hrl
            rw [ids_srt HG.out.1 HG.out.2.2.1] at this
            exact this
          have HND : Hid (∀ X, Below wb.heap.size wb X → Calls Try.prog 16 #[.pointer (some ⟨W.heap.size, 0, none⟩), .slice bo m bcap] X fun x w' => ∃ r, x = .returned r ∧ RowV w' X.heap.size 3 r (iV (idsT (fun t => needB t.born t.died es) ps)) ∧ Below X.heap.size X w') := fun X hbx => fneeded_any _ _ ps es X (HP9.out X hbx).1 hpl (HP9.out X hbx).2.2 hel
          have HRN1 : Hid (∀ X, Below wb.heap.size wb X → Calls Try.prog 17 #[.pointer (some ⟨W.heap.size + 1, 0, none⟩), .slice bo m bcap, .bool false] X fun x w' => ∃ r, x = .returned r ∧ RowV w' X.heap.size 3 r (iV (idsT (fun t => needB t.born t.died es) ps)) ∧ Below X.heap.size X w') := fun X hbx => by
            have := rneeded_any _ _ _ _ rs _ es false X (HP9.out X hbx).2.1 hrl (HP9.out X hbx).2.2
            rw [ids_srt HG.out.1 HG.out.2.2.1, ne_false (fun t => needB t.born t.died es)] at this
            exact this
          have HDE : Hid (∀ X, Below wb.heap.size wb X → Calls Try.prog 18 #[.pointer (some ⟨W.heap.size, 0, none⟩), .slice bo m bcap] X fun x w' => ∃ r, x = .returned r ∧ RowV w' X.heap.size 3 r (iV (idsT (fun t => !needB t.born t.died es) ps)) ∧ Below X.heap.size X w') := fun X hbx => fdead_any _ _ ps es X (HP9.out X hbx).1 hpl (HP9.out X hbx).2.2 hel
          have HRN2 : Hid (∀ X, Below wb.heap.size wb X → Calls Try.prog 17 #[.pointer (some ⟨W.heap.size + 1, 0, none⟩), .slice bo m bcap, .bool true] X fun x w' => ∃ r, x = .returned r ∧ RowV w' X.heap.size 3 r (iV (idsT (fun t => !needB t.born t.died es) ps)) ∧ Below X.heap.size X w') := fun X hbx => by
            have := rneeded_any _ _ _ _ rs _ es true X (HP9.out X hbx).2.1 hrl (HP9.out X hbx).2.2
            rw [ids_srt HG.out.1 HG.out.2.2.1, ne_true (fun t => needB t.born t.died es)] at this
            exact this
          obtain ⟨hh, hhh⟩ : ∃ z9, z9 = holdsB sb sd ep := ⟨_, rfl⟩
          have HFH : Hid (∀ X, Calls Try.prog 19 #[.agg #[.int .i64 sb, .int .i64 sd], .int .i64 ep] X fun r w' => r = .returned (.bool hh) ∧ Below X.heap.size X w') := fun X => by rw [hhh]; exact fholds_any sb sd ep X
          have HRH : Hid (∀ X, Calls Try.prog 20 #[.agg #[.int .i64 sb, .int .i64 sd], .int .i64 ep] X fun r w' => r = .returned (.bool hh) ∧ Below X.heap.size X w') := fun X => by rw [hhh]; exact rholds_any sb sd ep X
          have HEND : Hid (Below w.heap.size w wb) := bel_tr HW.out.1 HT.out.2
          clear hhh hqk hsk hq0 hb0 hb1 hql hbl hpl hrl hel
          go_upto_region 24 with fail
          go_region_held3 (fun X => X.cell? ⟨W.heap.size + 1, 0, none⟩ = some (.slice ia rn icap) ∧ X.cell? ⟨w.heap.size, 0, none⟩ = some (.int .i64 sb) ∧ X.cell? ⟨w.heap.size, 1, none⟩ = some (.int .i64 sd)) (first | exact HKQ.out (bel_drewL wb) | exact HKQ.out hw1 | exact HKQ.out hw2 | exact HKQ.out hw3 | exact HKQ.out hw4 | exact HKQ.out hw5 | exact HKQ.out hw6 | exact HKQ.out hw7 | exact HKQ.out hw8 | exact HKQ.out hw9 | exact HKQ.out hw10 | exact HKQ.out hw11 | exact HKQ.out hw12 | fail)
            (first
              | (go_at_call 12; refine (HLEN.out _ (bel_drewL wb)).mono ?_; rintro e w0' ⟨rfl, hw0'⟩; subst w0')
              | (go_at_call 8; refine (awake_any _).mono ?_; rintro e x12 ⟨rfl, b12⟩; have hw12 : Below wb.heap.size wb x12 := bel_tr hw11 b12)
              | (go_at_call 20; refine (HRH.out _).mono ?_; rintro e x11 ⟨rfl, b11⟩; have hw11 : Below wb.heap.size wb x11 := bel_tr hw10 b11)
              | (go_at_call 19; refine (HFH.out _).mono ?_; rintro e x10 ⟨rfl, b10⟩; have hw10 : Below wb.heap.size wb x10 := bel_tr hw9 b10)
              | (go_at_call 13; refine (ints_same _ _ _ _ (k7.sees.below b8) k8.sees).mono ?_; rintro e x9 ⟨rfl, b9⟩; have hw9 : Below wb.heap.size wb x9 := bel_tr hw8 b9)
              | (go_at_call 17; refine (HRN2.out _ hw7).mono ?_; rintro e x8 ⟨r8, rfl, k8, b8⟩; have hw8 : Below wb.heap.size wb x8 := bel_tr hw7 b8)
              | (go_at_call 18; refine (HDE.out _ hw6).mono ?_; rintro e x7 ⟨r7, rfl, k7, b7⟩; have hw7 : Below wb.heap.size wb x7 := bel_tr hw6 b7)
              | (go_at_call 13; refine (ints_same _ _ _ _ (k4.sees.below b5) k5.sees).mono ?_; rintro e x6 ⟨rfl, b6⟩; have hw6 : Below wb.heap.size wb x6 := bel_tr hw5 b6)
              | (go_at_call 17; refine (HRN1.out _ hw4).mono ?_; rintro e x5 ⟨r5, rfl, k5, b5⟩; have hw5 : Below wb.heap.size wb x5 := bel_tr hw4 b5)
              | (go_at_call 16; refine (HND.out _ hw3).mono ?_; rintro e x4 ⟨r4, rfl, k4, b4⟩; have hw4 : Below wb.heap.size wb x4 := bel_tr hw3 b4)
              | (go_at_call 13; refine (ints_same _ _ _ _ (k1.sees.below b2) k2.sees).mono ?_; rintro e x3 ⟨rfl, b3⟩; have hw3 : Below wb.heap.size wb x3 := bel_tr hw2 b3)
              | (go_at_call 15; refine (HRAT.out _ hw1).mono ?_; rintro e x2 ⟨r2, rfl, k2, b2⟩; have hw2 : Below wb.heap.size wb x2 := bel_tr hw1 b2)
              | (go_at_call 14; refine (HAT.out _ (bel_drewL wb)).mono ?_; rintro e x1 ⟨r1, rfl, k1, b1⟩; have hw1 : Below wb.heap.size wb x1 := bel_tr (bel_drewL wb) b1)
              | fail)
          have HZ : Hid (Below w.heap.size w x12) := bel_tr HEND.out hw12
          clear hw1 hw2 hw3 hw4 hw5 hw6 hw7 hw8 hw9 hw10 hw11 hw12 k1 k2 k4 k5 k7 k8 b1 b2 b3 b4 b5 b6 b7 b8 b9 b10 b11 b12
          go_wp2_with fail
          go_ret
          exact ⟨by first | rfl | simp, HZ.out⟩
end Go.Proofs.Ytbkciencikdacaa
