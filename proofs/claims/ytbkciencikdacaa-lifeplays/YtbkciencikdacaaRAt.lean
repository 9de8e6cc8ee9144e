/- The document's book: At, Needed. -/
import Derived.Test.YtbkciencikdacaaRBook
import Derived.Test.YtbkciencikdacaaFRead
namespace Go.Proofs.Ytbkciencikdacaa
open Go.RowKit Kit
set_option linter.unusedVariables false

set_option maxRecDepth 4000 in
set_option maxHeartbeats 8000000 in
theorem rat_any (q B : Nat) (iv sv : Value) (rs : List Th) (ep : Int) (w : World) (h : RBook w q B iv sv rs) (hsm : rs.length ≤ 900) :
    Calls Try.prog 15 #[.pointer (some ⟨q, 0, none⟩), .int .i64 ep] w fun x w' => ∃ r, x = .returned r ∧ RowV w' w.heap.size 3 r (iV (srtI (idsT (fun t => holdsB t.born t.died ep) rs))) ∧ Below w.heap.size w w' := by
  obtain ⟨f, hf⟩ : ∃ f : Th → Bool, f = (fun t => holdsB t.born t.died ep) := ⟨_, rfl⟩
  have HT : Hid (∀ (t : Th) (X : World), Below w.heap.size w X → Calls Try.prog 20 #[.agg #[.int .i64 t.born, .int .i64 t.died], .int .i64 ep] X fun r w' => r = .returned (.bool (holdsB t.born t.died ep)) ∧ Below X.heap.size X w') := fun t X _ => rholds_any t.born t.died ep X
  rw [← hf]
  have hs1 : SeesE inE w iv (rs.map Th.id) := h.ids.sees
  have hs2 : SeesE spE w sv rs := h.sps.sees
  obtain ⟨ao, cap, rfl⟩ := hs1.form
  obtain ⟨bo, cap2, rfl⟩ := hs2.form
  obtain ⟨n, hn⟩ : ∃ n, n = rs.length := ⟨_, rfl⟩
  have hn2 : (rs.map Th.id).length = n := by rw [List.length_map, hn]
  have hcell := h.cell
  rw [hn2] at hs1 hcell
  rw [← hn] at hs2 hcell
  have H0 : Hid (w.heap[q]? = some (.cells #[.slice ao n cap, .slice bo n cap2] 32) ∧ SeesE inE w (.slice ao n cap) (rs.map Th.id) ∧ SeesE spE w (.slice bo n cap2) rs) := ⟨hcell, hs1, hs2⟩
  have HN : Hid (n = rs.length ∧ n ≤ 900 ∧ f = (fun t => holdsB t.born t.died ep)) := ⟨hn, by omega, hf⟩
  have hnm : (n : Int) ≤ 900 := by omega
  clear h hsm hs1 hs2 hcell hn hn2 hf
  go_enter Try.func15, Try.ntmps15
  go_upto_region 3 with fail
  go_loopw [5, 6] (fun sl si wr => ∃ i : Nat, i ≤ n ∧ si = .int .i64 (i : Int) ∧ Hid (RowV wr w.heap.size 3 sl (iV (idsT f (rs.take i))) ∧ Below w.heap.size w wr)) (fun _ si _ => n - (intOf si).toNat)
  case atStart => exact ⟨0, Nat.zero_le _, rfl, rowV_nil _ _ _, Below.refl _ _⟩
  case round =>
    obtain ⟨wa, hwa⟩ : ∃ z, z = wr := ⟨_, rfl⟩
    subst hwa
    obtain ⟨i, hi, rfl, HR⟩ := hrel
    have hqk := blk_below HR.out.2 H0.out.1
    have q0 : wa.cell? ⟨q, 0, none⟩ = some (.slice ao n cap) := blk_cell hqk rfl
    have q1 : wa.cell? ⟨q, 1, none⟩ = some (.slice bo n cap2) := blk_cell hqk rfl
    have hql : q < wa.heap.size := blk_lt hqk
    clear hqk
    by_cases hlt : i < n
    · have hil : i < rs.length := by have := HN.out.1; omega
      have hii : (i : Int) < (n : Int) := by omega
      have hi0 : (0 : Int) ≤ (i : Int) := by omega
      obtain ⟨b1, o1, e1, hnn1, hb1, hc1⟩ := in_cells (H0.out.2.1.below HR.out.2) (by rw [List.length_map]; omega)
      obtain ⟨b2, o2, e2, hnn2, hb2, hc2⟩ := sp_cells (H0.out.2.2.below HR.out.2) (by omega)
      subst e1 e2
      have c0 := hc1 i (by rw [List.length_map]; exact hil)
      rw [List.getElem_map] at c0
      obtain ⟨c1, c2⟩ := hc2 i hil
      clear hnn1 hnn2 hc1 hc2
      have HSN : Hid (idsT f (rs.take (i + 1)) = idsT f (rs.take i) ++ (if f rs[i] then [rs[i].id] else [])) := ids_snoc f rs i hil
      have HL : Hid ((idsT f (rs.take i)).length ≤ 900) := by
        have h1 := ids_len f (rs.take i)
        rw [List.length_take] at h1
        have := HN.out.2.1
        show _ ≤ _
        omega
      have HFT : Hid (∀ X, Below wa.heap.size wa X → Calls Try.prog 20 #[.agg #[.int .i64 rs[i].born, .int .i64 rs[i].died], .int .i64 ep] X fun r w' => r = .returned (.bool (holdsB rs[i].born rs[i].died ep)) ∧ Below X.heap.size X w') := fun X hb => HT.out rs[i] X (bel_tr HR.out.2 hb)
      have HFV : Hid (∀ t, f t = (holdsB t.born t.died ep)) := fun t => by rw [HN.out.2.2]
      obtain ⟨t, ht⟩ : ∃ t, t = rs[i] := ⟨_, rfl⟩
      rw [← ht] at c0 c1 c2 HSN HFT
      clear ht
      obtain ⟨x, y, z⟩ := t
      simp only at c0 c1 c2 HSN HFT
      cases hft : f ⟨x, y, z⟩ with
      | false =>
        have HSM : Hid (idsT f (rs.take (i + 1)) = idsT f (rs.take i)) := by have := HSN.out; show _ = _; rw [this, hft]; simp
        have hv := (HFV.out ⟨x, y, z⟩).symm.trans hft
        simp only at hv
        clear hft HSN HFV
        rw [hv] at HFT; clear hv
        go_wp2_with (go_at_call 20; refine (HFT.out _ (Below.refl _ _)).mono ?_; rintro e w2 ⟨rfl, hbw2⟩; have HB2 : Hid (Below wa.heap.size wa w2) := hbw2; clear hbw2)
        go_roundw
        case rel => exact ⟨i + 1, by omega, by go_num, by rw [HSM.out]; exact HR.out.1.below HB2.out, bel_tr HR.out.2 HB2.out⟩
        case measure => simp [intOf]; omega
      | true =>
        have HSM : Hid (iV (idsT f (rs.take (i + 1))) = iV (idsT f (rs.take i)) ++ [.int .i64 x]) := by have := HSN.out; show _ = _; rw [this, hft]; exact iV_snoc _ _
        have hv := (HFV.out ⟨x, y, z⟩).symm.trans hft
        simp only at hv
        clear hft HSN HFV
        rw [hv] at HFT; clear hv
        go_upto_region 6 with (go_at_call 20; refine (HFT.out _ (Below.refl _ _)).mono ?_; rintro e w2 ⟨rfl, hbw2⟩; have HB2 : Hid (Below wa.heap.size wa w2) := hbw2; clear hbw2; have d0 : w2.cell? ⟨b1, o1 + i, none⟩ = some (.int .i64 x) := (HB2.out.cell (by exact hb1)).trans c0; have p0 : w2.cell? ⟨q, 0, none⟩ = some (.slice (some ⟨b1, o1, none⟩) n cap) := (HB2.out.cell (by exact hql)).trans q0; have hbl1 : b1 < w2.heap.size := cell_lt9 d0; have hql2 : q < w2.heap.size := cell_lt9 p0; clear c0 c1 c2 q0 q1 hql hb1 hb2 HFT)
        go_wp2_with (at_builtin; refine wpList_appV Try.underlying23 infoI9 rfl (by decide) rfl _ _ rfl w.heap.size u5 (iV (idsT f (rs.take i))) rfl ?r1 (.slice (some ⟨w2.heap.size, 0, none⟩) 1 1) [.int .i64 x] rfl ?s1 ?c1 ?c2 ?c3 ?_)
        case r1 => exact (HR.out.1.below HB2.out).below (bel_newG _ _)
        case s1 => exact sees_one _ _ _ _ rfl
        case c1 => first | rfl | (intro y hy; simp at hy; subst hy; rfl)
        case c2 => have := HL.out; rw [iV_len]; simp; omega
        case c3 => have h1 := HR.out.2.size; have h2 := HB2.out.size; simp; omega
        intro l3 w3 hr3 hb3
        have HB3 : Hid (RowV w3 w.heap.size 3 l3 (iV (idsT f (rs.take (i + 1)))) ∧ Below w.heap.size w w3) := ⟨by rw [HSM.out]; exact hr3, Below.trans (Below.alloc (bel_tr HR.out.2 HB2.out) (by have h1 := HR.out.2.size; have h2 := HB2.out.size; omega) _) hb3⟩
        clear hr3 hb3
        go_wp2_with fail
        go_roundw
        case rel => exact ⟨i + 1, by omega, by go_num, HB3.out⟩
        case measure => simp [intOf]; omega
    · have hin : ¬ (i : Int) < (n : Int) := by omega
      have HE : Hid (RowV wa w.heap.size 3 u5 (iV (idsT f rs)) ∧ Below w.heap.size w wa ∧ (idsT f rs).length ≤ 100000) := by
        have h1 := HR.out
        rw [List.take_of_length_le (by have := HN.out.1; omega)] at h1
        exact ⟨h1.1, h1.2, by have := ids_len f rs; have := HN.out.1; have := HN.out.2.1; omega⟩
      go_wp2_with (go_at_call 22; refine (rsorted_any _ _ _ HE.out.1.sees HE.out.2.2).mono ?_; rintro e w4 ⟨r4, rfl, hr4, hb4⟩; have H4 : Hid (RowV w4 w.heap.size 3 r4 (iV (srtI (idsT f rs))) ∧ Below w.heap.size w w4) := ⟨hr4.mono HE.out.2.1.size, bel_tr HE.out.2.1 hb4⟩; clear hr4 hb4)
      go_ret
      exact ⟨_, rfl, H4.out⟩
set_option maxRecDepth 4000 in
set_option maxHeartbeats 8000000 in
theorem rneeded_any (q B : Nat) (iv sv : Value) (rs : List Th) (v : Value) (es : List Int) (dead : Bool) (w : World) (h : RBook w q B iv sv rs) (hsm : rs.length ≤ 900) (hv : Sees w v (iV es)) :
    Calls Try.prog 17 #[.pointer (some ⟨q, 0, none⟩), v, .bool dead] w fun x w' => ∃ r, x = .returned r ∧ RowV w' w.heap.size 3 r (iV (srtI (idsT (fun t => (needB t.born t.died es != dead)) rs))) ∧ Below w.heap.size w w' := by
  obtain ⟨f, hf⟩ : ∃ f : Th → Bool, f = (fun t => (needB t.born t.died es != dead)) := ⟨_, rfl⟩
  have HT : Hid (∀ (t : Th) (X : World), Below w.heap.size w X → Calls Try.prog 37 #[.agg #[.int .i64 t.born, .int .i64 t.died], v] X fun r w' => r = .returned (.bool (needB t.born t.died es)) ∧ Below X.heap.size X w') := fun t X hb => rany_any t.born t.died v es X (hv.below hb)
  rw [← hf]
  have hs1 : SeesE inE w iv (rs.map Th.id) := h.ids.sees
  have hs2 : SeesE spE w sv rs := h.sps.sees
  obtain ⟨ao, cap, rfl⟩ := hs1.form
  obtain ⟨bo, cap2, rfl⟩ := hs2.form
  obtain ⟨n, hn⟩ : ∃ n, n = rs.length := ⟨_, rfl⟩
  have hn2 : (rs.map Th.id).length = n := by rw [List.length_map, hn]
  have hcell := h.cell
  rw [hn2] at hs1 hcell
  rw [← hn] at hs2 hcell
  have H0 : Hid (w.heap[q]? = some (.cells #[.slice ao n cap, .slice bo n cap2] 32) ∧ SeesE inE w (.slice ao n cap) (rs.map Th.id) ∧ SeesE spE w (.slice bo n cap2) rs) := ⟨hcell, hs1, hs2⟩
  have HN : Hid (n = rs.length ∧ n ≤ 900 ∧ f = (fun t => (needB t.born t.died es != dead))) := ⟨hn, by omega, hf⟩
  have hnm : (n : Int) ≤ 900 := by omega
  clear h hsm hs1 hs2 hcell hn hn2 hf hv
  go_enter Try.func17, Try.ntmps17
  go_upto_region 3 with fail
  go_loopw [7, 8] (fun sl si wr => ∃ i : Nat, i ≤ n ∧ si = .int .i64 (i : Int) ∧ Hid (RowV wr w.heap.size 3 sl (iV (idsT f (rs.take i))) ∧ Below w.heap.size w wr)) (fun _ si _ => n - (intOf si).toNat)
  case atStart => exact ⟨0, Nat.zero_le _, rfl, rowV_nil _ _ _, Below.refl _ _⟩
  case round =>
    obtain ⟨wa, hwa⟩ : ∃ z, z = wr := ⟨_, rfl⟩
    subst hwa
    obtain ⟨i, hi, rfl, HR⟩ := hrel
    have hqk := blk_below HR.out.2 H0.out.1
    have q0 : wa.cell? ⟨q, 0, none⟩ = some (.slice ao n cap) := blk_cell hqk rfl
    have q1 : wa.cell? ⟨q, 1, none⟩ = some (.slice bo n cap2) := blk_cell hqk rfl
    have hql : q < wa.heap.size := blk_lt hqk
    clear hqk
    by_cases hlt : i < n
    · have hil : i < rs.length := by have := HN.out.1; omega
      have hii : (i : Int) < (n : Int) := by omega
      have hi0 : (0 : Int) ≤ (i : Int) := by omega
      obtain ⟨b1, o1, e1, hnn1, hb1, hc1⟩ := in_cells (H0.out.2.1.below HR.out.2) (by rw [List.length_map]; omega)
      obtain ⟨b2, o2, e2, hnn2, hb2, hc2⟩ := sp_cells (H0.out.2.2.below HR.out.2) (by omega)
      subst e1 e2
      have c0 := hc1 i (by rw [List.length_map]; exact hil)
      rw [List.getElem_map] at c0
      obtain ⟨c1, c2⟩ := hc2 i hil
      clear hnn1 hnn2 hc1 hc2
      have HSN : Hid (idsT f (rs.take (i + 1)) = idsT f (rs.take i) ++ (if f rs[i] then [rs[i].id] else [])) := ids_snoc f rs i hil
      have HL : Hid ((idsT f (rs.take i)).length ≤ 900) := by
        have h1 := ids_len f (rs.take i)
        rw [List.length_take] at h1
        have := HN.out.2.1
        show _ ≤ _
        omega
      have HFT : Hid (∀ X, Below wa.heap.size wa X → Calls Try.prog 37 #[.agg #[.int .i64 rs[i].born, .int .i64 rs[i].died], v] X fun r w' => r = .returned (.bool (needB rs[i].born rs[i].died es)) ∧ Below X.heap.size X w') := fun X hb => HT.out rs[i] X (bel_tr HR.out.2 hb)
      have HFV : Hid (∀ t, f t = (needB t.born t.died es != dead)) := fun t => by rw [HN.out.2.2]
      obtain ⟨t, ht⟩ : ∃ t, t = rs[i] := ⟨_, rfl⟩
      rw [← ht] at c0 c1 c2 HSN HFT
      clear ht
      obtain ⟨x, y, z⟩ := t
      simp only at c0 c1 c2 HSN HFT
      cases hft : f ⟨x, y, z⟩ with
      | false =>
        have HSM : Hid (idsT f (rs.take (i + 1)) = idsT f (rs.take i)) := by have := HSN.out; show _ = _; rw [this, hft]; simp
        have hv := (HFV.out ⟨x, y, z⟩).symm.trans hft
        simp only at hv
        clear hft HSN HFV
        obtain ⟨bn, hbn⟩ : ∃ b9 : Bool, b9 = needB y z es := ⟨_, rfl⟩
        rw [← hbn] at HFT hv
        clear hbn
        have hv2 : bn = dead := by cases bn <;> cases dead <;> first | rfl | cases hv
        clear hv
        subst hv2
        have hv3 : (bn != bn) = false := by cases bn <;> rfl
        go_wp2_with (go_at_call 37; refine (HFT.out _ (Below.refl _ _)).mono ?_; rintro e w2 ⟨rfl, hbw2⟩; have HB2 : Hid (Below wa.heap.size wa w2) := hbw2; clear hbw2)
        go_roundw
        case rel => exact ⟨i + 1, by omega, by go_num, by rw [HSM.out]; exact HR.out.1.below HB2.out, bel_tr HR.out.2 HB2.out⟩
        case measure => simp [intOf]; omega
      | true =>
        have HSM : Hid (iV (idsT f (rs.take (i + 1))) = iV (idsT f (rs.take i)) ++ [.int .i64 x]) := by have := HSN.out; show _ = _; rw [this, hft]; exact iV_snoc _ _
        have hv := (HFV.out ⟨x, y, z⟩).symm.trans hft
        simp only at hv
        clear hft HSN HFV
        obtain ⟨bn, hbn⟩ : ∃ b9 : Bool, b9 = needB y z es := ⟨_, rfl⟩
        rw [← hbn] at HFT hv
        clear hbn
        have hv2 : dead = !bn := by cases bn <;> cases dead <;> first | rfl | cases hv
        clear hv
        subst hv2
        have hv3 : (bn != !bn) = true := by cases bn <;> rfl
        go_upto_region 6 with (go_at_call 37; refine (HFT.out _ (Below.refl _ _)).mono ?_; rintro e w2 ⟨rfl, hbw2⟩; have HB2 : Hid (Below wa.heap.size wa w2) := hbw2; clear hbw2; have d0 : w2.cell? ⟨b1, o1 + i, none⟩ = some (.int .i64 x) := (HB2.out.cell (by exact hb1)).trans c0; have p0 : w2.cell? ⟨q, 0, none⟩ = some (.slice (some ⟨b1, o1, none⟩) n cap) := (HB2.out.cell (by exact hql)).trans q0; have hbl1 : b1 < w2.heap.size := cell_lt9 d0; have hql2 : q < w2.heap.size := cell_lt9 p0; clear c0 c1 c2 q0 q1 hql hb1 hb2 HFT)
        go_wp2_with (at_builtin; refine wpList_appV Try.underlying23 infoI9 rfl (by decide) rfl _ _ rfl w.heap.size u7 (iV (idsT f (rs.take i))) rfl ?r1 (.slice (some ⟨w2.heap.size, 0, none⟩) 1 1) [.int .i64 x] rfl ?s1 ?c1 ?c2 ?c3 ?_)
        case r1 => exact (HR.out.1.below HB2.out).below (bel_newG _ _)
        case s1 => exact sees_one _ _ _ _ rfl
        case c1 => first | rfl | (intro y hy; simp at hy; subst hy; rfl)
        case c2 => have := HL.out; rw [iV_len]; simp; omega
        case c3 => have h1 := HR.out.2.size; have h2 := HB2.out.size; simp; omega
        intro l3 w3 hr3 hb3
        have HB3 : Hid (RowV w3 w.heap.size 3 l3 (iV (idsT f (rs.take (i + 1)))) ∧ Below w.heap.size w w3) := ⟨by rw [HSM.out]; exact hr3, Below.trans (Below.alloc (bel_tr HR.out.2 HB2.out) (by have h1 := HR.out.2.size; have h2 := HB2.out.size; omega) _) hb3⟩
        clear hr3 hb3
        go_wp2_with fail
        go_roundw
        case rel => exact ⟨i + 1, by omega, by go_num, HB3.out⟩
        case measure => simp [intOf]; omega
    · have hin : ¬ (i : Int) < (n : Int) := by omega
      have HE : Hid (RowV wa w.heap.size 3 u7 (iV (idsT f rs)) ∧ Below w.heap.size w wa ∧ (idsT f rs).length ≤ 100000) := by
        have h1 := HR.out
        rw [List.take_of_length_le (by have := HN.out.1; omega)] at h1
        exact ⟨h1.1, h1.2, by have := ids_len f rs; have := HN.out.1; have := HN.out.2.1; omega⟩
      go_wp2_with (go_at_call 22; refine (rsorted_any _ _ _ HE.out.1.sees HE.out.2.2).mono ?_; rintro e w4 ⟨r4, rfl, hr4, hb4⟩; have H4 : Hid (RowV w4 w.heap.size 3 r4 (iV (srtI (idsT f rs))) ∧ Below w.heap.size w w4) := ⟨hr4.mono HE.out.2.1.size, bel_tr HE.out.2.1 hb4⟩; clear hr4 hb4)
      go_ret
      exact ⟨_, rfl, H4.out⟩
end Go.Proofs.Ytbkciencikdacaa
