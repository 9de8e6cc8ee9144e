/- dolmenlaw11.TableNames, over any table that is held to the contracts. -/
import Derived.Test.YthjcmagionaepaaGreatLStrE
import Derived.Deep.RegionHeld3
import Derived.BigQuiet
namespace Go.Proofs.YthjcmagionaepaaGreat
open Go.RowKit Kit
set_option linter.unusedVariables false
variable {T : World → Nat → Nat → (Nat → Prop) → Tb → Prop}

set_option maxRecDepth 4000 in
set_option maxHeartbeats 16000000 in
theorem lnames_any (K : TabK T) (v : Value) (ep : Int) (ss : List Ts) (w : World) (hs : StepsAt w v ss) :
    Calls Tryz.prog 6 #[v, .int .i64 ep] w fun e w' => e = .returned (.bool true) ∧ Below w.heap.size w w' := by
  have HSM : Hid (Calls Tryz.prog 8 #[v] w fun e w' => ∃ z : Bool, e = .returned (.bool z) ∧ (z = true → ss.length ≤ 80 ∧ ∀ s ∈ ss, s.name.size ≤ 2000 ∧ s.es.length ≤ 2000) ∧ Below w.heap.size w w') := small_any v ss w hs
  have HAW : Hid (∀ X, Calls Tryz.prog 9 #[] X fun e w' => e = .returned (.bool true) ∧ Below X.heap.size X w') := fun X => awake_any K X
  obtain ⟨ao, cap, rfl, h2, h3⟩ := hs
  obtain ⟨n, hn⟩ : ∃ n, n = ss.length := ⟨_, rfl⟩
  rw [← hn] at HSM ⊢
  have HN : Hid (n = ss.length) := hn
  have H3 : Hid (0 < ss.length → _) := h3
  have HSZ : Hid (∀ s ∈ ss, s.name.size ≤ maxLen) := fun s hs => by
    obtain ⟨i, hi, rfl⟩ := List.mem_iff_getElem.1 hs
    obtain ⟨_, _, _, _, hc⟩ := h3 (by omega)
    obtain ⟨_, _, _, hf⟩ := hc i hi
    exact hf.2.1
  clear h2 h3 hn
  go_enter Tryz.func6, Tryz.ntmps6
  go_wp2_with fail
  go_at_call 8
  refine HSM.out.mono ?_
  rintro e w1 ⟨z, rfl, hz, hb1⟩
  have HB1 : Hid (Below w.heap.size w w1) := hb1
  have HZ : Hid (z = true → n ≤ 80 ∧ ∀ s ∈ ss, s.name.size ≤ 2000 ∧ s.es.length ≤ 2000) := hz
  clear hz hb1 HSM
  cases z with
  | false =>
    go_wp2_with (go_at_call 9; refine (HAW.out _).mono ?_; rintro e w2 ⟨rfl, hb2⟩)
    go_ret
    exact ⟨rfl, bel_tr HB1.out hb2⟩
  | true =>
    have hn80 : n ≤ 80 := (HZ.out rfl).1
    have HS2 : Hid (∀ s ∈ ss, s.name.size ≤ 2000 ∧ s.es.length ≤ 2000) := (HZ.out rfl).2
    have hnm : (n : Int) ≤ 80 := by omega
    have HNN : Hid (n ≤ 80) := hn80
    have HNEW : Hid (∀ X, Calls Tryz.prog 10 #[] X fun x w' => ∃ p F, x = .returned (.pointer (some ⟨p, 0, none⟩)) ∧ Hid (T w' p X.heap.size F tb0 ∧ Below X.heap.size X w')) := fun X => K.new X
    clear hn80 HZ
    go_upto_region 6 with (go_at_call 10; refine (HNEW.out _).mono ?_; rintro e w2 ⟨p, F0, rfl, HT0⟩)
    have HT1 : Hid (OneT T w w2 p F0 (playT (ss.take 0)) ∧ RowE sE w2 w.heap.size 9 (.slice none 0 0) ((ss.take 0).map Ts.name) ∧ ∀ k, (Value.slice none 0 0).ownBlock = some k → ¬ F0 k) := ⟨⟨K.mono HT0.out.1 HB1.out.size, bel_tr HB1.out HT0.out.2⟩, rowE_nil sE _ _ _, fun k hk => by simp [Value.ownBlock] at hk⟩
    clear HT0 HNEW
    go_wp2_with fail
    go_loopw [6, 7] (fun s6 s wr => ∃ (i : Nat) (F : Nat → Prop), i ≤ n ∧ s = .int .i64 (i : Int) ∧ Hid (OneT T w wr p F (playT (ss.take i)) ∧ RowE sE wr w.heap.size 9 s6 ((ss.take i).map Ts.name) ∧ ∀ k, s6.ownBlock = some k → ¬ F k)) (fun _ s _ => n - (intOf s).toNat)
    case atStart => exact ⟨0, _, Nat.zero_le _, rfl, HT1.out⟩
    case round =>
      obtain ⟨wa, hwa⟩ : ∃ z, z = wr := ⟨_, rfl⟩
      subst hwa
      obtain ⟨i, F, hi, rfl, HI⟩ := hrel
      clear HT1
      by_cases hlt : i < n
      · skip
        have hii : (i : Int) < (n : Int) := by omega
        have hi0 : (0 : Int) ≤ (i : Int) := by omega
        have hil : i < ss.length := by have := HN.out; omega
        obtain ⟨b, off, e, hb, hc⟩ := H3.out (by omega)
        subst e
        obtain ⟨ea, ec, ha, hf⟩ := hc i hil
        obtain ⟨c0, c1, c2, c3, c4⟩ := ha.below hb HI.out.1.be
        have hbl : b < wa.heap.size := Nat.lt_of_lt_of_le hb HI.out.1.be.size
        have hl9 : (playT (ss.take i)).rs.length ≤ 900 := by
          have h1 := play_len (ss.take i)
          have h2 := HNN.out
          rw [List.length_take] at h1
          omega
        have HD : Hid (Calls Tryz.prog 11 #[.pointer (some ⟨p, 0, none⟩), .pointer (some ⟨wa.heap.size, 0, none⟩), .agg #[.int .i64 ss[i].kind, .string ss[i].name, .int .i64 ss[i].ino, .int .i64 ss[i].ep, .slice ea ss[i].es.length ec]] (wa.alloc (.cells #[.slice none 0 0, .int .i64 0] 30)) fun e w' => ∃ b, e = .returned (.bool b) ∧ ∃ F', Hid (OneT T w w' p F' (playT (ss.take (i + 1))) ∧ TurnF F F' wa w')) := by
          rw [play_next ss i hil]
          exact K.step1 HI.out.1 (play_inv _) hl9 ss[i] ea ec hf (HS2.out _ (List.getElem_mem _))
        have HSNM : Hid ((ss.take (i + 1)).map Ts.name = (ss.take i).map Ts.name ++ [ss[i].name]) := by show _ = _; rw [List.take_succ_eq_append_getElem hil, List.map_append]; rfl
        obtain ⟨s, hs⟩ : ∃ s, s = ss[i] := ⟨_, rfl⟩
        rw [← hs] at c0 c1 c2 c3 c4 HD HSNM
        have HC1 : Hid (b < w.heap.size ∧ b < wa.heap.size ∧ wa.cell? ⟨b, off + i * 5 + 1, none⟩ = some (.string s.name)) := ⟨hb, hbl, c1⟩
        have HC1W : Hid (∀ X, Below w.heap.size w X → X.cell? ⟨b, off + i * 5 + 1, none⟩ = some (.string s.name)) := fun X hX => by
          have h1 := ha.1
          exact (hX.cell (by exact hb)).trans (by rw [hs]; exact ha.2.1)
        have hil2 : ((ss.take i).map Ts.name).length ≤ 80 := by rw [List.length_map, List.length_take]; have := HNN.out; omega
        have HLN : Hid (((ss.take i).map Ts.name).length + [s.name].length ≤ maxLen ∧ (((ss.take i).map Ts.name).length + [s.name].length) * 16 ≤ 140737488355328) := by
          refine ⟨?_, ?_⟩ <;> simp only [List.length_cons, List.length_nil] <;> (try unfold maxLen) <;> omega
        clear hs hc ha hf hl9 hil2
        go_upto_region 11 with (go_at_call 11; refine HD.out.mono ?_; rintro e w3 ⟨bb, rfl, F3, HI3⟩)
        have d1 := HC1W.out _ HI3.out.1.be
        have hbl3 : b < w3.heap.size := cell_lt9 d1
        have HRW : Hid (RowE sE (w3.alloc (.cells #[.string s.name] 9)) w.heap.size 9 u6 ((ss.take i).map Ts.name) ∧ SeesE sE (w3.alloc (.cells #[.string s.name] 9)) (.slice (some ⟨w3.heap.size, 0, none⟩) 1 1) [s.name] ∧ w.heap.size ≤ (w3.alloc (.cells #[.string s.name] 9)).heap.size) := by
          have hb3 := bel_newG w3 (.cells #[.string s.name] 9)
          exact ⟨(row_turn HI.out.2.1 HI.out.2.2 HI3.out.2).below hb3, seesE_at sE (x := s.name) (MapKept.heap_alloc w3 _).1, Nat.le_trans HI3.out.1.be.size hb3.size⟩
        clear c0 c1 c2 c3 c4 hb hbl HC1 HD
        go_wp2_with (at_builtin; refine wpList_appF (E := sE) Tryz.underlying38 infoSE rfl rfl _ _ rfl w.heap.size u6 ((ss.take i).map Ts.name) rfl HRW.out.1 (.slice (some ⟨w3.heap.size, 0, none⟩) 1 1) [s.name] rfl HRW.out.2.1 HLN.out.1 HLN.out.2 HRW.out.2.2 ?_; intro v4 w4 k1 k2 k3; have HI4 : Hid (OneT T w w4 p F3 (playT (ss.take (i + 1))) ∧ RowE sE w4 w.heap.size 9 v4 ((ss.take (i + 1)).map Ts.name) ∧ ∀ k, v4.ownBlock = some k → ¬ F3 k) := (by rw [HSNM.out]; exact one_app K HI.out.2.1 HI.out.2.2 HI3.out.1 HI3.out.2 k1 k2 k3); clear k1 k2 k3)
        go_roundw
        case rel => exact ⟨i + 1, _, by omega, by go_num, HI4.out⟩
        case measure => simp [intOf]; omega
      · have hin : ¬ (i : Int) < (n : Int) := by omega
        have hie : ss.take i = ss := List.take_of_length_le (by have := HN.out; omega)
        obtain ⟨t, ht⟩ : ∃ z, z = playT (ss.take i) := ⟨_, rfl⟩
        have HG : Hid (Inv t ∧ t.rs.length ≤ 900) := by
          have h1 := play_len (ss.take i)
          have h2 := HNN.out
          rw [List.length_take] at h1
          rw [ht]
          exact ⟨play_inv _, by omega⟩
        have HNS : Hid (∀ r ∈ t.rs, r.name.size ≤ maxLen) := fun r hr => by
          rw [ht] at hr
          obtain ⟨s, hs, e⟩ := List.mem_map.1 (play_names (ss.take i) r.name (List.mem_map.2 ⟨r, hr, rfl⟩))
          rw [← e]
          exact HSZ.out s (List.mem_of_mem_take hs)
        have HMEM : Hid (∀ y ∈ t.rs.map Rw.name, y ∈ ss.map Ts.name) := fun y hy => by rw [ht, hie] at hy; exact play_names ss y hy
        rw [← ht] at HI
        rw [hie] at HI
        obtain ⟨al, hal⟩ : ∃ z, z = ss.map Ts.name := ⟨_, rfl⟩
        rw [← hal] at HI HMEM
        have HAL : Hid (al.length ≤ 80 ∧ ∀ y ∈ al, y.size ≤ maxLen) := by
          rw [hal, List.length_map]
          refine ⟨by have := HN.out; have := HNN.out; omega, fun y hy => ?_⟩
          obtain ⟨s, hs, rfl⟩ := List.mem_map.1 hy
          exact HSZ.out s hs
        clear ht hie hal H3
        go_upto_region 14 with (go_at_call 22; refine (sorted_any _ al _ (sE_row HI.out.2.1).sees (by have := HAL.out.1; omega)).mono ?_; rintro e w5 ⟨r5, rfl, g5, b5⟩; have H5 : Hid (RowE sE w5 wa.heap.size 9 r5 (sortedB al) ∧ Below wa.heap.size wa w5) := ⟨sE_rowE g5, b5⟩; clear g5 b5)
        obtain ⟨xo, xc, hx5⟩ := H5.out.1.sees.form
        subst hx5
        obtain ⟨m, hm⟩ : ∃ m, m = (sortedB al).length := ⟨_, rfl⟩
        obtain ⟨so, hso⟩ : ∃ z, z = sortedB al := ⟨_, rfl⟩
        have HMS : Hid (∀ y ∈ so, y.size ≤ maxLen) := fun y hy => by rw [hso] at hy; exact HAL.out.2 y ((sorted_mem al y).1 hy)
        have HHE : Hid (heldN t.rs ep = so.filter fun y => foundB t.rs y ep) := by rw [hso]; exact held_filter t.rs ep al HMEM.out
        have HM : Hid (m = so.length ∧ m ≤ 80) := ⟨by rw [hm, hso], by rw [hm]; exact Nat.le_trans (sorted_len al) HAL.out.1⟩
        rw [← hso] at H5
        rw [← hm]
        have H5S : Hid (SeesE sE w5 (.slice xo m xc) so) := by show SeesE _ _ _ _; rw [HM.out.1]; exact H5.out.1.sees
        have HO5 : Hid (OneT T w w5 p F t) := HI.out.1.below K H5.out.2
        obtain ⟨f, hf⟩ : ∃ f : ByteArray → Bool, f = fun y => foundB t.rs y ep := ⟨_, rfl⟩
        rw [← hf] at HHE
        have HFF : Hid (f = fun y => foundB t.rs y ep) := hf
        have hmm : (m : Int) ≤ 80 := by have := HM.out.2; omega
        clear hm hso HI HAL HMEM hf H5
        go_wp2_with fail
        go_loopw [8, 9] (fun s8 s wx => ∃ (j : Nat), j ≤ m ∧ s = .int .i64 (j : Int) ∧ Hid (RowE sE wx w5.heap.size 9 s8 ((so.take j).filter f) ∧ Below w5.heap.size w5 wx)) (fun _ s _ => m - (intOf s).toNat)
        case atStart => exact ⟨0, Nat.zero_le _, rfl, rowE_nil sE _ _ _, Below.refl _ _⟩
        case round =>
          obtain ⟨wb, hwb⟩ : ∃ z, z = wr := ⟨_, rfl⟩
          subst hwb
          obtain ⟨j, hj, rfl, HJ⟩ := hrel
          by_cases hlt2 : j < m
          · have q1 : (j : Int) < (m : Int) := by omega
            have q2 : (0 : Int) ≤ (j : Int) := by omega
            have hj1 : j < so.length := by have := HM.out.1; omega
            obtain ⟨b, o, e1, hnn9, hb, hc⟩ := s_cells (H5S.out.below HJ.out.2) (by omega)
            subst e1
            have y0 := hc j hj1
            have hsn : (so.take (j + 1)).filter f = (so.take j).filter f ++ (if f so[j] then [so[j]] else []) := by
              rw [List.take_succ_eq_append_getElem hj1, List.filter_append]
              congr 1
              by_cases hf : f so[j] = true
              · rw [List.filter_cons_of_pos hf, if_pos hf]; rfl
              · rw [List.filter_cons_of_neg hf, if_neg hf]; rfl
            have HSN : Hid ((so.take (j + 1)).filter f = (so.take j).filter f ++ (if f so[j] then [so[j]] else [])) := hsn
            have hsz := HMS.out _ (List.getElem_mem hj1)
            have hfl : ((so.take j).filter f).length ≤ 80 := by
              have h1 := List.length_filter_le f (so.take j)
              rw [List.length_take] at h1
              have := HM.out.2
              omega
            obtain ⟨y, hy⟩ : ∃ y, y = so[j] := ⟨_, rfl⟩
            rw [← hy] at y0 HSN hsz
            have HLN : Hid (((so.take j).filter f).length + [y].length ≤ maxLen ∧ (((so.take j).filter f).length + [y].length) * 16 ≤ 140737488355328) := by
              refine ⟨?_, ?_⟩ <;> simp only [List.length_cons, List.length_nil] <;> (try unfold maxLen) <;> omega
            obtain ⟨fi, hfi⟩ : ∃ z, z = foundI t.rs y ep := ⟨_, rfl⟩
            have HFI : Hid (Calls Tryz.prog 12 #[.pointer (some ⟨p, 0, none⟩), .string y, .int .i64 ep] wb fun x w' => x = .returned (.tuple #[.int .i64 fi, .bool (f y)]) ∧ Below wb.heap.size wb w') := by
              rw [hfi, HFF.out]
              exact K.find y ep (HO5.out.below K HJ.out.2).tp HG.out.1 HG.out.2 hsz
            clear hnn9 hc hj1 hsn hsz hfl hy hfi
            cases hfy : f y with
            | false =>
              rw [hfy] at HFI HSN
              have HS2 : Hid ((so.take (j + 1)).filter f = (so.take j).filter f) := by have := HSN.out; show _ = _; rw [this]; simp
              clear hfy HSN
              go_wp2_with (go_at_call 12; refine HFI.out.mono ?_; rintro e w6 ⟨rfl, b6⟩; have H6 : Hid (Below wb.heap.size wb w6) := b6; clear b6)
              go_roundw
              case rel => exact ⟨j + 1, by omega, by go_num, by rw [HS2.out]; exact HJ.out.1.below H6.out, bel_tr HJ.out.2 H6.out⟩
              case measure => simp [intOf]; omega
            | true =>
              rw [hfy] at HFI HSN
              have HS2 : Hid ((so.take (j + 1)).filter f = (so.take j).filter f ++ [y]) := by have := HSN.out; show _ = _; rw [this]; rfl
              clear hfy HSN
              go_upto_region 19 with (go_at_call 12; refine HFI.out.mono ?_; rintro e w6 ⟨rfl, b6⟩; have H6 : Hid (Below wb.heap.size wb w6) := b6; clear b6; have z0 : w6.cell? ⟨b, o + j, none⟩ = some (.string y) := (H6.out.cell (by exact hb)).trans y0; have zl : b < w6.heap.size := cell_lt9 z0)
              clear y0 hb HFI
              have HRW : Hid (RowE sE (w6.alloc (.cells #[.string y] 9)) w5.heap.size 9 u8 ((so.take j).filter f) ∧ SeesE sE (w6.alloc (.cells #[.string y] 9)) (.slice (some ⟨w6.heap.size, 0, none⟩) 1 1) [y] ∧ w5.heap.size ≤ (w6.alloc (.cells #[.string y] 9)).heap.size) := by
                have hb6 := bel_newG w6 (.cells #[.string y] 9)
                exact ⟨(HJ.out.1.below H6.out).below hb6, seesE_at sE (x := y) (MapKept.heap_alloc w6 _).1, Nat.le_trans (bel_tr HJ.out.2 H6.out).size hb6.size⟩
              go_wp2_with (at_builtin; refine wpList_appF (E := sE) Tryz.underlying38 infoSE rfl rfl _ _ rfl w5.heap.size u8 ((so.take j).filter f) rfl HRW.out.1 (.slice (some ⟨w6.heap.size, 0, none⟩) 1 1) [y] rfl HRW.out.2.1 HLN.out.1 HLN.out.2 HRW.out.2.2 ?_; intro v7 w7 k1 k2 k3; have HI7 : Hid (RowE sE w7 w5.heap.size 9 v7 ((so.take (j + 1)).filter f) ∧ Below w5.heap.size w5 w7) := (by rw [HS2.out]; exact ⟨k1, (bel_tr (bel_tr HJ.out.2 H6.out) (bel_newG _ _)).grown k2 HRW.out.2.2 fun z hz => HJ.out.1.block z hz⟩); clear k1 k2 k3)
              go_roundw
              case rel => exact ⟨j + 1, by omega, by go_num, HI7.out⟩
              case measure => simp [intOf]; omega
          · have hjm : ¬ (j : Int) < (m : Int) := by omega
            have hje : so.take j = so := List.take_of_length_le (by have := HM.out.1; omega)
            have HW8 : Hid (Sees wb u8 (strs (heldN t.rs ep))) := by
              have h := (sE_row HJ.out.1).sees
              rw [hje, ← HHE.out] at h
              exact h
            have HNA : Hid (Calls Tryz.prog 15 #[.pointer (some ⟨p, 0, none⟩), .int .i64 ep] wb fun x w' => ∃ r, x = .returned r ∧ Sees w' r (strs (heldN t.rs ep)) ∧ Below wb.heap.size wb w') := K.names ep (HO5.out.below K HJ.out.2).tp HG.out.1 HG.out.2
            have HEND : Hid (Below w.heap.size w wb) := bel_tr HO5.out.be HJ.out.2
            clear hje
            go_wp2_with (first
              | (go_at_call 9; refine (HAW.out _).mono ?_; rintro e w9 ⟨rfl, b9⟩)
              | (go_at_call 14; refine (texts_same _ _ _ _ g7 (HW8.out.below b7)).mono ?_; rintro e w8 ⟨rfl, b8⟩)
              | (go_at_call 15; refine HNA.out.mono ?_; rintro e w7 ⟨r7, rfl, g7, b7⟩))
            go_ret
            exact ⟨rfl, bel_tr (bel_tr (bel_tr HEND.out b7) b8) b9⟩
end Go.Proofs.YthjcmagionaepaaGreat
