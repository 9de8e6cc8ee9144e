/- onFile, by cases. -/
import Derived.Test.YtbebgobboccjcaaGreatDoorH3
namespace Go.Proofs.YtbebgobboccjcaaGreatDoor
open Go.RowKit Kit
set_option linter.unusedVariables false

set_option maxRecDepth 4000 in
set_option maxHeartbeats 16000000 in
theorem donFile_write (o : OpB) (da : Option Addr) (dc : Nat) (w : World) (p b : Nat) (t : TreeB) (hT : DTree w p b t) (hG : Good t) (hs1 : o.path.size ≤ maxLen) (hdv : Sees w (.slice da o.data.length dc) (intsV .u8 o.data)) (k : Nat) (hq : outFile t (findB t o.path) = .ok k) (ho : o.kind = 8) (hr : ¬ (o.off < 0 ∨ o.off > 2000 - (o.data.length : Int))) :
 Calls Tryz.prog 65 #[.pointer (some ⟨p, 0, none⟩), .agg #[.int .i64 o.kind, .string o.path, .string o.to, .int .i64 o.off, .int .i64 o.n, .slice da o.data.length dc, .int .i64 o.snap]] w fun e w' => Told w p b (fileF t o (outFile t (findB t o.path))) e w' := by
 have ht := hG.e.fair
 have H0 : Hid (Two w _ o (.slice da o.data.length dc)) := two_new w o (.slice da o.data.length dc)
 have HFi : Hid (∀ W, Below w.heap.size w W → _) := fun W hW => dfile_any o.path W p b t (hT.below hW) ht hs1
 have HT : Hid (DTree w p b t ∧ Good t) := ⟨hT, hG⟩
 obtain ⟨hp, hb⟩ := hT.cells.2.2.2
 have HPB : Hid (p < w.heap.size ∧ b < w.heap.size) := ⟨hp, hb⟩
 have HDV : Hid (Sees w (.slice da o.data.length dc) (intsV .u8 o.data)) := hdv
 have dlb : (o.data.length : Int) ≤ 9223372036854775807 := by
  obtain ⟨ao, cap, e, h1, h2, h3⟩ := hdv
  rw [intsV_len] at h1
  unfold maxLen at h2
  clear h3
  omega
 rw [hq] at HFi ⊢
 obtain ⟨hfk, hkk⟩ : findB t o.path = .ok k ∧ (nodeAt t k).kind ≠ 2 := by
  cases hf : findB t o.path with
  | error y => rw [hf] at hq; simp only [outFile] at hq; cases hq
  | ok k' =>
    rw [hf] at hq
    simp only [outFile] at hq
    split at hq
    · cases hq
    · rename_i h2; injection hq with hq; subst hq; exact ⟨rfl, h2⟩
 have hk := find_lt ht hfk
 have hk1 : (nodeAt t k).kind = 1 := by
  rcases ht.kind (nodeAt_mem hk) with h | h
  · exact h
  · exact absurd h hkk
 have ok := ht.each _ (nodeAt_mem hk)
 have hdl : (nodeAt t k).data.length ≤ 2000 := by
  rcases ok.2.2 with h | h
  · omega
  · exact h.2.2.2.1
 obtain ⟨na, nc, sa, sc, hlook⟩ := hT.lookAt ht hk
 have HLK : Hid (∀ W, Below w.heap.size w W → _) := hlook
 have HND : Hid (∀ W, Below w.heap.size w W → Sees W (.slice na (nodeAt t k).data.length nc) (intsV .u8 (nodeAt t k).data)) := fun W hW => (hlook W hW).2.2.1
 have HPD : Hid (∀ W, Below w.heap.size w W → ∀ dv l, Sees W dv (intsV .u8 l) → _) := fun W hW dv l h => put_data hT ht hk hk1 hW dv l h
 have hf1 := nfield1
 simp only [outW2] at HFi
 have e00 : errV 0 = .nilIface := rfl
 rw [e00] at HFi
 have HRE : Hid (fileF t o (.ok k) = _) := rfl
 simp only [fileF] at HRE
 have HR : Hid (fileF t o (.ok k) = (dataB t k (if o.data.length = 0 then (nodeAt t k).data else laidB (bytesB (nodeAt t k).data (max (nodeAt t k).data.length (o.off.toNat + o.data.length))) o.off.toNat o.data), ⟨0, 0, 0, 0, (o.data.length : Int), [], [], []⟩, 0)) := by
  show _ = _
  simp only [fileF]
  rw [if_neg (by omega), if_pos ho, if_neg hr]
  rfl
 have HCA : Hid (∀ W, Two w W o (.slice da o.data.length dc) → Calls Tryz.prog 104 #[.slice na (nodeAt t k).data.length nc, .int .i64 o.off, .slice da o.data.length dc] W.drew fun e w' => ∃ ao m cap, e = .returned (.slice ao m cap) ∧ w'.cell? ⟨p, 0, none⟩ = some (.map (some b)) ∧ w'.cell? ⟨w.heap.size, 3, none⟩ = some (.int .i64 o.off) ∧ w'.cell? ⟨w.heap.size, 4, none⟩ = some (.int .i64 o.n) ∧ w'.cell? ⟨w.heap.size, 5, none⟩ = some (.slice da o.data.length dc) ∧ ∃ w5, (Instr.mapUpdate 50 (.map (some b)) (.int .i64 (nodeAt t k).ino) (.agg #[.int .i64 1, .slice ao m cap, .slice none 0 0])).run Tryz.prog w' = .ok () w5 ∧ Hid (DTree w5 p b (dataB t k (if o.data.length = 0 then (nodeAt t k).data else laidB (bytesB (nodeAt t k).data (max (nodeAt t k).data.length (o.off.toNat + o.data.length))) o.off.toNat o.data)) ∧ Turn p b w w5 ∧ OBox w5 w.heap.size o (.slice da o.data.length dc) ∧ RBox w5 (w.heap.size + 1))) := fun W hW => by
  refine (dwritten9 (HND.out W.drew hW.2.2.drew) (HDV.out.below hW.2.2.drew) (by omega) (by omega)).mono ?_
  rintro e w' ⟨r, rfl, hr2, hb2⟩
  obtain ⟨ao, cap, e1, _⟩ := id hr2
  have hW2 : Two w w' o (.slice da o.data.length dc) := Two.below (W := W.drew) ⟨by exact hW.1, by exact hW.2.1, hW.2.2.drew⟩ hb2
  have hc := hW2.1.c
  obtain ⟨w5, k1, k2, k3, k4⟩ := HPD.out w' hW2.2.2 _ _ hr2
  subst e1
  exact ⟨ao, _, cap, rfl, (hT.below hW2.2.2).cells.1, hc.2.2.2.1, hc.2.2.2.2.1, hc.2.2.2.2.2.1, w5, k1, ⟨k2, k3, hW2.1.turn k4 (by omega) (by omega), hW2.2.1.turn k4 (by omega) (by omega)⟩⟩
 rw [HR.out]
 obtain ⟨kind, path, to, off, n, data, snap⟩ := o
 simp only at ho hr
 subst ho
 simp only at HCA HR ⊢
 obtain ⟨ii, hii⟩ : ∃ jj, (nodeAt t k).ino = jj := ⟨_, rfl⟩
 rw [hii] at HFi HLK HCA
 rw [hk1] at HLK
 obtain ⟨t3, ht3⟩ : ∃ jj, dataB t k (if data.length = 0 then (nodeAt t k).data else laidB (bytesB (nodeAt t k).data (max (nodeAt t k).data.length (off.toNat + data.length))) off.toNat data) = jj := ⟨_, rfl⟩
 rw [ht3] at HCA ⊢
 obtain ⟨nd, hnd⟩ : ∃ jj, (nodeAt t k).data.length = jj := ⟨_, rfl⟩
 rw [hnd] at HLK HCA
 obtain ⟨dl, hdl2⟩ : ∃ jj, data.length = jj := ⟨_, rfl⟩
 simp only at H0 HFi ⊢
 rw [hdl2] at H0 HCA ⊢
 simp only [hdl2] at dlb
 have ha : ¬ off < 0 := by omega
 have hb2 : ¬ off > 2000 - (dl : Int) := by omega
 clear hT hG hs1 hdv ht hp hb hq hfk hkk hk hk1 ok hdl hlook HND HPD e00 HRE HR hii hnd hdl2 HDV hr ht3
 go_enter Tryz.func65, Tryz.ntmps65
 go_wp2_with fail
 go_at_call 102
 refine (HFi.out _ H0.out.2.2).mono ?_
 rintro e w1 ⟨rfl, hb1⟩
 have H1 : Hid (Two w w1 ⟨8, path, to, off, n, data, snap⟩ (.slice da dl dc)) := H0.out.below hb1
 obtain ⟨o0, o1, o2, o3, o4, o5, o6, _⟩ := H1.out.1.c
 obtain ⟨b0, b1, b2, b3, b4, b5, b6, b7, bf, _⟩ := H1.out.2.1.c
 obtain ⟨hl, c0, _⟩ := HLK.out w1 H1.out.2.2
 have HC1 : Hid (Calls Tryz.prog 104 _ _ _) := HCA.out w1 H1.out
 clear hb1 HFi H0 HLK HCA b0 b1 b2 b3 b4 b5 b6 b7 bf
 go_wp2
 go_region_with (first
  | (go_at_call 104; refine HC1.out.mono ?_; rintro e w2 ⟨ao, m, cap, rfl, d0, d3, d4, d5, w5, hput, H5⟩))
 all_goals (
  have f5 := H5.out.2.2.1.c.2.2.2.2.2.1
  obtain ⟨b0, b1, b2, b3, b4, b5, b6, b7, bf, _⟩ := H5.out.2.2.2.c
  clear HC1 hput d0 d3 d4 d5 o0 o1 o2 o3 o4 o5 o6 hl c0
  go_wp2
  refine bodyPost_ret (v := .tuple #[.agg #[.int .i64 0, .int .i64 0, .int .i64 0, .int .i64 0, .int .i64 (dl : Int), .slice none 0 0, .slice none 0 0, .slice none 0 0], .nilIface]) (by simp [results, Tryz.results65, go_sem, *]) rfl ?_
  have ho := outR_only w5 (w.heap.size + 1) (.int .i64 0) (.int .i64 0) (.int .i64 0) (.int .i64 0) (.int .i64 (dl : Int)) (.slice none 0 0) (.slice none 0 0) (.slice none 0 0)
  have hf := told_two H5.out.1 H5.out.2.1 H5.out.2.2.2 HPB.out.1 HPB.out.2 ho
  exact ⟨_, rfl, replyAt_no' _ _ _ _ _ _, hf.1, hf.2⟩)
end Go.Proofs.YtbebgobboccjcaaGreatDoor
