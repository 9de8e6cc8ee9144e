/- onFile, by cases. -/
import Derived.Test.YtbebgobboccjcaaGreatDoorH3
namespace Go.Proofs.YtbebgobboccjcaaGreatDoor
open Go.RowKit Kit
set_option linter.unusedVariables false

set_option maxRecDepth 4000 in
set_option maxHeartbeats 16000000 in
theorem donFile_err (o : OpB) (da : Option Addr) (dc : Nat) (w : World) (p b : Nat) (t : TreeB) (hT : DTree w p b t) (hG : Good t) (hs1 : o.path.size ≤ maxLen) (hdv : Sees w (.slice da o.data.length dc) (intsV .u8 o.data)) (x : Int) (hx : outFile t (findB t o.path) = .error x) :
 Calls Tryz.prog 65 #[.pointer (some ⟨p, 0, none⟩), .agg #[.int .i64 o.kind, .string o.path, .string o.to, .int .i64 o.off, .int .i64 o.n, .slice da o.data.length dc, .int .i64 o.snap]] w fun e w' => Told w p b (fileF t o (outFile t (findB t o.path))) e w' := by
 have ht := hG.e.fair
 have H0 : Hid (Two w _ o (.slice da o.data.length dc)) := two_new w o (.slice da o.data.length dc)
 have HFi : Hid (∀ W, Below w.heap.size w W → _) := fun W hW => dfile_any o.path W p b t (hT.below hW) ht hs1
 have HT : Hid (DTree w p b t ∧ Good t) := ⟨hT, hG⟩
 obtain ⟨hp, hb⟩ := hT.cells.2.2.2
 have HPB : Hid (p < w.heap.size ∧ b < w.heap.size) := ⟨hp, hb⟩
 have HDV : Hid (Sees w (.slice da o.data.length dc) (intsV .u8 o.data)) := hdv
 have dlb : (o.data.length : Int) ≤ 9223372036854775807 := by
  obtain ⟨ao, cap, e, h1, h2, h3⟩ := hdv
  rw [intsV_len] at h1
  unfold maxLen at h2
  clear h3
  omega
 rw [hx] at HFi ⊢
 have hx0 : x ≠ 0 := by
  cases hf : findB t o.path with
  | error y => rw [hf] at hx; simp only [outFile] at hx; injection hx with hx; rw [← hx]; exact find_code' hf
  | ok k =>
    rw [hf] at hx
    simp only [outFile] at hx
    split at hx
    · injection hx with hx; omega
    · cases hx
 have HE : Hid (errV x = .iface 80 (.int .i64 x)) := errV_ne hx0
 simp only [outW2] at HFi
 rw [errV_ne hx0] at HFi
 clear hx0 hT hG hs1 hdv ht hp hb hx
 go_enter Tryz.func65, Tryz.ntmps65
 go_wp2_with fail
 go_at_call 102
 refine (HFi.out _ H0.out.2.2).mono ?_
 rintro e w1 ⟨rfl, hb1⟩
 have H1 : Hid (Two w w1 o (.slice da o.data.length dc)) := H0.out.below hb1
 obtain ⟨o0, o1, o2, o3, o4, o5, o6, _⟩ := H1.out.1.c
 obtain ⟨b0, b1, b2, b3, b4, b5, b6, b7, bf, _⟩ := H1.out.2.1.c
 clear hb1 HFi H0
 go_wp2
 refine bodyPost_ret (v := .tuple #[.agg #[.int .i64 0, .int .i64 0, .int .i64 0, .int .i64 0, .int .i64 0, .slice none 0 0, .slice none 0 0, .slice none 0 0], .iface 80 (.int .i64 x)]) (by simp [results, Tryz.results65, go_sem, *]) rfl ?_
 have hf := told_two (HT.out.1.below H1.out.2.2) (turn_below (p := p) (b := b) H1.out.2.2) H1.out.2.1 HPB.out.1 HPB.out.2 (outR_only w1 (w.heap.size + 1) (.int .i64 0) (.int .i64 0) (.int .i64 0) (.int .i64 0) (.int .i64 0) (.slice none 0 0) (.slice none 0 0) (.slice none 0 0))
 exact ⟨_, by simp only [fileF]; rw [HE.out], replyAt_no' _ _ _ _ _ _, hf.1, hf.2⟩
set_option maxRecDepth 4000 in
set_option maxHeartbeats 16000000 in
theorem donFile_r7 (o : OpB) (da : Option Addr) (dc : Nat) (w : World) (p b : Nat) (t : TreeB) (hT : DTree w p b t) (hG : Good t) (hs1 : o.path.size ≤ maxLen) (hdv : Sees w (.slice da o.data.length dc) (intsV .u8 o.data)) (k : Nat) (hq : outFile t (findB t o.path) = .ok k) (ho : o.kind = 7) (hr : o.off < 0 ∨ o.n < 0) :
 Calls Tryz.prog 65 #[.pointer (some ⟨p, 0, none⟩), .agg #[.int .i64 o.kind, .string o.path, .string o.to, .int .i64 o.off, .int .i64 o.n, .slice da o.data.length dc, .int .i64 o.snap]] w fun e w' => Told w p b (fileF t o (outFile t (findB t o.path))) e w' := by
 have ht := hG.e.fair
 have H0 : Hid (Two w _ o (.slice da o.data.length dc)) := two_new w o (.slice da o.data.length dc)
 have HFi : Hid (∀ W, Below w.heap.size w W → _) := fun W hW => dfile_any o.path W p b t (hT.below hW) ht hs1
 have HT : Hid (DTree w p b t ∧ Good t) := ⟨hT, hG⟩
 obtain ⟨hp, hb⟩ := hT.cells.2.2.2
 have HPB : Hid (p < w.heap.size ∧ b < w.heap.size) := ⟨hp, hb⟩
 have HDV : Hid (Sees w (.slice da o.data.length dc) (intsV .u8 o.data)) := hdv
 have dlb : (o.data.length : Int) ≤ 9223372036854775807 := by
  obtain ⟨ao, cap, e, h1, h2, h3⟩ := hdv
  rw [intsV_len] at h1
  unfold maxLen at h2
  clear h3
  omega
 rw [hq] at HFi ⊢
 obtain ⟨hfk, hkk⟩ : findB t o.path = .ok k ∧ (nodeAt t k).kind ≠ 2 := by
  cases hf : findB t o.path with
  | error y => rw [hf] at hq; simp only [outFile] at hq; cases hq
  | ok k' =>
    rw [hf] at hq
    simp only [outFile] at hq
    split at hq
    · cases hq
    · rename_i h2; injection hq with hq; subst hq; exact ⟨rfl, h2⟩
 have hk := find_lt ht hfk
 have hk1 : (nodeAt t k).kind = 1 := by
  rcases ht.kind (nodeAt_mem hk) with h | h
  · exact h
  · exact absurd h hkk
 have ok := ht.each _ (nodeAt_mem hk)
 have hdl : (nodeAt t k).data.length ≤ 2000 := by
  rcases ok.2.2 with h | h
  · omega
  · exact h.2.2.2.1
 obtain ⟨na, nc, sa, sc, hlook⟩ := hT.lookAt ht hk
 have HLK : Hid (∀ W, Below w.heap.size w W → _) := hlook
 have HND : Hid (∀ W, Below w.heap.size w W → Sees W (.slice na (nodeAt t k).data.length nc) (intsV .u8 (nodeAt t k).data)) := fun W hW => (hlook W hW).2.2.1
 have HPD : Hid (∀ W, Below w.heap.size w W → ∀ dv l, Sees W dv (intsV .u8 l) → _) := fun W hW dv l h => put_data hT ht hk hk1 hW dv l h
 have hf1 := nfield1
 simp only [outW2] at HFi
 have e00 : errV 0 = .nilIface := rfl
 rw [e00] at HFi
 have HRE : Hid (fileF t o (.ok k) = _) := rfl
 simp only [fileF] at HRE
 have HR : Hid (fileF t o (.ok k) = (t, noReply, 12)) := by
  show _ = _
  simp only [fileF]
  simp [ho, hr]
 rw [HR.out]
 obtain ⟨kind, path, to, off, n, data, snap⟩ := o
 simp only at ho hr
 subst ho
 obtain ⟨ii, hii⟩ : ∃ jj, (nodeAt t k).ino = jj := ⟨_, rfl⟩
 rw [hii] at HFi HLK
 rw [hk1] at HLK
 obtain ⟨nd, hnd⟩ : ∃ jj, (nodeAt t k).data.length = jj := ⟨_, rfl⟩
 rw [hnd] at HLK
 obtain ⟨dl, hdl2⟩ : ∃ jj, data.length = jj := ⟨_, rfl⟩
 simp only at H0 HFi ⊢
 rw [hdl2] at H0 ⊢
 simp only [hdl2] at dlb
 clear hT hG hs1 hdv ht hp hb hq hfk hkk hk hk1 ok hdl hlook HND HPD e00 HRE HR hii hnd hdl2 HDV
 by_cases ha : off < 0
 · clear hr
   go_enter Tryz.func65, Tryz.ntmps65
   go_wp2_with fail
   go_at_call 102
   refine (HFi.out _ H0.out.2.2).mono ?_
   rintro e w1 ⟨rfl, hb1⟩
   have H1 : Hid (Two w w1 ⟨7, path, to, off, n, data, snap⟩ (.slice da dl dc)) := H0.out.below hb1
   obtain ⟨o0, o1, o2, o3, o4, o5, o6, _⟩ := H1.out.1.c
   obtain ⟨b0, b1, b2, b3, b4, b5, b6, b7, bf, _⟩ := H1.out.2.1.c
   obtain ⟨hl, c0, _⟩ := HLK.out w1 H1.out.2.2
   clear hb1 HFi H0 HLK
   go_wp2
   refine bodyPost_ret (v := .tuple #[.agg #[.int .i64 0, .int .i64 0, .int .i64 0, .int .i64 0, .int .i64 0, .slice none 0 0, .slice none 0 0, .slice none 0 0], .iface 80 (.int .i64 12)]) (by simp [results, Tryz.results65, go_sem, *]) rfl ?_
   have hf := told_two (HT.out.1.below H1.out.2.2) (turn_below (p := p) (b := b) H1.out.2.2) H1.out.2.1 HPB.out.1 HPB.out.2 (outR_only w1 (w.heap.size + 1) (.int .i64 0) (.int .i64 0) (.int .i64 0) (.int .i64 0) (.int .i64 0) (.slice none 0 0) (.slice none 0 0) (.slice none 0 0))
   exact ⟨_, rfl, replyAt_no' _ _ _ _ _ _, hf.1, hf.2⟩
 · have hb2 : n < 0 := by omega
   clear hr
   go_enter Tryz.func65, Tryz.ntmps65
   go_wp2_with fail
   go_at_call 102
   refine (HFi.out _ H0.out.2.2).mono ?_
   rintro e w1 ⟨rfl, hb1⟩
   have H1 : Hid (Two w w1 ⟨7, path, to, off, n, data, snap⟩ (.slice da dl dc)) := H0.out.below hb1
   obtain ⟨o0, o1, o2, o3, o4, o5, o6, _⟩ := H1.out.1.c
   obtain ⟨b0, b1, b2, b3, b4, b5, b6, b7, bf, _⟩ := H1.out.2.1.c
   obtain ⟨hl, c0, _⟩ := HLK.out w1 H1.out.2.2
   clear hb1 HFi H0 HLK
   go_wp2
   refine bodyPost_ret (v := .tuple #[.agg #[.int .i64 0, .int .i64 0, .int .i64 0, .int .i64 0, .int .i64 0, .slice none 0 0, .slice none 0 0, .slice none 0 0], .iface 80 (.int .i64 12)]) (by simp [results, Tryz.results65, go_sem, *]) rfl ?_
   have hf := told_two (HT.out.1.below H1.out.2.2) (turn_below (p := p) (b := b) H1.out.2.2) H1.out.2.1 HPB.out.1 HPB.out.2 (outR_only w1 (w.heap.size + 1) (.int .i64 0) (.int .i64 0) (.int .i64 0) (.int .i64 0) (.int .i64 0) (.slice none 0 0) (.slice none 0 0) (.slice none 0 0))
   exact ⟨_, rfl, replyAt_no' _ _ _ _ _ _, hf.1, hf.2⟩
set_option maxRecDepth 4000 in
set_option maxHeartbeats 16000000 in
theorem donFile_r8 (o : OpB) (da : Option Addr) (dc : Nat) (w : World) (p b : Nat) (t : TreeB) (hT : DTree w p b t) (hG : Good t) (hs1 : o.path.size ≤ maxLen) (hdv : Sees w (.slice da o.data.length dc) (intsV .u8 o.data)) (k : Nat) (hq : outFile t (findB t o.path) = .ok k) (ho : o.kind = 8) (hr : o.off < 0 ∨ o.off > 2000 - (o.data.length : Int)) :
 Calls Tryz.prog 65 #[.pointer (some ⟨p, 0, none⟩), .agg #[.int .i64 o.kind, .string o.path, .string o.to, .int .i64 o.off, .int .i64 o.n, .slice da o.data.length dc, .int .i64 o.snap]] w fun e w' => Told w p b (fileF t o (outFile t (findB t o.path))) e w' := by
 have ht := hG.e.fair
 have H0 : Hid (Two w _ o (.slice da o.data.length dc)) := two_new w o (.slice da o.data.length dc)
 have HFi : Hid (∀ W, Below w.heap.size w W → _) := fun W hW => dfile_any o.path W p b t (hT.below hW) ht hs1
 have HT : Hid (DTree w p b t ∧ Good t) := ⟨hT, hG⟩
 obtain ⟨hp, hb⟩ := hT.cells.2.2.2
 have HPB : Hid (p < w.heap.size ∧ b < w.heap.size) := ⟨hp, hb⟩
 have HDV : Hid (Sees w (.slice da o.data.length dc) (intsV .u8 o.data)) := hdv
 have dlb : (o.data.length : Int) ≤ 9223372036854775807 := by
  obtain ⟨ao, cap, e, h1, h2, h3⟩ := hdv
  rw [intsV_len] at h1
  unfold maxLen at h2
  clear h3
  omega
 rw [hq] at HFi ⊢
 obtain ⟨hfk, hkk⟩ : findB t o.path = .ok k ∧ (nodeAt t k).kind ≠ 2 := by
  cases hf : findB t o.path with
  | error y => rw [hf] at hq; simp only [outFile] at hq; cases hq
  | ok k' =>
    rw [hf] at hq
    simp only [outFile] at hq
    split at hq
    · cases hq
    · rename_i h2; injection hq with hq; subst hq; exact ⟨rfl, h2⟩
 have hk := find_lt ht hfk
 have hk1 : (nodeAt t k).kind = 1 := by
  rcases ht.kind (nodeAt_mem hk) with h | h
  · exact h
  · exact absurd h hkk
 have ok := ht.each _ (nodeAt_mem hk)
 have hdl : (nodeAt t k).data.length ≤ 2000 := by
  rcases ok.2.2 with h | h
  · omega
  · exact h.2.2.2.1
 obtain ⟨na, nc, sa, sc, hlook⟩ := hT.lookAt ht hk
 have HLK : Hid (∀ W, Below w.heap.size w W → _) := hlook
 have HND : Hid (∀ W, Below w.heap.size w W → Sees W (.slice na (nodeAt t k).data.length nc) (intsV .u8 (nodeAt t k).data)) := fun W hW => (hlook W hW).2.2.1
 have HPD : Hid (∀ W, Below w.heap.size w W → ∀ dv l, Sees W dv (intsV .u8 l) → _) := fun W hW dv l h => put_data hT ht hk hk1 hW dv l h
 have hf1 := nfield1
 simp only [outW2] at HFi
 have e00 : errV 0 = .nilIface := rfl
 rw [e00] at HFi
 have HRE : Hid (fileF t o (.ok k) = _) := rfl
 simp only [fileF] at HRE
 have HR : Hid (fileF t o (.ok k) = (t, noReply, 12)) := by
  show _ = _
  simp only [fileF]
  simp [ho, hr]
 rw [HR.out]
 obtain ⟨kind, path, to, off, n, data, snap⟩ := o
 simp only at ho hr
 subst ho
 obtain ⟨ii, hii⟩ : ∃ jj, (nodeAt t k).ino = jj := ⟨_, rfl⟩
 rw [hii] at HFi HLK
 rw [hk1] at HLK
 obtain ⟨nd, hnd⟩ : ∃ jj, (nodeAt t k).data.length = jj := ⟨_, rfl⟩
 rw [hnd] at HLK
 obtain ⟨dl, hdl2⟩ : ∃ jj, data.length = jj := ⟨_, rfl⟩
 simp only at H0 HFi ⊢
 rw [hdl2] at H0 ⊢
 simp only [hdl2] at dlb
 simp only [hdl2] at hr
 clear hT hG hs1 hdv ht hp hb hq hfk hkk hk hk1 ok hdl hlook HND HPD e00 HRE HR hii hnd hdl2 HDV
 by_cases ha : off < 0
 · clear hr
   go_enter Tryz.func65, Tryz.ntmps65
   go_wp2_with fail
   go_at_call 102
   refine (HFi.out _ H0.out.2.2).mono ?_
   rintro e w1 ⟨rfl, hb1⟩
   have H1 : Hid (Two w w1 ⟨8, path, to, off, n, data, snap⟩ (.slice da dl dc)) := H0.out.below hb1
   obtain ⟨o0, o1, o2, o3, o4, o5, o6, _⟩ := H1.out.1.c
   obtain ⟨b0, b1, b2, b3, b4, b5, b6, b7, bf, _⟩ := H1.out.2.1.c
   obtain ⟨hl, c0, _⟩ := HLK.out w1 H1.out.2.2
   clear hb1 HFi H0 HLK
   go_wp2
   refine bodyPost_ret (v := .tuple #[.agg #[.int .i64 0, .int .i64 0, .int .i64 0, .int .i64 0, .int .i64 0, .slice none 0 0, .slice none 0 0, .slice none 0 0], .iface 80 (.int .i64 12)]) (by simp [results, Tryz.results65, go_sem, *]) rfl ?_
   have hf := told_two (HT.out.1.below H1.out.2.2) (turn_below (p := p) (b := b) H1.out.2.2) H1.out.2.1 HPB.out.1 HPB.out.2 (outR_only w1 (w.heap.size + 1) (.int .i64 0) (.int .i64 0) (.int .i64 0) (.int .i64 0) (.int .i64 0) (.slice none 0 0) (.slice none 0 0) (.slice none 0 0))
   exact ⟨_, rfl, replyAt_no' _ _ _ _ _ _, hf.1, hf.2⟩
 · have hb2 : off > 2000 - (dl : Int) := by omega
   clear hr
   go_enter Tryz.func65, Tryz.ntmps65
   go_wp2_with fail
   go_at_call 102
   refine (HFi.out _ H0.out.2.2).mono ?_
   rintro e w1 ⟨rfl, hb1⟩
   have H1 : Hid (Two w w1 ⟨8, path, to, off, n, data, snap⟩ (.slice da dl dc)) := H0.out.below hb1
   obtain ⟨o0, o1, o2, o3, o4, o5, o6, _⟩ := H1.out.1.c
   obtain ⟨b0, b1, b2, b3, b4, b5, b6, b7, bf, _⟩ := H1.out.2.1.c
   obtain ⟨hl, c0, _⟩ := HLK.out w1 H1.out.2.2
   clear hb1 HFi H0 HLK
   go_wp2
   refine bodyPost_ret (v := .tuple #[.agg #[.int .i64 0, .int .i64 0, .int .i64 0, .int .i64 0, .int .i64 0, .slice none 0 0, .slice none 0 0, .slice none 0 0], .iface 80 (.int .i64 12)]) (by simp [results, Tryz.results65, go_sem, *]) rfl ?_
   have hf := told_two (HT.out.1.below H1.out.2.2) (turn_below (p := p) (b := b) H1.out.2.2) H1.out.2.1 HPB.out.1 HPB.out.2 (outR_only w1 (w.heap.size + 1) (.int .i64 0) (.int .i64 0) (.int .i64 0) (.int .i64 0) (.int .i64 0) (.slice none 0 0) (.slice none 0 0) (.slice none 0 0))
   exact ⟨_, rfl, replyAt_no' _ _ _ _ _ _, hf.1, hf.2⟩
set_option maxRecDepth 4000 in
set_option maxHeartbeats 16000000 in
theorem donFile_r9 (o : OpB) (da : Option Addr) (dc : Nat) (w : World) (p b : Nat) (t : TreeB) (hT : DTree w p b t) (hG : Good t) (hs1 : o.path.size ≤ maxLen) (hdv : Sees w (.slice da o.data.length dc) (intsV .u8 o.data)) (k : Nat) (hq : outFile t (findB t o.path) = .ok k) (ho : o.kind = 9) (hr : o.n < 0 ∨ 2000 < o.n) :
 Calls Tryz.prog 65 #[.pointer (some ⟨p, 0, none⟩), .agg #[.int .i64 o.kind, .string o.path, .string o.to, .int .i64 o.off, .int .i64 o.n, .slice da o.data.length dc, .int .i64 o.snap]] w fun e w' => Told w p b (fileF t o (outFile t (findB t o.path))) e w' := by
 have ht := hG.e.fair
 have H0 : Hid (Two w _ o (.slice da o.data.length dc)) := two_new w o (.slice da o.data.length dc)
 have HFi : Hid (∀ W, Below w.heap.size w W → _) := fun W hW => dfile_any o.path W p b t (hT.below hW) ht hs1
 have HT : Hid (DTree w p b t ∧ Good t) := ⟨hT, hG⟩
 obtain ⟨hp, hb⟩ := hT.cells.2.2.2
 have HPB : Hid (p < w.heap.size ∧ b < w.heap.size) := ⟨hp, hb⟩
 have HDV : Hid (Sees w (.slice da o.data.length dc) (intsV .u8 o.data)) := hdv
 have dlb : (o.data.length : Int) ≤ 9223372036854775807 := by
  obtain ⟨ao, cap, e, h1, h2, h3⟩ := hdv
  rw [intsV_len] at h1
  unfold maxLen at h2
  clear h3
  omega
 rw [hq] at HFi ⊢
 obtain ⟨hfk, hkk⟩ : findB t o.path = .ok k ∧ (nodeAt t k).kind ≠ 2 := by
  cases hf : findB t o.path with
  | error y => rw [hf] at hq; simp only [outFile] at hq; cases hq
  | ok k' =>
    rw [hf] at hq
    simp only [outFile] at hq
    split at hq
    · cases hq
    · rename_i h2; injection hq with hq; subst hq; exact ⟨rfl, h2⟩
 have hk := find_lt ht hfk
 have hk1 : (nodeAt t k).kind = 1 := by
  rcases ht.kind (nodeAt_mem hk) with h | h
  · exact h
  · exact absurd h hkk
 have ok := ht.each _ (nodeAt_mem hk)
 have hdl : (nodeAt t k).data.length ≤ 2000 := by
  rcases ok.2.2 with h | h
  · omega
  · exact h.2.2.2.1
 obtain ⟨na, nc, sa, sc, hlook⟩ := hT.lookAt ht hk
 have HLK : Hid (∀ W, Below w.heap.size w W → _) := hlook
 have HND : Hid (∀ W, Below w.heap.size w W → Sees W (.slice na (nodeAt t k).data.length nc) (intsV .u8 (nodeAt t k).data)) := fun W hW => (hlook W hW).2.2.1
 have HPD : Hid (∀ W, Below w.heap.size w W → ∀ dv l, Sees W dv (intsV .u8 l) → _) := fun W hW dv l h => put_data hT ht hk hk1 hW dv l h
 have hf1 := nfield1
 simp only [outW2] at HFi
 have e00 : errV 0 = .nilIface := rfl
 rw [e00] at HFi
 have HRE : Hid (fileF t o (.ok k) = _) := rfl
 simp only [fileF] at HRE
 have HR : Hid (fileF t o (.ok k) = (t, noReply, 12)) := by
  show _ = _
  simp only [fileF]
  simp [ho, hr]
 rw [HR.out]
 obtain ⟨kind, path, to, off, n, data, snap⟩ := o
 simp only at ho hr
 subst ho
 obtain ⟨ii, hii⟩ : ∃ jj, (nodeAt t k).ino = jj := ⟨_, rfl⟩
 rw [hii] at HFi HLK
 rw [hk1] at HLK
 obtain ⟨nd, hnd⟩ : ∃ jj, (nodeAt t k).data.length = jj := ⟨_, rfl⟩
 rw [hnd] at HLK
 obtain ⟨dl, hdl2⟩ : ∃ jj, data.length = jj := ⟨_, rfl⟩
 simp only at H0 HFi ⊢
 rw [hdl2] at H0 ⊢
 simp only [hdl2] at dlb
 clear hT hG hs1 hdv ht hp hb hq hfk hkk hk hk1 ok hdl hlook HND HPD e00 HRE HR hii hnd hdl2 HDV
 by_cases ha : n < 0
 · clear hr
   go_enter Tryz.func65, Tryz.ntmps65
   go_wp2_with fail
   go_at_call 102
   refine (HFi.out _ H0.out.2.2).mono ?_
   rintro e w1 ⟨rfl, hb1⟩
   have H1 : Hid (Two w w1 ⟨9, path, to, off, n, data, snap⟩ (.slice da dl dc)) := H0.out.below hb1
   obtain ⟨o0, o1, o2, o3, o4, o5, o6, _⟩ := H1.out.1.c
   obtain ⟨b0, b1, b2, b3, b4, b5, b6, b7, bf, _⟩ := H1.out.2.1.c
   obtain ⟨hl, c0, _⟩ := HLK.out w1 H1.out.2.2
   clear hb1 HFi H0 HLK
   go_wp2
   refine bodyPost_ret (v := .tuple #[.agg #[.int .i64 0, .int .i64 0, .int .i64 0, .int .i64 0, .int .i64 0, .slice none 0 0, .slice none 0 0, .slice none 0 0], .iface 80 (.int .i64 12)]) (by simp [results, Tryz.results65, go_sem, *]) rfl ?_
   have hf := told_two (HT.out.1.below H1.out.2.2) (turn_below (p := p) (b := b) H1.out.2.2) H1.out.2.1 HPB.out.1 HPB.out.2 (outR_only w1 (w.heap.size + 1) (.int .i64 0) (.int .i64 0) (.int .i64 0) (.int .i64 0) (.int .i64 0) (.slice none 0 0) (.slice none 0 0) (.slice none 0 0))
   exact ⟨_, rfl, replyAt_no' _ _ _ _ _ _, hf.1, hf.2⟩
 · have hb2 : n > 2000 := by omega
   clear hr
   go_enter Tryz.func65, Tryz.ntmps65
   go_wp2_with fail
   go_at_call 102
   refine (HFi.out _ H0.out.2.2).mono ?_
   rintro e w1 ⟨rfl, hb1⟩
   have H1 : Hid (Two w w1 ⟨9, path, to, off, n, data, snap⟩ (.slice da dl dc)) := H0.out.below hb1
   obtain ⟨o0, o1, o2, o3, o4, o5, o6, _⟩ := H1.out.1.c
   obtain ⟨b0, b1, b2, b3, b4, b5, b6, b7, bf, _⟩ := H1.out.2.1.c
   obtain ⟨hl, c0, _⟩ := HLK.out w1 H1.out.2.2
   clear hb1 HFi H0 HLK
   go_wp2
   refine bodyPost_ret (v := .tuple #[.agg #[.int .i64 0, .int .i64 0, .int .i64 0, .int .i64 0, .int .i64 0, .slice none 0 0, .slice none 0 0, .slice none 0 0], .iface 80 (.int .i64 12)]) (by simp [results, Tryz.results65, go_sem, *]) rfl ?_
   have hf := told_two (HT.out.1.below H1.out.2.2) (turn_below (p := p) (b := b) H1.out.2.2) H1.out.2.1 HPB.out.1 HPB.out.2 (outR_only w1 (w.heap.size + 1) (.int .i64 0) (.int .i64 0) (.int .i64 0) (.int .i64 0) (.int .i64 0) (.slice none 0 0) (.slice none 0 0) (.slice none 0 0))
   exact ⟨_, rfl, replyAt_no' _ _ _ _ _ _, hf.1, hf.2⟩
set_option maxRecDepth 4000 in
set_option maxHeartbeats 16000000 in
theorem donFile_read (o : OpB) (da : Option Addr) (dc : Nat) (w : World) (p b : Nat) (t : TreeB) (hT : DTree w p b t) (hG : Good t) (hs1 : o.path.size ≤ maxLen) (hdv : Sees w (.slice da o.data.length dc) (intsV .u8 o.data)) (k : Nat) (hq : outFile t (findB t o.path) = .ok k) (ho : o.kind = 7) (hr : ¬ (o.off < 0 ∨ o.n < 0)) :
 Calls Tryz.prog 65 #[.pointer (some ⟨p, 0, none⟩), .agg #[.int .i64 o.kind, .string o.path, .string o.to, .int .i64 o.off, .int .i64 o.n, .slice da o.data.length dc, .int .i64 o.snap]] w fun e w' => Told w p b (fileF t o (outFile t (findB t o.path))) e w' := by
 have ht := hG.e.fair
 have H0 : Hid (Two w _ o (.slice da o.data.length dc)) := two_new w o (.slice da o.data.length dc)
 have HFi : Hid (∀ W, Below w.heap.size w W → _) := fun W hW => dfile_any o.path W p b t (hT.below hW) ht hs1
 have HT : Hid (DTree w p b t ∧ Good t) := ⟨hT, hG⟩
 obtain ⟨hp, hb⟩ := hT.cells.2.2.2
 have HPB : Hid (p < w.heap.size ∧ b < w.heap.size) := ⟨hp, hb⟩
 have HDV : Hid (Sees w (.slice da o.data.length dc) (intsV .u8 o.data)) := hdv
 have dlb : (o.data.length : Int) ≤ 9223372036854775807 := by
  obtain ⟨ao, cap, e, h1, h2, h3⟩ := hdv
  rw [intsV_len] at h1
  unfold maxLen at h2
  clear h3
  omega
 rw [hq] at HFi ⊢
 obtain ⟨hfk, hkk⟩ : findB t o.path = .ok k ∧ (nodeAt t k).kind ≠ 2 := by
  cases hf : findB t o.path with
  | error y => rw [hf] at hq; simp only [outFile] at hq; cases hq
  | ok k' =>
    rw [hf] at hq
    simp only [outFile] at hq
    split at hq
    · cases hq
    · rename_i h2; injection hq with hq; subst hq; exact ⟨rfl, h2⟩
 have hk := find_lt ht hfk
 have hk1 : (nodeAt t k).kind = 1 := by
  rcases ht.kind (nodeAt_mem hk) with h | h
  · exact h
  · exact absurd h hkk
 have ok := ht.each _ (nodeAt_mem hk)
 have hdl : (nodeAt t k).data.length ≤ 2000 := by
  rcases ok.2.2 with h | h
  · omega
  · exact h.2.2.2.1
 obtain ⟨na, nc, sa, sc, hlook⟩ := hT.lookAt ht hk
 have HLK : Hid (∀ W, Below w.heap.size w W → _) := hlook
 have HND : Hid (∀ W, Below w.heap.size w W → Sees W (.slice na (nodeAt t k).data.length nc) (intsV .u8 (nodeAt t k).data)) := fun W hW => (hlook W hW).2.2.1
 have HPD : Hid (∀ W, Below w.heap.size w W → ∀ dv l, Sees W dv (intsV .u8 l) → _) := fun W hW dv l h => put_data hT ht hk hk1 hW dv l h
 have hf1 := nfield1
 simp only [outW2] at HFi
 have e00 : errV 0 = .nilIface := rfl
 rw [e00] at HFi
 have HRE : Hid (fileF t o (.ok k) = _) := rfl
 simp only [fileF] at HRE
 have HPT : Hid (∀ W, Below w.heap.size w W → Calls Tryz.prog 103 #[.slice na (nodeAt t k).data.length nc, .int .i64 o.off, .int .i64 o.n] W fun e w' => ∃ ao cap, e = .returned (.slice ao (((nodeAt t k).data.drop o.off.toNat).take o.n.toNat).length cap) ∧ Hid (Sees w' (.slice ao (((nodeAt t k).data.drop o.off.toNat).take o.n.toNat).length cap) (intsV .u8 (((nodeAt t k).data.drop o.off.toNat).take o.n.toNat)) ∧ Below W.heap.size W w')) := fun W hW => by
  refine (dpart_any _ (nodeAt t k).data o.off o.n W (HND.out W hW) (by omega) (by omega) (by omega)).mono ?_
  rintro e w' ⟨r, rfl, hr, hb⟩
  obtain ⟨ao, cap, e1, _⟩ := hr.sees
  rw [intsV_len] at e1
  subst e1
  exact ⟨ao, cap, rfl, ⟨hr.sees, hb⟩⟩
 have HR : Hid (fileF t o (.ok k) = (t, { noReply with data := ((nodeAt t k).data.drop o.off.toNat).take o.n.toNat }, 0)) := by
  show _ = _
  simp only [fileF]
  rw [if_pos ho, if_neg hr]
 rw [HR.out]
 obtain ⟨kind, path, to, off, n, data, snap⟩ := o
 simp only at ho hr
 subst ho
 obtain ⟨ii, hii⟩ : ∃ jj, (nodeAt t k).ino = jj := ⟨_, rfl⟩
 rw [hii] at HFi HLK
 rw [hk1] at HLK
 simp only at HPT ⊢
 obtain ⟨pd, hpd⟩ : ∃ jj, ((nodeAt t k).data.drop off.toNat).take n.toNat = jj := ⟨_, rfl⟩
 rw [hpd] at HPT ⊢
 obtain ⟨nd, hnd⟩ : ∃ jj, (nodeAt t k).data.length = jj := ⟨_, rfl⟩
 rw [hnd] at HLK HPT
 obtain ⟨dl, hdl2⟩ : ∃ jj, data.length = jj := ⟨_, rfl⟩
 simp only at H0 HFi ⊢
 rw [hdl2] at H0 ⊢
 have ha : ¬ off < 0 := by omega
 have hb2 : ¬ n < 0 := by omega
 clear hT hG hs1 hdv ht hp hb hq hfk hkk hk hk1 ok hdl hlook HND HPD e00 HRE HR hii hnd hdl2 HDV dlb hr hpd
 go_enter Tryz.func65, Tryz.ntmps65
 go_wp2_with fail
 go_at_call 102
 refine (HFi.out _ H0.out.2.2).mono ?_
 rintro e w1 ⟨rfl, hb1⟩
 have H1 : Hid (Two w w1 ⟨7, path, to, off, n, data, snap⟩ (.slice da dl dc)) := H0.out.below hb1
 obtain ⟨o0, o1, o2, o3, o4, o5, o6, _⟩ := H1.out.1.c
 obtain ⟨b0, b1, b2, b3, b4, b5, b6, b7, bf, _⟩ := H1.out.2.1.c
 obtain ⟨hl, c0, _⟩ := HLK.out w1 H1.out.2.2
 have HP1 : Hid (Calls Tryz.prog 103 _ _ _) := HPT.out w1 H1.out.2.2
 clear hb1 HFi H0 HLK HPT b0 b1 b2 b3 b4 b5 b6 b7 bf
 go_wp2_with fail
 go_at_call 103
 refine HP1.out.mono ?_
 rintro e w2 ⟨ao, cap, rfl, HS⟩
 have H2 : Hid (Two w w2 ⟨7, path, to, off, n, data, snap⟩ (.slice da dl dc)) := H1.out.below HS.out.2
 obtain ⟨b0, b1, b2, b3, b4, b5, b6, b7, bf, _⟩ := H2.out.2.1.c
 clear HP1
 go_wp2
 refine bodyPost_ret (v := .tuple #[.agg #[.int .i64 0, .int .i64 0, .int .i64 0, .int .i64 0, .int .i64 0, .slice ao pd.length cap, .slice none 0 0, .slice none 0 0], .nilIface]) (by simp [results, Tryz.results65, go_sem, *]) rfl ?_
 have ho := outR_only w2 (w.heap.size + 1) (.int .i64 0) (.int .i64 0) (.int .i64 0) (.int .i64 0) (.int .i64 0) (.slice ao pd.length cap) (.slice none 0 0) (.slice none 0 0)
 have hf := told_two (HT.out.1.below H2.out.2.2) (turn_below (p := p) (b := b) H2.out.2.2) H2.out.2.1 HPB.out.1 HPB.out.2 ho
 exact ⟨_, rfl, ⟨_, _, _, rfl, sees_only HS.out.1 ho (H2.out.2.1.nobyte _), sees_nil0 _ _ rfl, sees_nil0 _ _ rfl⟩, hf.1, hf.2⟩
end Go.Proofs.YtbebgobboccjcaaGreatDoor
