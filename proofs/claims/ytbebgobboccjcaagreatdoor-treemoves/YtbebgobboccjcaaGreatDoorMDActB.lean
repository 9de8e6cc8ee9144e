/- act, kind by kind. -/
import Derived.Test.YtbebgobboccjcaaGreatDoorG5
namespace Go.Proofs.YtbebgobboccjcaaGreatDoor
open Go.RowKit Kit
set_option linter.unusedVariables false

set_option maxRecDepth 4000 in
set_option maxHeartbeats 8000000 in
theorem dact_c1 (o : OpB) (da : Option Addr) (dc : Nat) (w : World) (p b : Nat) (t : TreeB) (hT : DTree w p b t) (hG : Good t) (hs1 : o.path.size ≤ maxLen) (hs2 : o.to.size ≤ maxLen) (hdv : Sees w (.slice da o.data.length dc) (intsV .u8 o.data)) (ho : o.kind = 1) :
    Calls Tryz.prog 37 #[.pointer (some ⟨p, 0, none⟩), .agg #[.int .i64 o.kind, .string o.path, .string o.to, .int .i64 o.off, .int .i64 o.n, .slice da o.data.length dc, .int .i64 o.snap]] w fun e w' => Told w p b (doB t o) e w' := by
  obtain ⟨hp, hb⟩ := hT.cells.2.2.2
  have HPB : Hid (p < w.heap.size ∧ b < w.heap.size) := ⟨hp, hb⟩
  have H0 : Hid (Two w _ o (.slice da o.data.length dc)) := two_new w o (.slice da o.data.length dc)
  have HC : Hid (∀ W, Two w W o (.slice da o.data.length dc) → Calls Tryz.prog 61 #[.pointer (some ⟨p, 0, none⟩), .string o.path, .int .i64 1] W fun e w' => ToldX w p b (doB t o) e w') := fun W hW => by
    have hd : doB t o = makesB t o := by unfold doB; simp [ho]
    rw [hd]
    refine ((show Calls Tryz.prog 61 #[.pointer (some ⟨p, 0, none⟩), .string o.path, .int .i64 1] W _ from (by have h := dcreate_any o W p b t (hT.below hW.2.2) hG hs1; rw [show kindOf o = 1 by unfold kindOf; simp [ho]] at h; exact h))).mono ?_
    intro e w' h
    exact told_x hW hp hb h
  have HSN : Hid ((doB t o).2.1.snaps = []) := by
    have hd : doB t o = makesB t o := by unfold doB; simp [ho]
    show _ = _
    rw [hd]
    exact makes_snaps t o
  obtain ⟨x, hx⟩ : ∃ x, doB t o = x := ⟨_, rfl⟩
  rw [hx] at HC HSN ⊢
  obtain ⟨kind, path, to, off, n, data, snap⟩ := o
  simp only at ho
  subst ho
  simp only at HC H0 ⊢
  clear hT hG hs1 hs2 hdv hx hp hb
  go_enter Tryz.func37, Tryz.ntmps37
  go_wp2_with fail
  go_at_call 61
  refine (HC.out _ H0.out).mono ?_
  rintro e w1 ⟨ra, rc, na, nc, sa, sc, rfl, b0, b1, b2, b3, b4, b5, b6, b7, bf, HX⟩
  obtain ⟨t1, r1, c1⟩ := x
  simp only at HSN HX ⊢
  clear HC H0
  go_wp2
  refine bodyPost_ret (v := .tuple #[.agg #[.int .i64 r1.ino, .int .i64 r1.kind, .int .i64 r1.size, .int .i64 r1.links, .int .i64 r1.n, .slice ra r1.data.length rc, .slice na r1.names.length nc, .slice sa r1.snaps.length sc], errV c1]) (by simp [results, Tryz.results37, go_sem, *]) rfl ?_
  have ho := outR_only w1 (w.heap.size + 1) (.int .i64 r1.ino) (.int .i64 r1.kind) (.int .i64 r1.size) (.int .i64 r1.links) (.int .i64 r1.n) (.slice ra r1.data.length rc) (.slice na r1.names.length nc) (.slice sa r1.snaps.length sc)
  have hlt := HPB.out
  have hf := told_two HX.out.2.1 HX.out.2.2.1 HX.out.2.2.2 hlt.1 hlt.2 ho
  exact ⟨_, rfl, reply_fin HX.out.1 HSN.out HX.out.2.2.2 ho, hf.1, hf.2⟩
set_option maxRecDepth 4000 in
set_option maxHeartbeats 8000000 in
theorem dact_c2 (o : OpB) (da : Option Addr) (dc : Nat) (w : World) (p b : Nat) (t : TreeB) (hT : DTree w p b t) (hG : Good t) (hs1 : o.path.size ≤ maxLen) (hs2 : o.to.size ≤ maxLen) (hdv : Sees w (.slice da o.data.length dc) (intsV .u8 o.data)) (ho : o.kind = 2) :
    Calls Tryz.prog 37 #[.pointer (some ⟨p, 0, none⟩), .agg #[.int .i64 o.kind, .string o.path, .string o.to, .int .i64 o.off, .int .i64 o.n, .slice da o.data.length dc, .int .i64 o.snap]] w fun e w' => Told w p b (doB t o) e w' := by
  obtain ⟨hp, hb⟩ := hT.cells.2.2.2
  have HPB : Hid (p < w.heap.size ∧ b < w.heap.size) := ⟨hp, hb⟩
  have H0 : Hid (Two w _ o (.slice da o.data.length dc)) := two_new w o (.slice da o.data.length dc)
  have HC : Hid (∀ W, Two w W o (.slice da o.data.length dc) → Calls Tryz.prog 61 #[.pointer (some ⟨p, 0, none⟩), .string o.path, .int .i64 2] W fun e w' => ToldX w p b (doB t o) e w') := fun W hW => by
    have hd : doB t o = makesB t o := by unfold doB; simp [ho]
    rw [hd]
    refine ((show Calls Tryz.prog 61 #[.pointer (some ⟨p, 0, none⟩), .string o.path, .int .i64 2] W _ from (by have h := dcreate_any o W p b t (hT.below hW.2.2) hG hs1; rw [show kindOf o = 2 by unfold kindOf; simp [ho]] at h; exact h))).mono ?_
    intro e w' h
    exact told_x hW hp hb h
  have HSN : Hid ((doB t o).2.1.snaps = []) := by
    have hd : doB t o = makesB t o := by unfold doB; simp [ho]
    show _ = _
    rw [hd]
    exact makes_snaps t o
  obtain ⟨x, hx⟩ : ∃ x, doB t o = x := ⟨_, rfl⟩
  rw [hx] at HC HSN ⊢
  obtain ⟨kind, path, to, off, n, data, snap⟩ := o
  simp only at ho
  subst ho
  simp only at HC H0 ⊢
  clear hT hG hs1 hs2 hdv hx hp hb
  go_enter Tryz.func37, Tryz.ntmps37
  go_wp2_with fail
  go_at_call 61
  refine (HC.out _ H0.out).mono ?_
  rintro e w1 ⟨ra, rc, na, nc, sa, sc, rfl, b0, b1, b2, b3, b4, b5, b6, b7, bf, HX⟩
  obtain ⟨t1, r1, c1⟩ := x
  simp only at HSN HX ⊢
  clear HC H0
  go_wp2
  refine bodyPost_ret (v := .tuple #[.agg #[.int .i64 r1.ino, .int .i64 r1.kind, .int .i64 r1.size, .int .i64 r1.links, .int .i64 r1.n, .slice ra r1.data.length rc, .slice na r1.names.length nc, .slice sa r1.snaps.length sc], errV c1]) (by simp [results, Tryz.results37, go_sem, *]) rfl ?_
  have ho := outR_only w1 (w.heap.size + 1) (.int .i64 r1.ino) (.int .i64 r1.kind) (.int .i64 r1.size) (.int .i64 r1.links) (.int .i64 r1.n) (.slice ra r1.data.length rc) (.slice na r1.names.length nc) (.slice sa r1.snaps.length sc)
  have hlt := HPB.out
  have hf := told_two HX.out.2.1 HX.out.2.2.1 HX.out.2.2.2 hlt.1 hlt.2 ho
  exact ⟨_, rfl, reply_fin HX.out.1 HSN.out HX.out.2.2.2 ho, hf.1, hf.2⟩
set_option maxRecDepth 4000 in
set_option maxHeartbeats 8000000 in
theorem dact_c3 (o : OpB) (da : Option Addr) (dc : Nat) (w : World) (p b : Nat) (t : TreeB) (hT : DTree w p b t) (hG : Good t) (hs1 : o.path.size ≤ maxLen) (hs2 : o.to.size ≤ maxLen) (hdv : Sees w (.slice da o.data.length dc) (intsV .u8 o.data)) (ho : o.kind = 3) :
    Calls Tryz.prog 37 #[.pointer (some ⟨p, 0, none⟩), .agg #[.int .i64 o.kind, .string o.path, .string o.to, .int .i64 o.off, .int .i64 o.n, .slice da o.data.length dc, .int .i64 o.snap]] w fun e w' => Told w p b (doB t o) e w' := by
  obtain ⟨hp, hb⟩ := hT.cells.2.2.2
  have HPB : Hid (p < w.heap.size ∧ b < w.heap.size) := ⟨hp, hb⟩
  have H0 : Hid (Two w _ o (.slice da o.data.length dc)) := two_new w o (.slice da o.data.length dc)
  have HC : Hid (∀ W, Two w W o (.slice da o.data.length dc) → Calls Tryz.prog 62 #[.pointer (some ⟨p, 0, none⟩), .string o.path, .int .i64 1] W fun e w' => ToldE w p b (doB t o) e w') := fun W hW => by
    have hd : doB t o = removesB t o := by unfold doB; simp [ho]
    rw [hd]
    refine ((show Calls Tryz.prog 62 #[.pointer (some ⟨p, 0, none⟩), .string o.path, .int .i64 1] W _ from (by have h := dremove_any o (by omega) W p b t (hT.below hW.2.2) hG hs1; rw [show removeK o = 1 by unfold removeK; simp [ho]] at h; exact h))).mono ?_
    intro e w' h
    exact told_e hW hp hb h
  have HSN : Hid ((doB t o).2.1 = noReply) := by
    have hd : doB t o = removesB t o := by unfold doB; simp [ho]
    show _ = _
    rw [hd]
    exact removes_reply t o
  obtain ⟨x, hx⟩ : ∃ x, doB t o = x := ⟨_, rfl⟩
  rw [hx] at HC HSN ⊢
  obtain ⟨kind, path, to, off, n, data, snap⟩ := o
  simp only at ho
  subst ho
  simp only at HC H0 ⊢
  clear hT hG hs1 hs2 hdv hx hp hb
  go_enter Tryz.func37, Tryz.ntmps37
  go_wp2_with fail
  go_at_call 62
  refine (HC.out _ H0.out).mono ?_
  rintro e w1 ⟨rfl, b0, b1, b2, b3, b4, b5, b6, b7, bf, HX⟩
  obtain ⟨t1, r1, c1⟩ := x
  simp only at HSN HX ⊢
  clear HC H0
  go_wp2
  refine bodyPost_ret (v := .tuple #[.agg #[.int .i64 0, .int .i64 0, .int .i64 0, .int .i64 0, .int .i64 0, .slice none 0 0, .slice none 0 0, .slice none 0 0], errV c1]) (by simp [results, Tryz.results37, go_sem, *]) rfl ?_
  have ho := outR_only w1 (w.heap.size + 1) (.int .i64 0) (.int .i64 0) (.int .i64 0) (.int .i64 0) (.int .i64 0) (.slice none 0 0) (.slice none 0 0) (.slice none 0 0)
  have hlt := HPB.out
  have hf := told_two HX.out.1 HX.out.2.1 HX.out.2.2 hlt.1 hlt.2 ho
  refine ⟨_, rfl, ?_, hf.1, hf.2⟩
  rw [HSN.out]
  exact replyAt_no' _ _ _ _ _ _
set_option maxRecDepth 4000 in
set_option maxHeartbeats 8000000 in
theorem dact_c4 (o : OpB) (da : Option Addr) (dc : Nat) (w : World) (p b : Nat) (t : TreeB) (hT : DTree w p b t) (hG : Good t) (hs1 : o.path.size ≤ maxLen) (hs2 : o.to.size ≤ maxLen) (hdv : Sees w (.slice da o.data.length dc) (intsV .u8 o.data)) (ho : o.kind = 4) :
    Calls Tryz.prog 37 #[.pointer (some ⟨p, 0, none⟩), .agg #[.int .i64 o.kind, .string o.path, .string o.to, .int .i64 o.off, .int .i64 o.n, .slice da o.data.length dc, .int .i64 o.snap]] w fun e w' => Told w p b (doB t o) e w' := by
  obtain ⟨hp, hb⟩ := hT.cells.2.2.2
  have HPB : Hid (p < w.heap.size ∧ b < w.heap.size) := ⟨hp, hb⟩
  have H0 : Hid (Two w _ o (.slice da o.data.length dc)) := two_new w o (.slice da o.data.length dc)
  have HC : Hid (∀ W, Two w W o (.slice da o.data.length dc) → Calls Tryz.prog 62 #[.pointer (some ⟨p, 0, none⟩), .string o.path, .int .i64 2] W fun e w' => ToldE w p b (doB t o) e w') := fun W hW => by
    have hd : doB t o = removesB t o := by unfold doB; simp [ho]
    rw [hd]
    refine ((show Calls Tryz.prog 62 #[.pointer (some ⟨p, 0, none⟩), .string o.path, .int .i64 2] W _ from (by have h := dremove_any o (by omega) W p b t (hT.below hW.2.2) hG hs1; rw [show removeK o = 2 by unfold removeK; simp [ho]] at h; exact h))).mono ?_
    intro e w' h
    exact told_e hW hp hb h
  have HSN : Hid ((doB t o).2.1 = noReply) := by
    have hd : doB t o = removesB t o := by unfold doB; simp [ho]
    show _ = _
    rw [hd]
    exact removes_reply t o
  obtain ⟨x, hx⟩ : ∃ x, doB t o = x := ⟨_, rfl⟩
  rw [hx] at HC HSN ⊢
  obtain ⟨kind, path, to, off, n, data, snap⟩ := o
  simp only at ho
  subst ho
  simp only at HC H0 ⊢
  clear hT hG hs1 hs2 hdv hx hp hb
  go_enter Tryz.func37, Tryz.ntmps37
  go_wp2_with fail
  go_at_call 62
  refine (HC.out _ H0.out).mono ?_
  rintro e w1 ⟨rfl, b0, b1, b2, b3, b4, b5, b6, b7, bf, HX⟩
  obtain ⟨t1, r1, c1⟩ := x
  simp only at HSN HX ⊢
  clear HC H0
  go_wp2
  refine bodyPost_ret (v := .tuple #[.agg #[.int .i64 0, .int .i64 0, .int .i64 0, .int .i64 0, .int .i64 0, .slice none 0 0, .slice none 0 0, .slice none 0 0], errV c1]) (by simp [results, Tryz.results37, go_sem, *]) rfl ?_
  have ho := outR_only w1 (w.heap.size + 1) (.int .i64 0) (.int .i64 0) (.int .i64 0) (.int .i64 0) (.int .i64 0) (.slice none 0 0) (.slice none 0 0) (.slice none 0 0)
  have hlt := HPB.out
  have hf := told_two HX.out.1 HX.out.2.1 HX.out.2.2 hlt.1 hlt.2 ho
  refine ⟨_, rfl, ?_, hf.1, hf.2⟩
  rw [HSN.out]
  exact replyAt_no' _ _ _ _ _ _
set_option maxRecDepth 4000 in
set_option maxHeartbeats 8000000 in
theorem dact_c5 (o : OpB) (da : Option Addr) (dc : Nat) (w : World) (p b : Nat) (t : TreeB) (hT : DTree w p b t) (hG : Good t) (hs1 : o.path.size ≤ maxLen) (hs2 : o.to.size ≤ maxLen) (hdv : Sees w (.slice da o.data.length dc) (intsV .u8 o.data)) (ho : o.kind = 5) :
    Calls Tryz.prog 37 #[.pointer (some ⟨p, 0, none⟩), .agg #[.int .i64 o.kind, .string o.path, .string o.to, .int .i64 o.off, .int .i64 o.n, .slice da o.data.length dc, .int .i64 o.snap]] w fun e w' => Told w p b (doB t o) e w' := by
  obtain ⟨hp, hb⟩ := hT.cells.2.2.2
  have HPB : Hid (p < w.heap.size ∧ b < w.heap.size) := ⟨hp, hb⟩
  have H0 : Hid (Two w _ o (.slice da o.data.length dc)) := two_new w o (.slice da o.data.length dc)
  have HC : Hid (∀ W, Two w W o (.slice da o.data.length dc) → Calls Tryz.prog 63 #[.pointer (some ⟨p, 0, none⟩), .string o.path, .string o.to] W fun e w' => ToldE w p b (doB t o) e w') := fun W hW => by
    have hd : doB t o = renameB t o := by unfold doB; simp [ho]
    rw [hd]
    refine (drename_any o W p b t (hT.below hW.2.2) hG hs1 hs2).mono ?_
    intro e w' h
    exact told_e hW hp hb h
  have HSN : Hid ((doB t o).2.1 = noReply) := by
    have hd : doB t o = renameB t o := by unfold doB; simp [ho]
    show _ = _
    rw [hd]
    exact rename_reply t o
  obtain ⟨x, hx⟩ : ∃ x, doB t o = x := ⟨_, rfl⟩
  rw [hx] at HC HSN ⊢
  obtain ⟨kind, path, to, off, n, data, snap⟩ := o
  simp only at ho
  subst ho
  simp only at HC H0 ⊢
  clear hT hG hs1 hs2 hdv hx hp hb
  go_enter Tryz.func37, Tryz.ntmps37
  go_wp2_with fail
  go_at_call 63
  refine (HC.out _ H0.out).mono ?_
  rintro e w1 ⟨rfl, b0, b1, b2, b3, b4, b5, b6, b7, bf, HX⟩
  obtain ⟨t1, r1, c1⟩ := x
  simp only at HSN HX ⊢
  clear HC H0
  go_wp2
  refine bodyPost_ret (v := .tuple #[.agg #[.int .i64 0, .int .i64 0, .int .i64 0, .int .i64 0, .int .i64 0, .slice none 0 0, .slice none 0 0, .slice none 0 0], errV c1]) (by simp [results, Tryz.results37, go_sem, *]) rfl ?_
  have ho := outR_only w1 (w.heap.size + 1) (.int .i64 0) (.int .i64 0) (.int .i64 0) (.int .i64 0) (.int .i64 0) (.slice none 0 0) (.slice none 0 0) (.slice none 0 0)
  have hlt := HPB.out
  have hf := told_two HX.out.1 HX.out.2.1 HX.out.2.2 hlt.1 hlt.2 ho
  refine ⟨_, rfl, ?_, hf.1, hf.2⟩
  rw [HSN.out]
  exact replyAt_no' _ _ _ _ _ _
set_option maxRecDepth 4000 in
set_option maxHeartbeats 8000000 in
theorem dact_c6 (o : OpB) (da : Option Addr) (dc : Nat) (w : World) (p b : Nat) (t : TreeB) (hT : DTree w p b t) (hG : Good t) (hs1 : o.path.size ≤ maxLen) (hs2 : o.to.size ≤ maxLen) (hdv : Sees w (.slice da o.data.length dc) (intsV .u8 o.data)) (ho : o.kind = 6) :
    Calls Tryz.prog 37 #[.pointer (some ⟨p, 0, none⟩), .agg #[.int .i64 o.kind, .string o.path, .string o.to, .int .i64 o.off, .int .i64 o.n, .slice da o.data.length dc, .int .i64 o.snap]] w fun e w' => Told w p b (doB t o) e w' := by
  obtain ⟨hp, hb⟩ := hT.cells.2.2.2
  have HPB : Hid (p < w.heap.size ∧ b < w.heap.size) := ⟨hp, hb⟩
  have H0 : Hid (Two w _ o (.slice da o.data.length dc)) := two_new w o (.slice da o.data.length dc)
  have HC : Hid (∀ W, Two w W o (.slice da o.data.length dc) → Calls Tryz.prog 64 #[.pointer (some ⟨p, 0, none⟩), .string o.path, .string o.to] W fun e w' => ToldE w p b (doB t o) e w') := fun W hW => by
    have hd : doB t o = linkB t o := by unfold doB; simp [ho]
    rw [hd]
    refine (dlink_any o W p b t (hT.below hW.2.2) hG hs1 hs2).mono ?_
    intro e w' h
    exact told_e hW hp hb h
  have HSN : Hid ((doB t o).2.1 = noReply) := by
    have hd : doB t o = linkB t o := by unfold doB; simp [ho]
    show _ = _
    rw [hd]
    exact link_reply t o
  obtain ⟨x, hx⟩ : ∃ x, doB t o = x := ⟨_, rfl⟩
  rw [hx] at HC HSN ⊢
  obtain ⟨kind, path, to, off, n, data, snap⟩ := o
  simp only at ho
  subst ho
  simp only at HC H0 ⊢
  clear hT hG hs1 hs2 hdv hx hp hb
  go_enter Tryz.func37, Tryz.ntmps37
  go_wp2_with fail
  go_at_call 64
  refine (HC.out _ H0.out).mono ?_
  rintro e w1 ⟨rfl, b0, b1, b2, b3, b4, b5, b6, b7, bf, HX⟩
  obtain ⟨t1, r1, c1⟩ := x
  simp only at HSN HX ⊢
  clear HC H0
  go_wp2
  refine bodyPost_ret (v := .tuple #[.agg #[.int .i64 0, .int .i64 0, .int .i64 0, .int .i64 0, .int .i64 0, .slice none 0 0, .slice none 0 0, .slice none 0 0], errV c1]) (by simp [results, Tryz.results37, go_sem, *]) rfl ?_
  have ho := outR_only w1 (w.heap.size + 1) (.int .i64 0) (.int .i64 0) (.int .i64 0) (.int .i64 0) (.int .i64 0) (.slice none 0 0) (.slice none 0 0) (.slice none 0 0)
  have hlt := HPB.out
  have hf := told_two HX.out.1 HX.out.2.1 HX.out.2.2 hlt.1 hlt.2 ho
  refine ⟨_, rfl, ?_, hf.1, hf.2⟩
  rw [HSN.out]
  exact replyAt_no' _ _ _ _ _ _
set_option maxRecDepth 4000 in
set_option maxHeartbeats 8000000 in
theorem dact_c7 (o : OpB) (da : Option Addr) (dc : Nat) (w : World) (p b : Nat) (t : TreeB) (hT : DTree w p b t) (hG : Good t) (hs1 : o.path.size ≤ maxLen) (hs2 : o.to.size ≤ maxLen) (hdv : Sees w (.slice da o.data.length dc) (intsV .u8 o.data)) (ho : o.kind = 7) :
    Calls Tryz.prog 37 #[.pointer (some ⟨p, 0, none⟩), .agg #[.int .i64 o.kind, .string o.path, .string o.to, .int .i64 o.off, .int .i64 o.n, .slice da o.data.length dc, .int .i64 o.snap]] w fun e w' => Told w p b (doB t o) e w' := by
  obtain ⟨hp, hb⟩ := hT.cells.2.2.2
  have HPB : Hid (p < w.heap.size ∧ b < w.heap.size) := ⟨hp, hb⟩
  have H0 : Hid (Two w _ o (.slice da o.data.length dc)) := two_new w o (.slice da o.data.length dc)
  have HC : Hid (∀ W, Two w W o (.slice da o.data.length dc) → Calls Tryz.prog 65 #[.pointer (some ⟨p, 0, none⟩), .agg #[.int .i64 7, .string o.path, .string o.to, .int .i64 o.off, .int .i64 o.n, .slice da o.data.length dc, .int .i64 o.snap]] W fun e w' => ToldX w p b (doB t o) e w') := fun W hW => by
    have hd : doB t o = fileF t o (outFile t (findB t o.path)) := by (rw [← file_eq hG o (by omega)]; unfold doB; simp [ho])
    rw [hd]
    refine ((show Calls Tryz.prog 65 #[.pointer (some ⟨p, 0, none⟩), .agg #[.int .i64 7, .string o.path, .string o.to, .int .i64 o.off, .int .i64 o.n, .slice da o.data.length dc, .int .i64 o.snap]] W _ from (by have h := donFile_any o (by omega) da dc W p b t (hT.below hW.2.2) hG hs1 (hdv.below hW.2.2); rw [ho] at h; exact h))).mono ?_
    intro e w' h
    exact told_x hW hp hb h
  have HSN : Hid ((doB t o).2.1.snaps = []) := by
    have hd : doB t o = fileF t o (outFile t (findB t o.path)) := by (rw [← file_eq hG o (by omega)]; unfold doB; simp [ho])
    show _ = _
    rw [hd]
    exact file_snaps t o _
  obtain ⟨x, hx⟩ : ∃ x, doB t o = x := ⟨_, rfl⟩
  rw [hx] at HC HSN ⊢
  obtain ⟨kind, path, to, off, n, data, snap⟩ := o
  simp only at ho
  subst ho
  simp only at HC H0 ⊢
  clear hT hG hs1 hs2 hdv hx hp hb
  go_enter Tryz.func37, Tryz.ntmps37
  go_wp2_with fail
  go_at_call 65
  refine (HC.out _ H0.out).mono ?_
  rintro e w1 ⟨ra, rc, na, nc, sa, sc, rfl, b0, b1, b2, b3, b4, b5, b6, b7, bf, HX⟩
  obtain ⟨t1, r1, c1⟩ := x
  simp only at HSN HX ⊢
  clear HC H0
  go_wp2
  refine bodyPost_ret (v := .tuple #[.agg #[.int .i64 r1.ino, .int .i64 r1.kind, .int .i64 r1.size, .int .i64 r1.links, .int .i64 r1.n, .slice ra r1.data.length rc, .slice na r1.names.length nc, .slice sa r1.snaps.length sc], errV c1]) (by simp [results, Tryz.results37, go_sem, *]) rfl ?_
  have ho := outR_only w1 (w.heap.size + 1) (.int .i64 r1.ino) (.int .i64 r1.kind) (.int .i64 r1.size) (.int .i64 r1.links) (.int .i64 r1.n) (.slice ra r1.data.length rc) (.slice na r1.names.length nc) (.slice sa r1.snaps.length sc)
  have hlt := HPB.out
  have hf := told_two HX.out.2.1 HX.out.2.2.1 HX.out.2.2.2 hlt.1 hlt.2 ho
  exact ⟨_, rfl, reply_fin HX.out.1 HSN.out HX.out.2.2.2 ho, hf.1, hf.2⟩
set_option maxRecDepth 4000 in
set_option maxHeartbeats 8000000 in
theorem dact_c8 (o : OpB) (da : Option Addr) (dc : Nat) (w : World) (p b : Nat) (t : TreeB) (hT : DTree w p b t) (hG : Good t) (hs1 : o.path.size ≤ maxLen) (hs2 : o.to.size ≤ maxLen) (hdv : Sees w (.slice da o.data.length dc) (intsV .u8 o.data)) (ho : o.kind = 8) :
    Calls Tryz.prog 37 #[.pointer (some ⟨p, 0, none⟩), .agg #[.int .i64 o.kind, .string o.path, .string o.to, .int .i64 o.off, .int .i64 o.n, .slice da o.data.length dc, .int .i64 o.snap]] w fun e w' => Told w p b (doB t o) e w' := by
  obtain ⟨hp, hb⟩ := hT.cells.2.2.2
  have HPB : Hid (p < w.heap.size ∧ b < w.heap.size) := ⟨hp, hb⟩
  have H0 : Hid (Two w _ o (.slice da o.data.length dc)) := two_new w o (.slice da o.data.length dc)
  have HC : Hid (∀ W, Two w W o (.slice da o.data.length dc) → Calls Tryz.prog 65 #[.pointer (some ⟨p, 0, none⟩), .agg #[.int .i64 8, .string o.path, .string o.to, .int .i64 o.off, .int .i64 o.n, .slice da o.data.length dc, .int .i64 o.snap]] W fun e w' => ToldX w p b (doB t o) e w') := fun W hW => by
    have hd : doB t o = fileF t o (outFile t (findB t o.path)) := by (rw [← file_eq hG o (by omega)]; unfold doB; simp [ho])
    rw [hd]
    refine ((show Calls Tryz.prog 65 #[.pointer (some ⟨p, 0, none⟩), .agg #[.int .i64 8, .string o.path, .string o.to, .int .i64 o.off, .int .i64 o.n, .slice da o.data.length dc, .int .i64 o.snap]] W _ from (by have h := donFile_any o (by omega) da dc W p b t (hT.below hW.2.2) hG hs1 (hdv.below hW.2.2); rw [ho] at h; exact h))).mono ?_
    intro e w' h
    exact told_x hW hp hb h
  have HSN : Hid ((doB t o).2.1.snaps = []) := by
    have hd : doB t o = fileF t o (outFile t (findB t o.path)) := by (rw [← file_eq hG o (by omega)]; unfold doB; simp [ho])
    show _ = _
    rw [hd]
    exact file_snaps t o _
  obtain ⟨x, hx⟩ : ∃ x, doB t o = x := ⟨_, rfl⟩
  rw [hx] at HC HSN ⊢
  obtain ⟨kind, path, to, off, n, data, snap⟩ := o
  simp only at ho
  subst ho
  simp only at HC H0 ⊢
  clear hT hG hs1 hs2 hdv hx hp hb
  go_enter Tryz.func37, Tryz.ntmps37
  go_wp2_with fail
  go_at_call 65
  refine (HC.out _ H0.out).mono ?_
  rintro e w1 ⟨ra, rc, na, nc, sa, sc, rfl, b0, b1, b2, b3, b4, b5, b6, b7, bf, HX⟩
  obtain ⟨t1, r1, c1⟩ := x
  simp only at HSN HX ⊢
  clear HC H0
  go_wp2
  refine bodyPost_ret (v := .tuple #[.agg #[.int .i64 r1.ino, .int .i64 r1.kind, .int .i64 r1.size, .int .i64 r1.links, .int .i64 r1.n, .slice ra r1.data.length rc, .slice na r1.names.length nc, .slice sa r1.snaps.length sc], errV c1]) (by simp [results, Tryz.results37, go_sem, *]) rfl ?_
  have ho := outR_only w1 (w.heap.size + 1) (.int .i64 r1.ino) (.int .i64 r1.kind) (.int .i64 r1.size) (.int .i64 r1.links) (.int .i64 r1.n) (.slice ra r1.data.length rc) (.slice na r1.names.length nc) (.slice sa r1.snaps.length sc)
  have hlt := HPB.out
  have hf := told_two HX.out.2.1 HX.out.2.2.1 HX.out.2.2.2 hlt.1 hlt.2 ho
  exact ⟨_, rfl, reply_fin HX.out.1 HSN.out HX.out.2.2.2 ho, hf.1, hf.2⟩
set_option maxRecDepth 4000 in
set_option maxHeartbeats 8000000 in
theorem dact_c9 (o : OpB) (da : Option Addr) (dc : Nat) (w : World) (p b : Nat) (t : TreeB) (hT : DTree w p b t) (hG : Good t) (hs1 : o.path.size ≤ maxLen) (hs2 : o.to.size ≤ maxLen) (hdv : Sees w (.slice da o.data.length dc) (intsV .u8 o.data)) (ho : o.kind = 9) :
    Calls Tryz.prog 37 #[.pointer (some ⟨p, 0, none⟩), .agg #[.int .i64 o.kind, .string o.path, .string o.to, .int .i64 o.off, .int .i64 o.n, .slice da o.data.length dc, .int .i64 o.snap]] w fun e w' => Told w p b (doB t o) e w' := by
  obtain ⟨hp, hb⟩ := hT.cells.2.2.2
  have HPB : Hid (p < w.heap.size ∧ b < w.heap.size) := ⟨hp, hb⟩
  have H0 : Hid (Two w _ o (.slice da o.data.length dc)) := two_new w o (.slice da o.data.length dc)
  have HC : Hid (∀ W, Two w W o (.slice da o.data.length dc) → Calls Tryz.prog 65 #[.pointer (some ⟨p, 0, none⟩), .agg #[.int .i64 9, .string o.path, .string o.to, .int .i64 o.off, .int .i64 o.n, .slice da o.data.length dc, .int .i64 o.snap]] W fun e w' => ToldX w p b (doB t o) e w') := fun W hW => by
    have hd : doB t o = fileF t o (outFile t (findB t o.path)) := by (rw [← file_eq hG o (by omega)]; unfold doB; simp [ho])
    rw [hd]
    refine ((show Calls Tryz.prog 65 #[.pointer (some ⟨p, 0, none⟩), .agg #[.int .i64 9, .string o.path, .string o.to, .int .i64 o.off, .int .i64 o.n, .slice da o.data.length dc, .int .i64 o.snap]] W _ from (by have h := donFile_any o (by omega) da dc W p b t (hT.below hW.2.2) hG hs1 (hdv.below hW.2.2); rw [ho] at h; exact h))).mono ?_
    intro e w' h
    exact told_x hW hp hb h
  have HSN : Hid ((doB t o).2.1.snaps = []) := by
    have hd : doB t o = fileF t o (outFile t (findB t o.path)) := by (rw [← file_eq hG o (by omega)]; unfold doB; simp [ho])
    show _ = _
    rw [hd]
    exact file_snaps t o _
  obtain ⟨x, hx⟩ : ∃ x, doB t o = x := ⟨_, rfl⟩
  rw [hx] at HC HSN ⊢
  obtain ⟨kind, path, to, off, n, data, snap⟩ := o
  simp only at ho
  subst ho
  simp only at HC H0 ⊢
  clear hT hG hs1 hs2 hdv hx hp hb
  go_enter Tryz.func37, Tryz.ntmps37
  go_wp2_with fail
  go_at_call 65
  refine (HC.out _ H0.out).mono ?_
  rintro e w1 ⟨ra, rc, na, nc, sa, sc, rfl, b0, b1, b2, b3, b4, b5, b6, b7, bf, HX⟩
  obtain ⟨t1, r1, c1⟩ := x
  simp only at HSN HX ⊢
  clear HC H0
  go_wp2
  refine bodyPost_ret (v := .tuple #[.agg #[.int .i64 r1.ino, .int .i64 r1.kind, .int .i64 r1.size, .int .i64 r1.links, .int .i64 r1.n, .slice ra r1.data.length rc, .slice na r1.names.length nc, .slice sa r1.snaps.length sc], errV c1]) (by simp [results, Tryz.results37, go_sem, *]) rfl ?_
  have ho := outR_only w1 (w.heap.size + 1) (.int .i64 r1.ino) (.int .i64 r1.kind) (.int .i64 r1.size) (.int .i64 r1.links) (.int .i64 r1.n) (.slice ra r1.data.length rc) (.slice na r1.names.length nc) (.slice sa r1.snaps.length sc)
  have hlt := HPB.out
  have hf := told_two HX.out.2.1 HX.out.2.2.1 HX.out.2.2.2 hlt.1 hlt.2 ho
  exact ⟨_, rfl, reply_fin HX.out.1 HSN.out HX.out.2.2.2 ho, hf.1, hf.2⟩
set_option maxRecDepth 4000 in
set_option maxHeartbeats 8000000 in
theorem dact_c10 (o : OpB) (da : Option Addr) (dc : Nat) (w : World) (p b : Nat) (t : TreeB) (hT : DTree w p b t) (hG : Good t) (hs1 : o.path.size ≤ maxLen) (hs2 : o.to.size ≤ maxLen) (hdv : Sees w (.slice da o.data.length dc) (intsV .u8 o.data)) (ho : o.kind = 10) :
    Calls Tryz.prog 37 #[.pointer (some ⟨p, 0, none⟩), .agg #[.int .i64 o.kind, .string o.path, .string o.to, .int .i64 o.off, .int .i64 o.n, .slice da o.data.length dc, .int .i64 o.snap]] w fun e w' => Told w p b (doB t o) e w' := by
  obtain ⟨hp, hb⟩ := hT.cells.2.2.2
  have HPB : Hid (p < w.heap.size ∧ b < w.heap.size) := ⟨hp, hb⟩
  have H0 : Hid (Two w _ o (.slice da o.data.length dc)) := two_new w o (.slice da o.data.length dc)
  have HC : Hid (∀ W, Two w W o (.slice da o.data.length dc) → Calls Tryz.prog 66 #[.pointer (some ⟨p, 0, none⟩), .string o.path] W fun e w' => ToldX w p b (doB t o) e w') := fun W hW => by
    have hd : doB t o = statF t (findB t o.path) := by (rw [← stat_eq t o ho]; unfold doB; simp [ho])
    rw [hd]
    refine (dstat_any o W p b t (hT.below hW.2.2) hG hs1).mono ?_
    intro e w' h
    exact told_x hW hp hb h
  have HSN : Hid ((doB t o).2.1.snaps = []) := by
    have hd : doB t o = statF t (findB t o.path) := by (rw [← stat_eq t o ho]; unfold doB; simp [ho])
    show _ = _
    rw [hd]
    exact (by rw [← stat_eq t o ho]; exact looks_snaps t o)
  obtain ⟨x, hx⟩ : ∃ x, doB t o = x := ⟨_, rfl⟩
  rw [hx] at HC HSN ⊢
  obtain ⟨kind, path, to, off, n, data, snap⟩ := o
  simp only at ho
  subst ho
  simp only at HC H0 ⊢
  clear hT hG hs1 hs2 hdv hx hp hb
  go_enter Tryz.func37, Tryz.ntmps37
  go_wp2_with fail
  go_at_call 66
  refine (HC.out _ H0.out).mono ?_
  rintro e w1 ⟨ra, rc, na, nc, sa, sc, rfl, b0, b1, b2, b3, b4, b5, b6, b7, bf, HX⟩
  obtain ⟨t1, r1, c1⟩ := x
  simp only at HSN HX ⊢
  clear HC H0
  go_wp2
  refine bodyPost_ret (v := .tuple #[.agg #[.int .i64 r1.ino, .int .i64 r1.kind, .int .i64 r1.size, .int .i64 r1.links, .int .i64 r1.n, .slice ra r1.data.length rc, .slice na r1.names.length nc, .slice sa r1.snaps.length sc], errV c1]) (by simp [results, Tryz.results37, go_sem, *]) rfl ?_
  have ho := outR_only w1 (w.heap.size + 1) (.int .i64 r1.ino) (.int .i64 r1.kind) (.int .i64 r1.size) (.int .i64 r1.links) (.int .i64 r1.n) (.slice ra r1.data.length rc) (.slice na r1.names.length nc) (.slice sa r1.snaps.length sc)
  have hlt := HPB.out
  have hf := told_two HX.out.2.1 HX.out.2.2.1 HX.out.2.2.2 hlt.1 hlt.2 ho
  exact ⟨_, rfl, reply_fin HX.out.1 HSN.out HX.out.2.2.2 ho, hf.1, hf.2⟩
set_option maxRecDepth 4000 in
set_option maxHeartbeats 8000000 in
theorem dact_c11 (o : OpB) (da : Option Addr) (dc : Nat) (w : World) (p b : Nat) (t : TreeB) (hT : DTree w p b t) (hG : Good t) (hs1 : o.path.size ≤ maxLen) (hs2 : o.to.size ≤ maxLen) (hdv : Sees w (.slice da o.data.length dc) (intsV .u8 o.data)) (ho : o.kind = 11) :
    Calls Tryz.prog 37 #[.pointer (some ⟨p, 0, none⟩), .agg #[.int .i64 o.kind, .string o.path, .string o.to, .int .i64 o.off, .int .i64 o.n, .slice da o.data.length dc, .int .i64 o.snap]] w fun e w' => Told w p b (doB t o) e w' := by
  obtain ⟨hp, hb⟩ := hT.cells.2.2.2
  have HPB : Hid (p < w.heap.size ∧ b < w.heap.size) := ⟨hp, hb⟩
  have H0 : Hid (Two w _ o (.slice da o.data.length dc)) := two_new w o (.slice da o.data.length dc)
  have HC : Hid (∀ W, Two w W o (.slice da o.data.length dc) → Calls Tryz.prog 67 #[.pointer (some ⟨p, 0, none⟩), .string o.path] W fun e w' => ToldX w p b (doB t o) e w') := fun W hW => by
    have hd : doB t o = readdirF t (findB t o.path) := by (rw [← readdir_eq t o ho]; unfold doB; simp [ho])
    rw [hd]
    refine (dreaddir_any o W p b t (hT.below hW.2.2) hG hs1).mono ?_
    intro e w' h
    exact told_x hW hp hb h
  have HSN : Hid ((doB t o).2.1.snaps = []) := by
    have hd : doB t o = readdirF t (findB t o.path) := by (rw [← readdir_eq t o ho]; unfold doB; simp [ho])
    show _ = _
    rw [hd]
    exact (by rw [← readdir_eq t o ho]; exact looks_snaps t o)
  obtain ⟨x, hx⟩ : ∃ x, doB t o = x := ⟨_, rfl⟩
  rw [hx] at HC HSN ⊢
  obtain ⟨kind, path, to, off, n, data, snap⟩ := o
  simp only at ho
  subst ho
  simp only at HC H0 ⊢
  clear hT hG hs1 hs2 hdv hx hp hb
  go_enter Tryz.func37, Tryz.ntmps37
  go_wp2_with fail
  go_at_call 67
  refine (HC.out _ H0.out).mono ?_
  rintro e w1 ⟨ra, rc, na, nc, sa, sc, rfl, b0, b1, b2, b3, b4, b5, b6, b7, bf, HX⟩
  obtain ⟨t1, r1, c1⟩ := x
  simp only at HSN HX ⊢
  clear HC H0
  go_wp2
  refine bodyPost_ret (v := .tuple #[.agg #[.int .i64 r1.ino, .int .i64 r1.kind, .int .i64 r1.size, .int .i64 r1.links, .int .i64 r1.n, .slice ra r1.data.length rc, .slice na r1.names.length nc, .slice sa r1.snaps.length sc], errV c1]) (by simp [results, Tryz.results37, go_sem, *]) rfl ?_
  have ho := outR_only w1 (w.heap.size + 1) (.int .i64 r1.ino) (.int .i64 r1.kind) (.int .i64 r1.size) (.int .i64 r1.links) (.int .i64 r1.n) (.slice ra r1.data.length rc) (.slice na r1.names.length nc) (.slice sa r1.snaps.length sc)
  have hlt := HPB.out
  have hf := told_two HX.out.2.1 HX.out.2.2.1 HX.out.2.2.2 hlt.1 hlt.2 ho
  exact ⟨_, rfl, reply_fin HX.out.1 HSN.out HX.out.2.2.2 ho, hf.1, hf.2⟩
end Go.Proofs.YtbebgobboccjcaaGreatDoor
