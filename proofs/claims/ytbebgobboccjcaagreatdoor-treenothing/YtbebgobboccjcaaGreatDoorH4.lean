/- Several texts in one: DActA DActB DDo DDo2L DDo3L TCopied TSwept TOwn TBox TOut TSameReply TSwept2 TTreeN TWithM. -/
import Derived.Test.YtbebgobboccjcaaGreatDoorH3
import Derived.Test.YtbebgobboccjcaaGreatDoorPDStat
import Derived.Test.YtbebgobboccjcaaGreatDoorPDOnFileR
import Derived.Test.YtbebgobboccjcaaGreatDoorPDOnFileW
import Derived.Deep.RegionWith
import Derived.Test.YtbebgobboccjcaaGreatDoorPTWithout
import Derived.Test.YtbebgobboccjcaaGreatDoorH2
import Derived.Test.YtbebgobboccjcaaGreatDoorH1
import Derived.Deep.RegionHeld3
import Derived.Deep.RegionLaw
import Derived.Deep.DeepFit
import Derived.Laws.Cover1
namespace Go.Proofs.YtbebgobboccjcaaGreatDoor
open Go.RowKit Kit
set_option linter.unusedVariables false

theorem removes_reply (t : TreeB) (o : OpB) : (removesB t o).2.1 = noReply := by
 unfold removesB
 split
 · rfl
 · split
   · rfl
   · split
     · rfl
     · split
       · rfl
       · split
         · rfl
         · split <;> rfl
theorem rename_reply (t : TreeB) (o : OpB) : (renameB t o).2.1 = noReply := by
 unfold renameB
 split
 · rfl
 · split
   · rfl
   · split
     · rfl
     · split
       · rfl
       · split
         · rfl
         · split
           · rfl
           · split
             · split
               · rfl
               · split
                 · rfl
                 · split
                   · rfl
                   · split <;> rfl
             · rfl
theorem link_reply (t : TreeB) (o : OpB) : (linkB t o).2.1 = noReply := by
 unfold linkB
 split
 · rfl
 · split
   · rfl
   · split
     · rfl
     · split
       · rfl
       · split
         · rfl
         · split <;> rfl
theorem makes_snaps (t : TreeB) (o : OpB) : (makesB t o).2.1.snaps = [] := by
 unfold makesB
 split
 · rfl
 · split
   · rfl
   · split <;> rfl
theorem file_snaps (t : TreeB) (o : OpB) (q : Except Int Nat) : (fileF t o q).2.1.snaps = [] := by
 unfold fileF
 split
 · rfl
 · split
   · split <;> rfl
   · split
     · split <;> rfl
     · split <;> rfl
theorem looks_snaps (t : TreeB) (o : OpB) : (looksB t o).2.1.snaps = [] := by
 unfold looksB
 split
 · rfl
 · split
   · rfl
   · split <;> rfl
def ToldX (w : World) (p b : Nat) (x : TreeB × ReplyB × Int) (e : Ending) (w' : World) : Prop := ∃ da dc na nc sa sc, e = .returned (.tuple #[.agg #[.int .i64 x.2.1.ino, .int .i64 x.2.1.kind, .int .i64 x.2.1.size, .int .i64 x.2.1.links, .int .i64 x.2.1.n, .slice da x.2.1.data.length dc, .slice na x.2.1.names.length nc, .slice sa x.2.1.snaps.length sc], errV x.2.2]) ∧
 w'.cell? ⟨w.heap.size + 1, 0, none⟩ = some (.int .i64 0) ∧ w'.cell? ⟨w.heap.size + 1, 1, none⟩ = some (.int .i64 0) ∧ w'.cell? ⟨w.heap.size + 1, 2, none⟩ = some (.int .i64 0) ∧ w'.cell? ⟨w.heap.size + 1, 3, none⟩ = some (.int .i64 0) ∧ w'.cell? ⟨w.heap.size + 1, 4, none⟩ = some (.int .i64 0) ∧ w'.cell? ⟨w.heap.size + 1, 5, none⟩ = some (.slice none 0 0) ∧ w'.cell? ⟨w.heap.size + 1, 6, none⟩ = some (.slice none 0 0) ∧ w'.cell? ⟨w.heap.size + 1, 7, none⟩ = some (.slice none 0 0) ∧ (∀ j, w'.frozen? ⟨w.heap.size + 1, j, none⟩ = false) ∧
 Hid (ReplyAt w' (.agg #[.int .i64 x.2.1.ino, .int .i64 x.2.1.kind, .int .i64 x.2.1.size, .int .i64 x.2.1.links, .int .i64 x.2.1.n, .slice da x.2.1.data.length dc, .slice na x.2.1.names.length nc, .slice sa x.2.1.snaps.length sc]) x.2.1 ∧ DTree w' p b x.1 ∧ Turn p b w w' ∧ RBox w' (w.heap.size + 1))
theorem told_x {w W w' : World} {o : OpB} {dv : Value} {p b : Nat} {x : TreeB × ReplyB × Int} {e : Ending} (h2 : Two w W o dv) (hp : p < w.heap.size) (hb : b < w.heap.size) (h : Told W p b x e w') : ToldX w p b x e w' := by
 obtain ⟨rv, h1, h3, h4, h5⟩ := h
 have hr := h2.2.1.turn h5 (by omega) (by omega)
 have rc := hr.c
 obtain ⟨dv', nv, sv, e1, k1, k2, k3⟩ := id h3
 obtain ⟨da, dc, q1, _⟩ := k1
 obtain ⟨na, nc, q2, _⟩ := k2
 obtain ⟨sa, sc, q3, _⟩ := k3
 rw [intsV_len] at q1 q3
 rw [strs_len] at q2
 subst q1 q2 q3
 subst e1
 exact ⟨da, dc, na, nc, sa, sc, h1, rc.1, rc.2.1, rc.2.2.1, rc.2.2.2.1, rc.2.2.2.2.1, rc.2.2.2.2.2.1, rc.2.2.2.2.2.2.1, rc.2.2.2.2.2.2.2.1, rc.2.2.2.2.2.2.2.2.1, ⟨h3, h4, (turn_below h2.2.2).trans h5, hr⟩⟩
theorem reply_fin {w' W2 : World} {B : Nat} {v : Value} {r : ReplyB} (h : ReplyAt w' v r) (hs : r.snaps = []) (hB : RBox w' B) (ho : Only B w' W2) : ReplyAt W2 v r := by
 obtain ⟨dv, nv, sv, e1, k1, k2, k3⟩ := h
 refine ⟨dv, nv, sv, e1, sees_only k1 ho (hB.nobyte _), sees_only k2 ho (hB.nostr _), sees_only k3 ho (fun o x _ hm => ?_)⟩
 rw [hs] at hm
 simp [intsV] at hm
def ToldE (w : World) (p b : Nat) (x : TreeB × ReplyB × Int) (e : Ending) (w' : World) : Prop := e = .returned (errV x.2.2) ∧
 w'.cell? ⟨w.heap.size + 1, 0, none⟩ = some (.int .i64 0) ∧ w'.cell? ⟨w.heap.size + 1, 1, none⟩ = some (.int .i64 0) ∧ w'.cell? ⟨w.heap.size + 1, 2, none⟩ = some (.int .i64 0) ∧ w'.cell? ⟨w.heap.size + 1, 3, none⟩ = some (.int .i64 0) ∧ w'.cell? ⟨w.heap.size + 1, 4, none⟩ = some (.int .i64 0) ∧ w'.cell? ⟨w.heap.size + 1, 5, none⟩ = some (.slice none 0 0) ∧ w'.cell? ⟨w.heap.size + 1, 6, none⟩ = some (.slice none 0 0) ∧ w'.cell? ⟨w.heap.size + 1, 7, none⟩ = some (.slice none 0 0) ∧ (∀ j, w'.frozen? ⟨w.heap.size + 1, j, none⟩ = false) ∧
 Hid (DTree w' p b x.1 ∧ Turn p b w w' ∧ RBox w' (w.heap.size + 1))
theorem told_e {w W w' : World} {o : OpB} {dv : Value} {p b : Nat} {x : TreeB × ReplyB × Int} {e : Ending} (h2 : Two w W o dv) (hp : p < w.heap.size) (hb : b < w.heap.size) (h : e = .returned (errV x.2.2) ∧ DTree w' p b x.1 ∧ Turn p b W w') : ToldE w p b x e w' := by
 obtain ⟨h1, h4, h5⟩ := h
 have hr := h2.2.1.turn h5 (by omega) (by omega)
 have rc := hr.c
 exact ⟨h1, rc.1, rc.2.1, rc.2.2.1, rc.2.2.2.1, rc.2.2.2.2.1, rc.2.2.2.2.2.1, rc.2.2.2.2.2.2.1, rc.2.2.2.2.2.2.2.1, rc.2.2.2.2.2.2.2.2.1, ⟨h4, (turn_below h2.2.2).trans h5, hr⟩⟩
theorem donFile_any (o : OpB) (ho : o.kind = 7 ∨ o.kind = 8 ∨ o.kind = 9) (da : Option Addr) (dc : Nat) (w : World) (p b : Nat) (t : TreeB) (hT : DTree w p b t) (hG : Good t) (hs1 : o.path.size ≤ maxLen) (hdv : Sees w (.slice da o.data.length dc) (intsV .u8 o.data)) :
 Calls Tryz.prog 65 #[.pointer (some ⟨p, 0, none⟩), .agg #[.int .i64 o.kind, .string o.path, .string o.to, .int .i64 o.off, .int .i64 o.n, .slice da o.data.length dc, .int .i64 o.snap]] w fun e w' => Told w p b (fileF t o (outFile t (findB t o.path))) e w' := by
 cases hq : outFile t (findB t o.path) with
 | error x => have := donFile_err o da dc w p b t hT hG hs1 hdv x hq; rw [hq] at this; exact this
 | ok k =>
   rcases ho with h | h | h
   · by_cases hr : o.off < 0 ∨ o.n < 0
     · have := donFile_r7 o da dc w p b t hT hG hs1 hdv k hq h hr; rw [hq] at this; exact this
     · have := donFile_read o da dc w p b t hT hG hs1 hdv k hq h hr; rw [hq] at this; exact this
   · by_cases hr : o.off < 0 ∨ o.off > 2000 - (o.data.length : Int)
     · have := donFile_r8 o da dc w p b t hT hG hs1 hdv k hq h hr; rw [hq] at this; exact this
     · have := donFile_write o da dc w p b t hT hG hs1 hdv k hq h hr; rw [hq] at this; exact this
   · by_cases hr : o.n < 0 ∨ 2000 < o.n
     · have := donFile_r9 o da dc w p b t hT hG hs1 hdv k hq h hr; rw [hq] at this; exact this
     · have := donFile_cut o da dc w p b t hT hG hs1 hdv k hq h hr; rw [hq] at this; exact this
end Go.Proofs.YtbebgobboccjcaaGreatDoor
namespace Go.Proofs.YtbebgobboccjcaaGreatDoor
open Go.RowKit Kit
set_option linter.unusedVariables false

set_option maxRecDepth 4000 in
set_option maxHeartbeats 8000000 in
theorem dact_c1 (o : OpB) (da : Option Addr) (dc : Nat) (w : World) (p b : Nat) (t : TreeB) (hT : DTree w p b t) (hG : Good t) (hs1 : o.path.size ≤ maxLen) (hs2 : o.to.size ≤ maxLen) (hdv : Sees w (.slice da o.data.length dc) (intsV .u8 o.data)) (ho : o.kind = 1) :
 Calls Tryz.prog 37 #[.pointer (some ⟨p, 0, none⟩), .agg #[.int .i64 o.kind, .string o.path, .string o.to, .int .i64 o.off, .int .i64 o.n, .slice da o.data.length dc, .int .i64 o.snap]] w fun e w' => Told w p b (doB t o) e w' := by
 obtain ⟨hp, hb⟩ := hT.cells.2.2.2
 have HPB : Hid (p < w.heap.size ∧ b < w.heap.size) := ⟨hp, hb⟩
 have H0 : Hid (Two w _ o (.slice da o.data.length dc)) := two_new w o (.slice da o.data.length dc)
 have HC : Hid (∀ W, Two w W o (.slice da o.data.length dc) → Calls Tryz.prog 61 #[.pointer (some ⟨p, 0, none⟩), .string o.path, .int .i64 1] W fun e w' => ToldX w p b (doB t o) e w') := fun W hW => by
  have hd : doB t o = makesB t o := by unfold doB; simp [ho]
  rw [hd]
  refine ((show Calls Tryz.prog 61 #[.pointer (some ⟨p, 0, none⟩), .string o.path, .int .i64 1] W _ from (by have h := dcreate_any o W p b t (hT.below hW.2.2) hG hs1; rw [show kindOf o = 1 by unfold kindOf; simp [ho]] at h; exact h))).mono ?_
  intro e w' h
  exact told_x hW hp hb h
 have HSN : Hid ((doB t o).2.1.snaps = []) := by
  have hd : doB t o = makesB t o := by unfold doB; simp [ho]
  show _ = _
  rw [hd]
  exact makes_snaps t o
 obtain ⟨x, hx⟩ : ∃ x, doB t o = x := ⟨_, rfl⟩
 rw [hx] at HC HSN ⊢
 obtain ⟨kind, path, to, off, n, data, snap⟩ := o
 simp only at ho
 subst ho
 simp only at HC H0 ⊢
 clear hT hG hs1 hs2 hdv hx hp hb
 go_enter Tryz.func37, Tryz.ntmps37
 go_wp2_with fail
 go_at_call 61
 refine (HC.out _ H0.out).mono ?_
 rintro e w1 ⟨ra, rc, na, nc, sa, sc, rfl, b0, b1, b2, b3, b4, b5, b6, b7, bf, HX⟩
 obtain ⟨t1, r1, c1⟩ := x
 simp only at HSN HX ⊢
 clear HC H0
 go_wp2
 refine bodyPost_ret (v := .tuple #[.agg #[.int .i64 r1.ino, .int .i64 r1.kind, .int .i64 r1.size, .int .i64 r1.links, .int .i64 r1.n, .slice ra r1.data.length rc, .slice na r1.names.length nc, .slice sa r1.snaps.length sc], errV c1]) (by simp [results, Tryz.results37, go_sem, *]) rfl ?_
 have ho := outR_only w1 (w.heap.size + 1) (.int .i64 r1.ino) (.int .i64 r1.kind) (.int .i64 r1.size) (.int .i64 r1.links) (.int .i64 r1.n) (.slice ra r1.data.length rc) (.slice na r1.names.length nc) (.slice sa r1.snaps.length sc)
 have hlt := HPB.out
 have hf := told_two HX.out.2.1 HX.out.2.2.1 HX.out.2.2.2 hlt.1 hlt.2 ho
 exact ⟨_, rfl, reply_fin HX.out.1 HSN.out HX.out.2.2.2 ho, hf.1, hf.2⟩
set_option maxRecDepth 4000 in
set_option maxHeartbeats 8000000 in
theorem dact_c2 (o : OpB) (da : Option Addr) (dc : Nat) (w : World) (p b : Nat) (t : TreeB) (hT : DTree w p b t) (hG : Good t) (hs1 : o.path.size ≤ maxLen) (hs2 : o.to.size ≤ maxLen) (hdv : Sees w (.slice da o.data.length dc) (intsV .u8 o.data)) (ho : o.kind = 2) :
 Calls Tryz.prog 37 #[.pointer (some ⟨p, 0, none⟩), .agg #[.int .i64 o.kind, .string o.path, .string o.to, .int .i64 o.off, .int .i64 o.n, .slice da o.data.length dc, .int .i64 o.snap]] w fun e w' => Told w p b (doB t o) e w' := by
 obtain ⟨hp, hb⟩ := hT.cells.2.2.2
 have HPB : Hid (p < w.heap.size ∧ b < w.heap.size) := ⟨hp, hb⟩
 have H0 : Hid (Two w _ o (.slice da o.data.length dc)) := two_new w o (.slice da o.data.length dc)
 have HC : Hid (∀ W, Two w W o (.slice da o.data.length dc) → Calls Tryz.prog 61 #[.pointer (some ⟨p, 0, none⟩), .string o.path, .int .i64 2] W fun e w' => ToldX w p b (doB t o) e w') := fun W hW => by
  have hd : doB t o = makesB t o := by unfold doB; simp [ho]
  rw [hd]
  refine ((show Calls Tryz.prog 61 #[.pointer (some ⟨p, 0, none⟩), .string o.path, .int .i64 2] W _ from (by have h := dcreate_any o W p b t (hT.below hW.2.2) hG hs1; rw [show kindOf o = 2 by unfold kindOf; simp [ho]] at h; exact h))).mono ?_
  intro e w' h
  exact told_x hW hp hb h
 have HSN : Hid ((doB t o).2.1.snaps = []) := by
  have hd : doB t o = makesB t o := by unfold doB; simp [ho]
  show _ = _
  rw [hd]
  exact makes_snaps t o
 obtain ⟨x, hx⟩ : ∃ x, doB t o = x := ⟨_, rfl⟩
 rw [hx] at HC HSN ⊢
 obtain ⟨kind, path, to, off, n, data, snap⟩ := o
 simp only at ho
 subst ho
 simp only at HC H0 ⊢
 clear hT hG hs1 hs2 hdv hx hp hb
 go_enter Tryz.func37, Tryz.ntmps37
 go_wp2_with fail
 go_at_call 61
 refine (HC.out _ H0.out).mono ?_
 rintro e w1 ⟨ra, rc, na, nc, sa, sc, rfl, b0, b1, b2, b3, b4, b5, b6, b7, bf, HX⟩
 obtain ⟨t1, r1, c1⟩ := x
 simp only at HSN HX ⊢
 clear HC H0
 go_wp2
 refine bodyPost_ret (v := .tuple #[.agg #[.int .i64 r1.ino, .int .i64 r1.kind, .int .i64 r1.size, .int .i64 r1.links, .int .i64 r1.n, .slice ra r1.data.length rc, .slice na r1.names.length nc, .slice sa r1.snaps.length sc], errV c1]) (by simp [results, Tryz.results37, go_sem, *]) rfl ?_
 have ho := outR_only w1 (w.heap.size + 1) (.int .i64 r1.ino) (.int .i64 r1.kind) (.int .i64 r1.size) (.int .i64 r1.links) (.int .i64 r1.n) (.slice ra r1.data.length rc) (.slice na r1.names.length nc) (.slice sa r1.snaps.length sc)
 have hlt := HPB.out
 have hf := told_two HX.out.2.1 HX.out.2.2.1 HX.out.2.2.2 hlt.1 hlt.2 ho
 exact ⟨_, rfl, reply_fin HX.out.1 HSN.out HX.out.2.2.2 ho, hf.1, hf.2⟩
set_option maxRecDepth 4000 in
set_option maxHeartbeats 8000000 in
theorem dact_c3 (o : OpB) (da : Option Addr) (dc : Nat) (w : World) (p b : Nat) (t : TreeB) (hT : DTree w p b t) (hG : Good t) (hs1 : o.path.size ≤ maxLen) (hs2 : o.to.size ≤ maxLen) (hdv : Sees w (.slice da o.data.length dc) (intsV .u8 o.data)) (ho : o.kind = 3) :
 Calls Tryz.prog 37 #[.pointer (some ⟨p, 0, none⟩), .agg #[.int .i64 o.kind, .string o.path, .string o.to, .int .i64 o.off, .int .i64 o.n, .slice da o.data.length dc, .int .i64 o.snap]] w fun e w' => Told w p b (doB t o) e w' := by
 obtain ⟨hp, hb⟩ := hT.cells.2.2.2
 have HPB : Hid (p < w.heap.size ∧ b < w.heap.size) := ⟨hp, hb⟩
 have H0 : Hid (Two w _ o (.slice da o.data.length dc)) := two_new w o (.slice da o.data.length dc)
 have HC : Hid (∀ W, Two w W o (.slice da o.data.length dc) → Calls Tryz.prog 62 #[.pointer (some ⟨p, 0, none⟩), .string o.path, .int .i64 1] W fun e w' => ToldE w p b (doB t o) e w') := fun W hW => by
  have hd : doB t o = removesB t o := by unfold doB; simp [ho]
  rw [hd]
  refine ((show Calls Tryz.prog 62 #[.pointer (some ⟨p, 0, none⟩), .string o.path, .int .i64 1] W _ from (by have h := dremove_any o (by omega) W p b t (hT.below hW.2.2) hG hs1; rw [show removeK o = 1 by unfold removeK; simp [ho]] at h; exact h))).mono ?_
  intro e w' h
  exact told_e hW hp hb h
 have HSN : Hid ((doB t o).2.1 = noReply) := by
  have hd : doB t o = removesB t o := by unfold doB; simp [ho]
  show _ = _
  rw [hd]
  exact removes_reply t o
 obtain ⟨x, hx⟩ : ∃ x, doB t o = x := ⟨_, rfl⟩
 rw [hx] at HC HSN ⊢
 obtain ⟨kind, path, to, off, n, data, snap⟩ := o
 simp only at ho
 subst ho
 simp only at HC H0 ⊢
 clear hT hG hs1 hs2 hdv hx hp hb
 go_enter Tryz.func37, Tryz.ntmps37
 go_wp2_with fail
 go_at_call 62
 refine (HC.out _ H0.out).mono ?_
 rintro e w1 ⟨rfl, b0, b1, b2, b3, b4, b5, b6, b7, bf, HX⟩
 obtain ⟨t1, r1, c1⟩ := x
 simp only at HSN HX ⊢
 clear HC H0
 go_wp2
 refine bodyPost_ret (v := .tuple #[.agg #[.int .i64 0, .int .i64 0, .int .i64 0, .int .i64 0, .int .i64 0, .slice none 0 0, .slice none 0 0, .slice none 0 0], errV c1]) (by simp [results, Tryz.results37, go_sem, *]) rfl ?_
 have ho := outR_only w1 (w.heap.size + 1) (.int .i64 0) (.int .i64 0) (.int .i64 0) (.int .i64 0) (.int .i64 0) (.slice none 0 0) (.slice none 0 0) (.slice none 0 0)
 have hlt := HPB.out
 have hf := told_two HX.out.1 HX.out.2.1 HX.out.2.2 hlt.1 hlt.2 ho
 refine ⟨_, rfl, ?_, hf.1, hf.2⟩
 rw [HSN.out]
 exact replyAt_no' _ _ _ _ _ _
set_option maxRecDepth 4000 in
set_option maxHeartbeats 8000000 in
theorem dact_c4 (o : OpB) (da : Option Addr) (dc : Nat) (w : World) (p b : Nat) (t : TreeB) (hT : DTree w p b t) (hG : Good t) (hs1 : o.path.size ≤ maxLen) (hs2 : o.to.size ≤ maxLen) (hdv : Sees w (.slice da o.data.length dc) (intsV .u8 o.data)) (ho : o.kind = 4) :
 Calls Tryz.prog 37 #[.pointer (some ⟨p, 0, none⟩), .agg #[.int .i64 o.kind, .string o.path, .string o.to, .int .i64 o.off, .int .i64 o.n, .slice da o.data.length dc, .int .i64 o.snap]] w fun e w' => Told w p b (doB t o) e w' := by
 obtain ⟨hp, hb⟩ := hT.cells.2.2.2
 have HPB : Hid (p < w.heap.size ∧ b < w.heap.size) := ⟨hp, hb⟩
 have H0 : Hid (Two w _ o (.slice da o.data.length dc)) := two_new w o (.slice da o.data.length dc)
 have HC : Hid (∀ W, Two w W o (.slice da o.data.length dc) → Calls Tryz.prog 62 #[.pointer (some ⟨p, 0, none⟩), .string o.path, .int .i64 2] W fun e w' => ToldE w p b (doB t o) e w') := fun W hW => by
  have hd : doB t o = removesB t o := by unfold doB; simp [ho]
  rw [hd]
  refine ((show Calls Tryz.prog 62 #[.pointer (some ⟨p, 0, none⟩), .string o.path, .int .i64 2] W _ from (by have h := dremove_any o (by omega) W p b t (hT.below hW.2.2) hG hs1; rw [show removeK o = 2 by unfold removeK; simp [ho]] at h; exact h))).mono ?_
  intro e w' h
  exact told_e hW hp hb h
 have HSN : Hid ((doB t o).2.1 = noReply) := by
  have hd : doB t o = removesB t o := by unfold doB; simp [ho]
  show _ = _
  rw [hd]
  exact removes_reply t o
 obtain ⟨x, hx⟩ : ∃ x, doB t o = x := ⟨_, rfl⟩
 rw [hx] at HC HSN ⊢
 obtain ⟨kind, path, to, off, n, data, snap⟩ := o
 simp only at ho
 subst ho
 simp only at HC H0 ⊢
 clear hT hG hs1 hs2 hdv hx hp hb
 go_enter Tryz.func37, Tryz.ntmps37
 go_wp2_with fail
 go_at_call 62
 refine (HC.out _ H0.out).mono ?_
 rintro e w1 ⟨rfl, b0, b1, b2, b3, b4, b5, b6, b7, bf, HX⟩
 obtain ⟨t1, r1, c1⟩ := x
 simp only at HSN HX ⊢
 clear HC H0
 go_wp2
 refine bodyPost_ret (v := .tuple #[.agg #[.int .i64 0, .int .i64 0, .int .i64 0, .int .i64 0, .int .i64 0, .slice none 0 0, .slice none 0 0, .slice none 0 0], errV c1]) (by simp [results, Tryz.results37, go_sem, *]) rfl ?_
 have ho := outR_only w1 (w.heap.size + 1) (.int .i64 0) (.int .i64 0) (.int .i64 0) (.int .i64 0) (.int .i64 0) (.slice none 0 0) (.slice none 0 0) (.slice none 0 0)
 have hlt := HPB.out
 have hf := told_two HX.out.1 HX.out.2.1 HX.out.2.2 hlt.1 hlt.2 ho
 refine ⟨_, rfl, ?_, hf.1, hf.2⟩
 rw [HSN.out]
 exact replyAt_no' _ _ _ _ _ _
set_option maxRecDepth 4000 in
set_option maxHeartbeats 8000000 in
theorem dact_c5 (o : OpB) (da : Option Addr) (dc : Nat) (w : World) (p b : Nat) (t : TreeB) (hT : DTree w p b t) (hG : Good t) (hs1 : o.path.size ≤ maxLen) (hs2 : o.to.size ≤ maxLen) (hdv : Sees w (.slice da o.data.length dc) (intsV .u8 o.data)) (ho : o.kind = 5) :
 Calls Tryz.prog 37 #[.pointer (some ⟨p, 0, none⟩), .agg #[.int .i64 o.kind, .string o.path, .string o.to, .int .i64 o.off, .int .i64 o.n, .slice da o.data.length dc, .int .i64 o.snap]] w fun e w' => Told w p b (doB t o) e w' := by
 obtain ⟨hp, hb⟩ := hT.cells.2.2.2
 have HPB : Hid (p < w.heap.size ∧ b < w.heap.size) := ⟨hp, hb⟩
 have H0 : Hid (Two w _ o (.slice da o.data.length dc)) := two_new w o (.slice da o.data.length dc)
 have HC : Hid (∀ W, Two w W o (.slice da o.data.length dc) → Calls Tryz.prog 63 #[.pointer (some ⟨p, 0, none⟩), .string o.path, .string o.to] W fun e w' => ToldE w p b (doB t o) e w') := fun W hW => by
  have hd : doB t o = renameB t o := by unfold doB; simp [ho]
  rw [hd]
  refine (drename_any o W p b t (hT.below hW.2.2) hG hs1 hs2).mono ?_
  intro e w' h
  exact told_e hW hp hb h
 have HSN : Hid ((doB t o).2.1 = noReply) := by
  have hd : doB t o = renameB t o := by unfold doB; simp [ho]
  show _ = _
  rw [hd]
  exact rename_reply t o
 obtain ⟨x, hx⟩ : ∃ x, doB t o = x := ⟨_, rfl⟩
 rw [hx] at HC HSN ⊢
 obtain ⟨kind, path, to, off, n, data, snap⟩ := o
 simp only at ho
 subst ho
 simp only at HC H0 ⊢
 clear hT hG hs1 hs2 hdv hx hp hb
 go_enter Tryz.func37, Tryz.ntmps37
 go_wp2_with fail
 go_at_call 63
 refine (HC.out _ H0.out).mono ?_
 rintro e w1 ⟨rfl, b0, b1, b2, b3, b4, b5, b6, b7, bf, HX⟩
 obtain ⟨t1, r1, c1⟩ := x
 simp only at HSN HX ⊢
 clear HC H0
 go_wp2
 refine bodyPost_ret (v := .tuple #[.agg #[.int .i64 0, .int .i64 0, .int .i64 0, .int .i64 0, .int .i64 0, .slice none 0 0, .slice none 0 0, .slice none 0 0], errV c1]) (by simp [results, Tryz.results37, go_sem, *]) rfl ?_
 have ho := outR_only w1 (w.heap.size + 1) (.int .i64 0) (.int .i64 0) (.int .i64 0) (.int .i64 0) (.int .i64 0) (.slice none 0 0) (.slice none 0 0) (.slice none 0 0)
 have hlt := HPB.out
 have hf := told_two HX.out.1 HX.out.2.1 HX.out.2.2 hlt.1 hlt.2 ho
 refine ⟨_, rfl, ?_, hf.1, hf.2⟩
 rw [HSN.out]
 exact replyAt_no' _ _ _ _ _ _
set_option maxRecDepth 4000 in
set_option maxHeartbeats 8000000 in
theorem dact_c6 (o : OpB) (da : Option Addr) (dc : Nat) (w : World) (p b : Nat) (t : TreeB) (hT : DTree w p b t) (hG : Good t) (hs1 : o.path.size ≤ maxLen) (hs2 : o.to.size ≤ maxLen) (hdv : Sees w (.slice da o.data.length dc) (intsV .u8 o.data)) (ho : o.kind = 6) :
 Calls Tryz.prog 37 #[.pointer (some ⟨p, 0, none⟩), .agg #[.int .i64 o.kind, .string o.path, .string o.to, .int .i64 o.off, .int .i64 o.n, .slice da o.data.length dc, .int .i64 o.snap]] w fun e w' => Told w p b (doB t o) e w' := by
 obtain ⟨hp, hb⟩ := hT.cells.2.2.2
 have HPB : Hid (p < w.heap.size ∧ b < w.heap.size) := ⟨hp, hb⟩
 have H0 : Hid (Two w _ o (.slice da o.data.length dc)) := two_new w o (.slice da o.data.length dc)
 have HC : Hid (∀ W, Two w W o (.slice da o.data.length dc) → Calls Tryz.prog 64 #[.pointer (some ⟨p, 0, none⟩), .string o.path, .string o.to] W fun e w' => ToldE w p b (doB t o) e w') := fun W hW => by
  have hd : doB t o = linkB t o := by unfold doB; simp [ho]
  rw [hd]
  refine (dlink_any o W p b t (hT.below hW.2.2) hG hs1 hs2).mono ?_
  intro e w' h
  exact told_e hW hp hb h
 have HSN : Hid ((doB t o).2.1 = noReply) := by
  have hd : doB t o = linkB t o := by unfold doB; simp [ho]
  show _ = _
  rw [hd]
  exact link_reply t o
 obtain ⟨x, hx⟩ : ∃ x, doB t o = x := ⟨_, rfl⟩
 rw [hx] at HC HSN ⊢
 obtain ⟨kind, path, to, off, n, data, snap⟩ := o
 simp only at ho
 subst ho
 simp only at HC H0 ⊢
 clear hT hG hs1 hs2 hdv hx hp hb
 go_enter Tryz.func37, Tryz.ntmps37
 go_wp2_with fail
 go_at_call 64
 refine (HC.out _ H0.out).mono ?_
 rintro e w1 ⟨rfl, b0, b1, b2, b3, b4, b5, b6, b7, bf, HX⟩
 obtain ⟨t1, r1, c1⟩ := x
 simp only at HSN HX ⊢
 clear HC H0
 go_wp2
 refine bodyPost_ret (v := .tuple #[.agg #[.int .i64 0, .int .i64 0, .int .i64 0, .int .i64 0, .int .i64 0, .slice none 0 0, .slice none 0 0, .slice none 0 0], errV c1]) (by simp [results, Tryz.results37, go_sem, *]) rfl ?_
 have ho := outR_only w1 (w.heap.size + 1) (.int .i64 0) (.int .i64 0) (.int .i64 0) (.int .i64 0) (.int .i64 0) (.slice none 0 0) (.slice none 0 0) (.slice none 0 0)
 have hlt := HPB.out
 have hf := told_two HX.out.1 HX.out.2.1 HX.out.2.2 hlt.1 hlt.2 ho
 refine ⟨_, rfl, ?_, hf.1, hf.2⟩
 rw [HSN.out]
 exact replyAt_no' _ _ _ _ _ _
set_option maxRecDepth 4000 in
set_option maxHeartbeats 8000000 in
theorem dact_c7 (o : OpB) (da : Option Addr) (dc : Nat) (w : World) (p b : Nat) (t : TreeB) (hT : DTree w p b t) (hG : Good t) (hs1 : o.path.size ≤ maxLen) (hs2 : o.to.size ≤ maxLen) (hdv : Sees w (.slice da o.data.length dc) (intsV .u8 o.data)) (ho : o.kind = 7) :
 Calls Tryz.prog 37 #[.pointer (some ⟨p, 0, none⟩), .agg #[.int .i64 o.kind, .string o.path, .string o.to, .int .i64 o.off, .int .i64 o.n, .slice da o.data.length dc, .int .i64 o.snap]] w fun e w' => Told w p b (doB t o) e w' := by
 obtain ⟨hp, hb⟩ := hT.cells.2.2.2
 have HPB : Hid (p < w.heap.size ∧ b < w.heap.size) := ⟨hp, hb⟩
 have H0 : Hid (Two w _ o (.slice da o.data.length dc)) := two_new w o (.slice da o.data.length dc)
 have HC : Hid (∀ W, Two w W o (.slice da o.data.length dc) → Calls Tryz.prog 65 #[.pointer (some ⟨p, 0, none⟩), .agg #[.int .i64 7, .string o.path, .string o.to, .int .i64 o.off, .int .i64 o.n, .slice da o.data.length dc, .int .i64 o.snap]] W fun e w' => ToldX w p b (doB t o) e w') := fun W hW => by
  have hd : doB t o = fileF t o (outFile t (findB t o.path)) := by (rw [← file_eq hG o (by omega)]; unfold doB; simp [ho])
  rw [hd]
  refine ((show Calls Tryz.prog 65 #[.pointer (some ⟨p, 0, none⟩), .agg #[.int .i64 7, .string o.path, .string o.to, .int .i64 o.off, .int .i64 o.n, .slice da o.data.length dc, .int .i64 o.snap]] W _ from (by have h := donFile_any o (by omega) da dc W p b t (hT.below hW.2.2) hG hs1 (hdv.below hW.2.2); rw [ho] at h; exact h))).mono ?_
  intro e w' h
  exact told_x hW hp hb h
 have HSN : Hid ((doB t o).2.1.snaps = []) := by
  have hd : doB t o = fileF t o (outFile t (findB t o.path)) := by (rw [← file_eq hG o (by omega)]; unfold doB; simp [ho])
  show _ = _
  rw [hd]
  exact file_snaps t o _
 obtain ⟨x, hx⟩ : ∃ x, doB t o = x := ⟨_, rfl⟩
 rw [hx] at HC HSN ⊢
 obtain ⟨kind, path, to, off, n, data, snap⟩ := o
 simp only at ho
 subst ho
 simp only at HC H0 ⊢
 clear hT hG hs1 hs2 hdv hx hp hb
 go_enter Tryz.func37, Tryz.ntmps37
 go_wp2_with fail
 go_at_call 65
 refine (HC.out _ H0.out).mono ?_
 rintro e w1 ⟨ra, rc, na, nc, sa, sc, rfl, b0, b1, b2, b3, b4, b5, b6, b7, bf, HX⟩
 obtain ⟨t1, r1, c1⟩ := x
 simp only at HSN HX ⊢
 clear HC H0
 go_wp2
 refine bodyPost_ret (v := .tuple #[.agg #[.int .i64 r1.ino, .int .i64 r1.kind, .int .i64 r1.size, .int .i64 r1.links, .int .i64 r1.n, .slice ra r1.data.length rc, .slice na r1.names.length nc, .slice sa r1.snaps.length sc], errV c1]) (by simp [results, Tryz.results37, go_sem, *]) rfl ?_
 have ho := outR_only w1 (w.heap.size + 1) (.int .i64 r1.ino) (.int .i64 r1.kind) (.int .i64 r1.size) (.int .i64 r1.links) (.int .i64 r1.n) (.slice ra r1.data.length rc) (.slice na r1.names.length nc) (.slice sa r1.snaps.length sc)
 have hlt := HPB.out
 have hf := told_two HX.out.2.1 HX.out.2.2.1 HX.out.2.2.2 hlt.1 hlt.2 ho
 exact ⟨_, rfl, reply_fin HX.out.1 HSN.out HX.out.2.2.2 ho, hf.1, hf.2⟩
set_option maxRecDepth 4000 in
set_option maxHeartbeats 8000000 in
theorem dact_c8 (o : OpB) (da : Option Addr) (dc : Nat) (w : World) (p b : Nat) (t : TreeB) (hT : DTree w p b t) (hG : Good t) (hs1 : o.path.size ≤ maxLen) (hs2 : o.to.size ≤ maxLen) (hdv : Sees w (.slice da o.data.length dc) (intsV .u8 o.data)) (ho : o.kind = 8) :
 Calls Tryz.prog 37 #[.pointer (some ⟨p, 0, none⟩), .agg #[.int .i64 o.kind, .string o.path, .string o.to, .int .i64 o.off, .int .i64 o.n, .slice da o.data.length dc, .int .i64 o.snap]] w fun e w' => Told w p b (doB t o) e w' := by
 obtain ⟨hp, hb⟩ := hT.cells.2.2.2
 have HPB : Hid (p < w.heap.size ∧ b < w.heap.size) := ⟨hp, hb⟩
 have H0 : Hid (Two w _ o (.slice da o.data.length dc)) := two_new w o (.slice da o.data.length dc)
 have HC : Hid (∀ W, Two w W o (.slice da o.data.length dc) → Calls Tryz.prog 65 #[.pointer (some ⟨p, 0, none⟩), .agg #[.int .i64 8, .string o.path, .string o.to, .int .i64 o.off, .int .i64 o.n, .slice da o.data.length dc, .int .i64 o.snap]] W fun e w' => ToldX w p b (doB t o) e w') := fun W hW => by
  have hd : doB t o = fileF t o (outFile t (findB t o.path)) := by (rw [← file_eq hG o (by omega)]; unfold doB; simp [ho])
  rw [hd]
  refine ((show Calls Tryz.prog 65 #[.pointer (some ⟨p, 0, none⟩), .agg #[.int .i64 8, .string o.path, .string o.to, .int .i64 o.off, .int .i64 o.n, .slice da o.data.length dc, .int .i64 o.snap]] W _ from (by have h := donFile_any o (by omega) da dc W p b t (hT.below hW.2.2) hG hs1 (hdv.below hW.2.2); rw [ho] at h; exact h))).mono ?_
  intro e w' h
  exact told_x hW hp hb h
 have HSN : Hid ((doB t o).2.1.snaps = []) := by
  have hd : doB t o = fileF t o (outFile t (findB t o.path)) := by (rw [← file_eq hG o (by omega)]; unfold doB; simp [ho])
  show _ = _
  rw [hd]
  exact file_snaps t o _
 obtain ⟨x, hx⟩ : ∃ x, doB t o = x := ⟨_, rfl⟩
 rw [hx] at HC HSN ⊢
 obtain ⟨kind, path, to, off, n, data, snap⟩ := o
 simp only at ho
 subst ho
 simp only at HC H0 ⊢
 clear hT hG hs1 hs2 hdv hx hp hb
 go_enter Tryz.func37, Tryz.ntmps37
 go_wp2_with fail
 go_at_call 65
 refine (HC.out _ H0.out).mono ?_
 rintro e w1 ⟨ra, rc, na, nc, sa, sc, rfl, b0, b1, b2, b3, b4, b5, b6, b7, bf, HX⟩
 obtain ⟨t1, r1, c1⟩ := x
 simp only at HSN HX ⊢
 clear HC H0
 go_wp2
 refine bodyPost_ret (v := .tuple #[.agg #[.int .i64 r1.ino, .int .i64 r1.kind, .int .i64 r1.size, .int .i64 r1.links, .int .i64 r1.n, .slice ra r1.data.length rc, .slice na r1.names.length nc, .slice sa r1.snaps.length sc], errV c1]) (by simp [results, Tryz.results37, go_sem, *]) rfl ?_
 have ho := outR_only w1 (w.heap.size + 1) (.int .i64 r1.ino) (.int .i64 r1.kind) (.int .i64 r1.size) (.int .i64 r1.links) (.int .i64 r1.n) (.slice ra r1.data.length rc) (.slice na r1.names.length nc) (.slice sa r1.snaps.length sc)
 have hlt := HPB.out
 have hf := told_two HX.out.2.1 HX.out.2.2.1 HX.out.2.2.2 hlt.1 hlt.2 ho
 exact ⟨_, rfl, reply_fin HX.out.1 HSN.out HX.out.2.2.2 ho, hf.1, hf.2⟩
set_option maxRecDepth 4000 in
set_option maxHeartbeats 8000000 in
theorem dact_c9 (o : OpB) (da : Option Addr) (dc : Nat) (w : World) (p b : Nat) (t : TreeB) (hT : DTree w p b t) (hG : Good t) (hs1 : o.path.size ≤ maxLen) (hs2 : o.to.size ≤ maxLen) (hdv : Sees w (.slice da o.data.length dc) (intsV .u8 o.data)) (ho : o.kind = 9) :
 Calls Tryz.prog 37 #[.pointer (some ⟨p, 0, none⟩), .agg #[.int .i64 o.kind, .string o.path, .string o.to, .int .i64 o.off, .int .i64 o.n, .slice da o.data.length dc, .int .i64 o.snap]] w fun e w' => Told w p b (doB t o) e w' := by
 obtain ⟨hp, hb⟩ := hT.cells.2.2.2
 have HPB : Hid (p < w.heap.size ∧ b < w.heap.size) := ⟨hp, hb⟩
 have H0 : Hid (Two w _ o (.slice da o.data.length dc)) := two_new w o (.slice da o.data.length dc)
 have HC : Hid (∀ W, Two w W o (.slice da o.data.length dc) → Calls Tryz.prog 65 #[.pointer (some ⟨p, 0, none⟩), .agg #[.int .i64 9, .string o.path, .string o.to, .int .i64 o.off, .int .i64 o.n, .slice da o.data.length dc, .int .i64 o.snap]] W fun e w' => ToldX w p b (doB t o) e w') := fun W hW => by
  have hd : doB t o = fileF t o (outFile t (findB t o.path)) := by (rw [← file_eq hG o (by omega)]; unfold doB; simp [ho])
  rw [hd]
  refine ((show Calls Tryz.prog 65 #[.pointer (some ⟨p, 0, none⟩), .agg #[.int .i64 9, .string o.path, .string o.to, .int .i64 o.off, .int .i64 o.n, .slice da o.data.length dc, .int .i64 o.snap]] W _ from (by have h := donFile_any o (by omega) da dc W p b t (hT.below hW.2.2) hG hs1 (hdv.below hW.2.2); rw [ho] at h; exact h))).mono ?_
  intro e w' h
  exact told_x hW hp hb h
 have HSN : Hid ((doB t o).2.1.snaps = []) := by
  have hd : doB t o = fileF t o (outFile t (findB t o.path)) := by (rw [← file_eq hG o (by omega)]; unfold doB; simp [ho])
  show _ = _
  rw [hd]
  exact file_snaps t o _
 obtain ⟨x, hx⟩ : ∃ x, doB t o = x := ⟨_, rfl⟩
 rw [hx] at HC HSN ⊢
 obtain ⟨kind, path, to, off, n, data, snap⟩ := o
 simp only at ho
 subst ho
 simp only at HC H0 ⊢
 clear hT hG hs1 hs2 hdv hx hp hb
 go_enter Tryz.func37, Tryz.ntmps37
 go_wp2_with fail
 go_at_call 65
 refine (HC.out _ H0.out).mono ?_
 rintro e w1 ⟨ra, rc, na, nc, sa, sc, rfl, b0, b1, b2, b3, b4, b5, b6, b7, bf, HX⟩
 obtain ⟨t1, r1, c1⟩ := x
 simp only at HSN HX ⊢
 clear HC H0
 go_wp2
 refine bodyPost_ret (v := .tuple #[.agg #[.int .i64 r1.ino, .int .i64 r1.kind, .int .i64 r1.size, .int .i64 r1.links, .int .i64 r1.n, .slice ra r1.data.length rc, .slice na r1.names.length nc, .slice sa r1.snaps.length sc], errV c1]) (by simp [results, Tryz.results37, go_sem, *]) rfl ?_
 have ho := outR_only w1 (w.heap.size + 1) (.int .i64 r1.ino) (.int .i64 r1.kind) (.int .i64 r1.size) (.int .i64 r1.links) (.int .i64 r1.n) (.slice ra r1.data.length rc) (.slice na r1.names.length nc) (.slice sa r1.snaps.length sc)
 have hlt := HPB.out
 have hf := told_two HX.out.2.1 HX.out.2.2.1 HX.out.2.2.2 hlt.1 hlt.2 ho
 exact ⟨_, rfl, reply_fin HX.out.1 HSN.out HX.out.2.2.2 ho, hf.1, hf.2⟩
set_option maxRecDepth 4000 in
set_option maxHeartbeats 8000000 in
theorem dact_c10 (o : OpB) (da : Option Addr) (dc : Nat) (w : World) (p b : Nat) (t : TreeB) (hT : DTree w p b t) (hG : Good t) (hs1 : o.path.size ≤ maxLen) (hs2 : o.to.size ≤ maxLen) (hdv : Sees w (.slice da o.data.length dc) (intsV .u8 o.data)) (ho : o.kind = 10) :
 Calls Tryz.prog 37 #[.pointer (some ⟨p, 0, none⟩), .agg #[.int .i64 o.kind, .string o.path, .string o.to, .int .i64 o.off, .int .i64 o.n, .slice da o.data.length dc, .int .i64 o.snap]] w fun e w' => Told w p b (doB t o) e w' := by
 obtain ⟨hp, hb⟩ := hT.cells.2.2.2
 have HPB : Hid (p < w.heap.size ∧ b < w.heap.size) := ⟨hp, hb⟩
 have H0 : Hid (Two w _ o (.slice da o.data.length dc)) := two_new w o (.slice da o.data.length dc)
 have HC : Hid (∀ W, Two w W o (.slice da o.data.length dc) → Calls Tryz.prog 66 #[.pointer (some ⟨p, 0, none⟩), .string o.path] W fun e w' => ToldX w p b (doB t o) e w') := fun W hW => by
  have hd : doB t o = statF t (findB t o.path) := by (rw [← stat_eq t o ho]; unfold doB; simp [ho])
  rw [hd]
  refine (dstat_any o W p b t (hT.below hW.2.2) hG hs1).mono ?_
  intro e w' h
  exact told_x hW hp hb h
 have HSN : Hid ((doB t o).2.1.snaps = []) := by
  have hd : doB t o = statF t (findB t o.path) := by (rw [← stat_eq t o ho]; unfold doB; simp [ho])
  show _ = _
  rw [hd]
  exact (by rw [← stat_eq t o ho]; exact looks_snaps t o)
 obtain ⟨x, hx⟩ : ∃ x, doB t o = x := ⟨_, rfl⟩
 rw [hx] at HC HSN ⊢
 obtain ⟨kind, path, to, off, n, data, snap⟩ := o
 simp only at ho
 subst ho
 simp only at HC H0 ⊢
 clear hT hG hs1 hs2 hdv hx hp hb
 go_enter Tryz.func37, Tryz.ntmps37
 go_wp2_with fail
 go_at_call 66
 refine (HC.out _ H0.out).mono ?_
 rintro e w1 ⟨ra, rc, na, nc, sa, sc, rfl, b0, b1, b2, b3, b4, b5, b6, b7, bf, HX⟩
 obtain ⟨t1, r1, c1⟩ := x
 simp only at HSN HX ⊢
 clear HC H0
 go_wp2
 refine bodyPost_ret (v := .tuple #[.agg #[.int .i64 r1.ino, .int .i64 r1.kind, .int .i64 r1.size, .int .i64 r1.links, .int .i64 r1.n, .slice ra r1.data.length rc, .slice na r1.names.length nc, .slice sa r1.snaps.length sc], errV c1]) (by simp [results, Tryz.results37, go_sem, *]) rfl ?_
 have ho := outR_only w1 (w.heap.size + 1) (.int .i64 r1.ino) (.int .i64 r1.kind) (.int .i64 r1.size) (.int .i64 r1.links) (.int .i64 r1.n) (.slice ra r1.data.length rc) (.slice na r1.names.length nc) (.slice sa r1.snaps.length sc)
 have hlt := HPB.out
 have hf := told_two HX.out.2.1 HX.out.2.2.1 HX.out.2.2.2 hlt.1 hlt.2 ho
 exact ⟨_, rfl, reply_fin HX.out.1 HSN.out HX.out.2.2.2 ho, hf.1, hf.2⟩
set_option maxRecDepth 4000 in
set_option maxHeartbeats 8000000 in
theorem dact_c11 (o : OpB) (da : Option Addr) (dc : Nat) (w : World) (p b : Nat) (t : TreeB) (hT : DTree w p b t) (hG : Good t) (hs1 : o.path.size ≤ maxLen) (hs2 : o.to.size ≤ maxLen) (hdv : Sees w (.slice da o.data.length dc) (intsV .u8 o.data)) (ho : o.kind = 11) :
 Calls Tryz.prog 37 #[.pointer (some ⟨p, 0, none⟩), .agg #[.int .i64 o.kind, .string o.path, .string o.to, .int .i64 o.off, .int .i64 o.n, .slice da o.data.length dc, .int .i64 o.snap]] w fun e w' => Told w p b (doB t o) e w' := by
 obtain ⟨hp, hb⟩ := hT.cells.2.2.2
 have HPB : Hid (p < w.heap.size ∧ b < w.heap.size) := ⟨hp, hb⟩
 have H0 : Hid (Two w _ o (.slice da o.data.length dc)) := two_new w o (.slice da o.data.length dc)
 have HC : Hid (∀ W, Two w W o (.slice da o.data.length dc) → Calls Tryz.prog 67 #[.pointer (some ⟨p, 0, none⟩), .string o.path] W fun e w' => ToldX w p b (doB t o) e w') := fun W hW => by
  have hd : doB t o = readdirF t (findB t o.path) := by (rw [← readdir_eq t o ho]; unfold doB; simp [ho])
  rw [hd]
  refine (dreaddir_any o W p b t (hT.below hW.2.2) hG hs1).mono ?_
  intro e w' h
  exact told_x hW hp hb h
 have HSN : Hid ((doB t o).2.1.snaps = []) := by
  have hd : doB t o = readdirF t (findB t o.path) := by (rw [← readdir_eq t o ho]; unfold doB; simp [ho])
  show _ = _
  rw [hd]
  exact (by rw [← readdir_eq t o ho]; exact looks_snaps t o)
 obtain ⟨x, hx⟩ : ∃ x, doB t o = x := ⟨_, rfl⟩
 rw [hx] at HC HSN ⊢
 obtain ⟨kind, path, to, off, n, data, snap⟩ := o
 simp only at ho
 subst ho
 simp only at HC H0 ⊢
 clear hT hG hs1 hs2 hdv hx hp hb
 go_enter Tryz.func37, Tryz.ntmps37
 go_wp2_with fail
 go_at_call 67
 refine (HC.out _ H0.out).mono ?_
 rintro e w1 ⟨ra, rc, na, nc, sa, sc, rfl, b0, b1, b2, b3, b4, b5, b6, b7, bf, HX⟩
 obtain ⟨t1, r1, c1⟩ := x
 simp only at HSN HX ⊢
 clear HC H0
 go_wp2
 refine bodyPost_ret (v := .tuple #[.agg #[.int .i64 r1.ino, .int .i64 r1.kind, .int .i64 r1.size, .int .i64 r1.links, .int .i64 r1.n, .slice ra r1.data.length rc, .slice na r1.names.length nc, .slice sa r1.snaps.length sc], errV c1]) (by simp [results, Tryz.results37, go_sem, *]) rfl ?_
 have ho := outR_only w1 (w.heap.size + 1) (.int .i64 r1.ino) (.int .i64 r1.kind) (.int .i64 r1.size) (.int .i64 r1.links) (.int .i64 r1.n) (.slice ra r1.data.length rc) (.slice na r1.names.length nc) (.slice sa r1.snaps.length sc)
 have hlt := HPB.out
 have hf := told_two HX.out.2.1 HX.out.2.2.1 HX.out.2.2.2 hlt.1 hlt.2 ho
 exact ⟨_, rfl, reply_fin HX.out.1 HSN.out HX.out.2.2.2 ho, hf.1, hf.2⟩
end Go.Proofs.YtbebgobboccjcaaGreatDoor
namespace Go.Proofs.YtbebgobboccjcaaGreatDoor
open Go.RowKit Kit
set_option linter.unusedVariables false

set_option maxRecDepth 4000 in
set_option maxHeartbeats 8000000 in
theorem dact_other (o : OpB) (da : Option Addr) (dc : Nat) (w : World) (p b : Nat) (t : TreeB) (hT : DTree w p b t) (ho : ∀ j : Int, 1 ≤ j → j ≤ 11 → o.kind ≠ j) :
 Calls Tryz.prog 37 #[.pointer (some ⟨p, 0, none⟩), .agg #[.int .i64 o.kind, .string o.path, .string o.to, .int .i64 o.off, .int .i64 o.n, .slice da o.data.length dc, .int .i64 o.snap]] w fun e w' => Told w p b (doB t o) e w' := by
 obtain ⟨hp, hb⟩ := hT.cells.2.2.2
 have H0 : Hid (Two w _ o (.slice da o.data.length dc)) := two_new w o (.slice da o.data.length dc)
 have hd : doB t o = (t, noReply, 1) := by
  have h := fun j h1 h2 => ho j h1 h2
  unfold doB
  rw [if_neg (by have := h 1 (by omega) (by omega); have := h 2 (by omega) (by omega); omega), if_neg (by have := h 3 (by omega) (by omega); have := h 4 (by omega) (by omega); omega), if_neg (h 5 (by omega) (by omega)), if_neg (h 6 (by omega) (by omega)), if_neg (by have := h 7 (by omega) (by omega); have := h 8 (by omega) (by omega); have := h 9 (by omega) (by omega); omega), if_neg (by have := h 10 (by omega) (by omega); have := h 11 (by omega) (by omega); omega)]
 rw [hd]
 obtain ⟨kind, path, «to», off, n, data, snap⟩ := o
 simp only at ho H0 ⊢
 have k1 : (kind == 1) = false := beq_eq_false_iff_ne.2 (ho 1 (by omega) (by omega))
 have k2 : (kind == 2) = false := beq_eq_false_iff_ne.2 (ho 2 (by omega) (by omega))
 have k3 : (kind == 3) = false := beq_eq_false_iff_ne.2 (ho 3 (by omega) (by omega))
 have k4 : (kind == 4) = false := beq_eq_false_iff_ne.2 (ho 4 (by omega) (by omega))
 have k5 : (kind == 5) = false := beq_eq_false_iff_ne.2 (ho 5 (by omega) (by omega))
 have k6 : (kind == 6) = false := beq_eq_false_iff_ne.2 (ho 6 (by omega) (by omega))
 have k7 : (kind == 7) = false := beq_eq_false_iff_ne.2 (ho 7 (by omega) (by omega))
 have k8 : (kind == 8) = false := beq_eq_false_iff_ne.2 (ho 8 (by omega) (by omega))
 have k9 : (kind == 9) = false := beq_eq_false_iff_ne.2 (ho 9 (by omega) (by omega))
 have ka : (kind == 10) = false := beq_eq_false_iff_ne.2 (ho 10 (by omega) (by omega))
 have kb : (kind == 11) = false := beq_eq_false_iff_ne.2 (ho 11 (by omega) (by omega))
 have HT : Hid (DTree w p b t ∧ p < w.heap.size ∧ b < w.heap.size) := ⟨hT, hp, hb⟩
 obtain ⟨W, hW⟩ : ∃ z, z = (w.alloc (.cells #[.int .i64 kind, .string path, .string «to», .int .i64 off, .int .i64 n, .slice da data.length dc, .int .i64 snap] 35)).alloc (.cells #[.int .i64 0, .int .i64 0, .int .i64 0, .int .i64 0, .int .i64 0, .slice none 0 0, .slice none 0 0, .slice none 0 0] 40) := ⟨_, rfl⟩
 clear ho hd hT hp hb
 go_enter Tryz.func37, Tryz.ntmps37
 go_wp2
 refine bodyPost_ret (v := .tuple #[.agg #[.int .i64 0, .int .i64 0, .int .i64 0, .int .i64 0, .int .i64 0, .slice none 0 0, .slice none 0 0, .slice none 0 0], .iface 80 (.int .i64 1)]) (by simp [results, Tryz.results37, go_sem, *]) rfl ?_
 have hb2 : Below w.heap.size w ((w.alloc (.cells #[.int .i64 kind, .string path, .string «to», .int .i64 off, .int .i64 n, .slice da data.length dc, .int .i64 snap] 35)).alloc (.cells #[.int .i64 0, .int .i64 0, .int .i64 0, .int .i64 0, .int .i64 0, .slice none 0 0, .slice none 0 0, .slice none 0 0] 40)) := H0.out.2.2
 exact ⟨_, rfl, replyAt_no' _ _ _ _ _ _, HT.out.1.below hb2, turn_below hb2⟩
theorem dact_any (o : OpB) (da : Option Addr) (dc : Nat) (w : World) (p b : Nat) (t : TreeB) (hT : DTree w p b t) (hG : Good t) (hs1 : o.path.size ≤ maxLen) (hs2 : o.to.size ≤ maxLen) (hdv : Sees w (.slice da o.data.length dc) (intsV .u8 o.data)) :
 Calls Tryz.prog 37 #[.pointer (some ⟨p, 0, none⟩), .agg #[.int .i64 o.kind, .string o.path, .string o.to, .int .i64 o.off, .int .i64 o.n, .slice da o.data.length dc, .int .i64 o.snap]] w fun e w' => Told w p b (doB t o) e w' := by
 by_cases h1 : o.kind = 1
 · exact dact_c1 o da dc w p b t hT hG hs1 hs2 hdv h1
 by_cases h2 : o.kind = 2
 · exact dact_c2 o da dc w p b t hT hG hs1 hs2 hdv h2
 by_cases h3 : o.kind = 3
 · exact dact_c3 o da dc w p b t hT hG hs1 hs2 hdv h3
 by_cases h4 : o.kind = 4
 · exact dact_c4 o da dc w p b t hT hG hs1 hs2 hdv h4
 by_cases h5 : o.kind = 5
 · exact dact_c5 o da dc w p b t hT hG hs1 hs2 hdv h5
 by_cases h6 : o.kind = 6
 · exact dact_c6 o da dc w p b t hT hG hs1 hs2 hdv h6
 by_cases h7 : o.kind = 7
 · exact dact_c7 o da dc w p b t hT hG hs1 hs2 hdv h7
 by_cases h8 : o.kind = 8
 · exact dact_c8 o da dc w p b t hT hG hs1 hs2 hdv h8
 by_cases h9 : o.kind = 9
 · exact dact_c9 o da dc w p b t hT hG hs1 hs2 hdv h9
 by_cases ha : o.kind = 10
 · exact dact_c10 o da dc w p b t hT hG hs1 hs2 hdv ha
 by_cases hb : o.kind = 11
 · exact dact_c11 o da dc w p b t hT hG hs1 hs2 hdv hb
 · exact dact_other o da dc w p b t hT (fun j k1 k2 e => by omega)
set_option maxRecDepth 4000 in
theorem dfnew_nil (op path : ByteArray) (w : World) : Calls Tryz.prog 36 #[.string op, .string path, .nilIface] w fun e w' => e = .returned .nilIface ∧ w' = w := by
 go_enter Tryz.func36, Tryz.ntmps36
 go_wp2
 go_ret
 exact ⟨rfl, rfl⟩
set_option maxRecDepth 4000 in
theorem dfnew_num (op path : ByteArray) (c : Int) (w : World) : Calls Tryz.prog 36 #[.string op, .string path, .iface 80 (.int .i64 c)] w fun e w' => e = .returned (.iface 85 (.pointer (some ⟨w.heap.size, 0, none⟩))) ∧ w' = w.alloc (.cells #[.string op, .string path, .iface 80 (.int .i64 c)] 89) := by
 go_enter Tryz.func36, Tryz.ntmps36
 go_wp2
 go_ret
 exact ⟨rfl, rfl⟩
end Go.Proofs.YtbebgobboccjcaaGreatDoor
namespace Go.Proofs.YtbebgobboccjcaaGreatDoor
open Go.RowKit Kit
set_option linter.unusedVariables false

def treeS : ByteArray := ⟨#[116, 114, 101, 101]⟩
def FaultIs (w : World) (ev : Value) (c : Int) (path : ByteArray) : Prop := (c = 0 ∧ ev = .nilIface) ∨ (c ≠ 0 ∧ ∃ g, ev = .iface 85 (.pointer (some ⟨g, 0, none⟩)) ∧ w.heap[g]? = some (.cells #[.string treeS, .string path, .iface 80 (.int .i64 c)] 89))
def ToldF (w : World) (p b : Nat) (x : TreeB × ReplyB × Int) (path : ByteArray) (e : Ending) (w' : World) : Prop := ∃ rv ev, e = .returned (.tuple #[rv, ev]) ∧ ReplyAt w' rv x.2.1 ∧ FaultIs w' ev x.2.2 path ∧ DTree w' p b x.1 ∧ Turn p b w w'
theorem do_snaps {t : TreeB} (hG : Good t) (o : OpB) : (doB t o).2.1.snaps = [] := by
 unfold doB
 split
 · exact makes_snaps t o
 · split
   · rw [removes_reply]; rfl
   · split
     · rw [rename_reply]; rfl
     · split
       · rw [link_reply]; rfl
       · split
         · rename_i h
           rw [file_eq hG o (by omega)]; exact file_snaps t o _
         · split
           · exact looks_snaps t o
           · rfl
theorem ReplyAt.below {w w' : World} {v : Value} {r : ReplyB} (h : ReplyAt w v r) (hb : Below w.heap.size w w') : ReplyAt w' v r := by
 obtain ⟨a, b, c, e, h1, h2, h3⟩ := h
 exact ⟨a, b, c, e, h1.below hb, h2.below hb, h3.below hb⟩
theorem fault_nil (w : World) (path : ByteArray) : FaultIs w .nilIface 0 path := Or.inl ⟨rfl, rfl⟩
theorem do_fin {w W2 W' : World} {p b : Nat} {t : TreeB} {r : ReplyB} {v : Value} {c : Int} {ev : Value} {path : ByteArray} (h1 : ReplyAt W2 v r) (h2 : DTree W2 p b t) (h3 : Turn p b w W2) (hbe : Below W2.heap.size W2 W') (hf : FaultIs W' ev c path) : ToldF w p b (t, r, c) path (.returned (.tuple #[v, ev])) W' :=
 ⟨v, ev, rfl, h1.below hbe, hf, h2.below hbe, h3.trans (turn_below hbe)⟩
theorem do_end1 {w w1 : World} {p b : Nat} {t : TreeB} {r : ReplyB} {v r0 r1 r2 r3 r4 r5 r6 r7 : Value} {blk : Obj} {path : ByteArray} (h1 : ReplyAt w1 v r) (h2 : DTree w1 p b t) (h3 : Turn p b w w1) (h4 : RBox w1 (w.heap.size + 1)) (hp : p < w.heap.size) (hb : b < w.heap.size) (hs : r.snaps = []) :
 ToldF w p b (t, r, 0) path (.returned (.tuple #[v, .nilIface])) ((outR w1 (w.heap.size + 1) r0 r1 r2 r3 r4 r5 r6 r7).alloc blk).drew := by
 have ho := outR_only w1 (w.heap.size + 1) r0 r1 r2 r3 r4 r5 r6 r7
 have hf := told_two h2 h3 h4 hp hb ho
 have hbe : Below (outR w1 (w.heap.size + 1) r0 r1 r2 r3 r4 r5 r6 r7).heap.size (outR w1 (w.heap.size + 1) r0 r1 r2 r3 r4 r5 r6 r7) ((outR w1 (w.heap.size + 1) r0 r1 r2 r3 r4 r5 r6 r7).alloc blk).drew := ((Below.refl _ _).alloc (Nat.le_refl _) _).drew
 exact do_fin (reply_fin h1 hs h4 ho) hf.1 hf.2 hbe (fault_nil _ _)
theorem do_end2 {w w1 : World} {p b : Nat} {t : TreeB} {r : ReplyB} {v r0 r1 r2 r3 r4 r5 r6 r7 q0 q1 q2 q3 q4 q5 q6 q7 : Value} {path : ByteArray} (h1 : ReplyAt w1 v r) (h2 : DTree w1 p b t) (h3 : Turn p b w w1) (h4 : RBox w1 (w.heap.size + 1)) (h5 : RBox w1 (w.heap.size + 2)) (hp : p < w.heap.size) (hb : b < w.heap.size) (hs : r.snaps = []) :
 ToldF w p b (t, r, 0) path (.returned (.tuple #[v, .nilIface])) (outR (outR w1 (w.heap.size + 2) q0 q1 q2 q3 q4 q5 q6 q7) (w.heap.size + 1) r0 r1 r2 r3 r4 r5 r6 r7).drew := by
 have ho := outR_only w1 (w.heap.size + 2) q0 q1 q2 q3 q4 q5 q6 q7
 have hf := told_fin h2 h3 h5 (by omega) (by omega) (by omega) ho (Below.refl _ _)
 have hr := reply_fin h1 hs h5 ho
 have h6 : RBox (outR w1 (w.heap.size + 2) q0 q1 q2 q3 q4 q5 q6 q7) (w.heap.size + 1) := (ho.block _ h4.c.2.2.2.2.2.2.2.2.2 (by omega)).trans h4
 have ho2 := outR_only (outR w1 (w.heap.size + 2) q0 q1 q2 q3 q4 q5 q6 q7) (w.heap.size + 1) r0 r1 r2 r3 r4 r5 r6 r7
 have hf2 := told_two hf.1 hf.2 h6 hp hb ho2
 exact do_fin (reply_fin hr hs h6 ho2) hf2.1 hf2.2 (Below.refl _ _).drew (fault_nil _ _)
end Go.Proofs.YtbebgobboccjcaaGreatDoor
namespace Go.Proofs.YtbebgobboccjcaaGreatDoor
open Go.RowKit Kit
set_option linter.unusedVariables false

theorem outR_size (w : World) (B : Nat) (r0 r1 r2 r3 r4 r5 r6 r7 : Value) : (outR w B r0 r1 r2 r3 r4 r5 r6 r7).heap.size = w.heap.size := by simp [outR, World.setCell]
theorem do_err1 {w w1 : World} {p b : Nat} {t : TreeB} {r : ReplyB} {v r0 r1 r2 r3 r4 r5 r6 r7 : Value} {blk : Obj} {path : ByteArray} {c : Int} {g : Nat} (h1 : ReplyAt w1 v r) (h2 : DTree w1 p b t) (h3 : Turn p b w w1) (h4 : RBox w1 (w.heap.size + 1)) (hp : p < w.heap.size) (hb : b < w.heap.size) (hs : r.snaps = []) (hc : c ≠ 0) (hg : g = w1.heap.size + 1) :
 ToldF w p b (t, r, c) path (.returned (.tuple #[v, .iface 85 (.pointer (some ⟨g, 0, none⟩))])) (((outR w1 (w.heap.size + 1) r0 r1 r2 r3 r4 r5 r6 r7).alloc blk).alloc (.cells #[.string treeS, .string path, .iface 80 (.int .i64 c)] 89)).drew := by
 have ho := outR_only w1 (w.heap.size + 1) r0 r1 r2 r3 r4 r5 r6 r7
 have hz := outR_size w1 (w.heap.size + 1) r0 r1 r2 r3 r4 r5 r6 r7
 have hf := told_two h2 h3 h4 hp hb ho
 have hr := reply_fin h1 hs h4 ho
 generalize outR w1 (w.heap.size + 1) r0 r1 r2 r3 r4 r5 r6 r7 = O at *
 have hbe : Below O.heap.size O ((O.alloc blk).alloc (.cells #[.string treeS, .string path, .iface 80 (.int .i64 c)] 89)).drew := (((Below.refl _ _).alloc (Nat.le_refl _) _).alloc (by simp) _).drew
 refine do_fin hr hf.1 hf.2 hbe (Or.inr ⟨hc, g, rfl, ?_⟩)
 have he : g = (O.alloc blk).heap.size := by rw [hg, ← hz]; simp
 subst he
 exact (MapKept.heap_alloc (O.alloc blk) _).1
theorem do_err2 {w w1 : World} {p b : Nat} {t : TreeB} {r : ReplyB} {v r0 r1 r2 r3 r4 r5 r6 r7 q0 q1 q2 q3 q4 q5 q6 q7 : Value} {path : ByteArray} {c : Int} {g : Nat} (h1 : ReplyAt w1 v r) (h2 : DTree w1 p b t) (h3 : Turn p b w w1) (h4 : RBox w1 (w.heap.size + 1)) (h5 : RBox w1 (w.heap.size + 2)) (hp : p < w.heap.size) (hb : b < w.heap.size) (hs : r.snaps = []) (hc : c ≠ 0) (hg : g = w1.heap.size) :
 ToldF w p b (t, r, c) path (.returned (.tuple #[v, .iface 85 (.pointer (some ⟨g, 0, none⟩))])) ((outR (outR w1 (w.heap.size + 2) q0 q1 q2 q3 q4 q5 q6 q7) (w.heap.size + 1) r0 r1 r2 r3 r4 r5 r6 r7).alloc (.cells #[.string treeS, .string path, .iface 80 (.int .i64 c)] 89)).drew := by
 have ho := outR_only w1 (w.heap.size + 2) q0 q1 q2 q3 q4 q5 q6 q7
 have hz := outR_size w1 (w.heap.size + 2) q0 q1 q2 q3 q4 q5 q6 q7
 have hf := told_fin h2 h3 h5 (by omega) (by omega) (by omega) ho (Below.refl _ _)
 have hr := reply_fin h1 hs h5 ho
 have h6 : RBox (outR w1 (w.heap.size + 2) q0 q1 q2 q3 q4 q5 q6 q7) (w.heap.size + 1) := (ho.block _ h4.c.2.2.2.2.2.2.2.2.2 (by omega)).trans h4
 generalize outR w1 (w.heap.size + 2) q0 q1 q2 q3 q4 q5 q6 q7 = O1 at *
 have ho2 := outR_only O1 (w.heap.size + 1) r0 r1 r2 r3 r4 r5 r6 r7
 have hz2 := outR_size O1 (w.heap.size + 1) r0 r1 r2 r3 r4 r5 r6 r7
 have hf2 := told_two hf.1 hf.2 h6 hp hb ho2
 have hr2 := reply_fin hr hs h6 ho2
 generalize outR O1 (w.heap.size + 1) r0 r1 r2 r3 r4 r5 r6 r7 = O at *
 have hbe : Below O.heap.size O (O.alloc (.cells #[.string treeS, .string path, .iface 80 (.int .i64 c)] 89)).drew := ((Below.refl _ _).alloc (Nat.le_refl _) _).drew
 refine do_fin hr2 hf2.1 hf2.2 hbe (Or.inr ⟨hc, g, rfl, ?_⟩)
 have he : g = O.heap.size := by rw [hg, hz2, hz]
 subst he
 exact (MapKept.heap_alloc O _).1
end Go.Proofs.YtbebgobboccjcaaGreatDoor
namespace Go.Proofs.YtbebgobboccjcaaGreatDoor
open Go.RowKit Kit
set_option linter.unusedVariables false

theorem infoN : (Tryz.prog.info? 60).map (fun i => (i.zero, i.size, i.bytes)) = some (some (.agg #[.int .i64 0, .int .i64 0, .slice none 0 0, .slice none 0 0, .slice none 0 0]), 5, 88) := by kernel_rfl
theorem flat_oneT {fs : List FN} {w : World} (h : ∀ f ∈ fs, f.is w) : ∀ u ∈ flat fs, u.oneCell' = true := by
 intro u hu
 unfold flat at hu
 obtain ⟨f, hf, hu⟩ := List.mem_flatMap.1 hu
 obtain ⟨⟨a1, c1, e1, _⟩, ⟨a2, c2, e2, _⟩, ⟨a3, c3, e3, _⟩⟩ := h f hf
 unfold FN.cells at hu
 rw [e1, e2, e3] at hu
 simp only [List.mem_cons, List.mem_nil_iff, or_false] at hu
 rcases hu with rfl | rfl | rfl | rfl | rfl <;> rfl
def OwnT (w : World) (base : Nat) (v : Value) (t : TreeB) (fs : List FN) : Prop := ∃ sv, v = .agg #[sv, .int .i64 t.next] ∧ w.ownsRow base 60 5 sv fs.length (flat fs) ∧ fs.map FN.n = t.nodes ∧ ∀ f ∈ fs, f.is w
theorem own_base {w : World} {base base' sz n : Nat} {e : TypeId} {v : Value} {xs : List Value} (h : w.ownsRow base e sz v n xs) (hb : base' ≤ base) : w.ownsRow base' e sz v n xs := by
 refine ⟨h.1, ?_⟩
 rcases h.2 with h2 | ⟨g, cap, cur, hv, hg, r⟩
 · exact .inl h2
 · exact .inr ⟨g, cap, cur, hv, by omega, r⟩
theorem own_done {w w2 : World} {X : Value} {n : Nat} {xs : List Value} (h : w2.ownsRow (w.heap.size + 2) 60 5 X n xs) (hd : Below w.heap.size w w2) (u0 u1 : Value) :
 ((w2.setCell ⟨w.heap.size + 1, 0, none⟩ u0).setCell ⟨w.heap.size + 1, 1, none⟩ u1).ownsRow w.heap.size 60 5 X n xs ∧ Below w.heap.size w ((w2.setCell ⟨w.heap.size + 1, 0, none⟩ u0).setCell ⟨w.heap.size + 1, 1, none⟩ u1) := by
 have hge : w.heap.size ≤ w.heap.size + 1 := by omega
 have set1 : ∀ {W : World} {j : Nat} (u : Value), W.ownsRow (w.heap.size + 2) 60 5 X n xs → (W.setCell ⟨w.heap.size + 1, j, none⟩ u).ownsRow (w.heap.size + 2) 60 5 X n xs := fun u hW =>
  own_block hW fun g hg => Below.heap_setCell _ _ _ g (fun e2 => by have := (hW.lt g hg).1; have e3 : g = w.heap.size + 1 := e2; omega)
 exact ⟨own_base (set1 u1 (set1 u0 h)) (by omega), (hd.setCell hge _).setCell hge _⟩
def TreeG (w : World) (v : Value) (t : TreeB) (fs : List FN) : Prop := ∃ sv, v = .agg #[sv, .int .i64 t.next] ∧ SeesN w sv fs ∧ fs.map FN.n = t.nodes ∧ ∀ f ∈ fs, f.is w
theorem TreeG.at {w : World} {v : Value} {t : TreeB} {fs : List FN} (h : TreeG w v t fs) : TreeAt w v t := by
 obtain ⟨sv, h⟩ := h
 exact ⟨sv, fs, h⟩
theorem TreeG.below {w w' : World} {v : Value} {t : TreeB} {fs : List FN} (h : TreeG w v t fs) (hb : Below w.heap.size w w') : TreeG w' v t fs := by
 obtain ⟨sv, h1, h2, h3, h4⟩ := h
 exact ⟨sv, h1, h2.below hb, h3, fun f hf => (h4 f hf).below hb⟩
theorem TreeG.opened {w : World} {v : Value} {t : TreeB} {fs : List FN} (h : TreeG w v t fs) : ∃ (ao : Option Addr) (cap : Nat), v = .agg #[.slice ao t.nodes.length cap, .int .i64 t.next] ∧ t.nodes.length ≤ cap ∧ cap ≤ maxLen ∧ fs.map FN.n = t.nodes ∧ (∀ f ∈ fs, f.is w) ∧
 (0 < t.nodes.length → ∃ b off, ao = some ⟨b, off, none⟩ ∧ b < w.heap.size ∧ ∀ k (hk : k < fs.length), At5 w b (off + k * 5) fs[k]) := by
 obtain ⟨sv, rfl, ⟨ao, cap, rfl, h2, h3, h4, h5⟩, h6, h7⟩ := h
 have hl := fs_len h6
 refine ⟨ao, cap, by rw [hl], by omega, h3, h6, h7, fun h0 => ?_⟩
 obtain ⟨b, off, e, hb, hh⟩ := h5 (by omega)
 exact ⟨b, off, e, hb, fun k hk => at5_of hh hk⟩
set_option maxRecDepth 4000 in
set_option maxHeartbeats 8000000 in
theorem copied_any (v : Value) (t : TreeB) (fs : List FN) (w : World) (hT : TreeG w v t fs) (h0 : 0 < t.nodes.length) (h1 : t.nodes.length ≤ 100) :
 Calls Tryz.prog 85 #[v] w fun e w' => ∃ u, e = .returned u ∧ OwnT w' w.heap.size u t fs ∧ Below w.heap.size w w' := by
 obtain ⟨sv, rfl, ⟨ao, cap, rfl, h2, h3, h4, h5⟩, h6, h7⟩ := hT
 have hl := fs_len h6
 obtain ⟨b, off, rfl, hb, hh⟩ := h5 (by omega)
 have lm : (fs.length : Int) ≤ 100 := by omega
 have HF : Hid (fs.map FN.n = t.nodes ∧ (∀ f ∈ fs, f.is w) ∧ b < w.heap.size ∧ ∀ j x, (flat fs)[j]? = some x → w.cell? ⟨b, off + j, none⟩ = some x) := ⟨h6, h7, hb, hh⟩
 have HN : Hid (fs.length ≤ 100) := by show _ ≤ _; omega
 obtain ⟨w1, hw1⟩ : ∃ w1, w1 = (w.alloc (.cells #[.slice (some ⟨b, off, none⟩) fs.length cap, .int .i64 t.next] 29)).alloc (.cells #[.slice none 0 0, .int .i64 0] 29) := ⟨_, rfl⟩
 have HW1 : Hid (w1.heap.size = w.heap.size + 2 ∧ Below w.heap.size w w1 ∧ w1.cell? ⟨w.heap.size, 0, none⟩ = some (.slice (some ⟨b, off, none⟩) fs.length cap) ∧ w1.cell? ⟨w.heap.size, 1, none⟩ = some (.int .i64 t.next) ∧ w1.cell? ⟨w.heap.size + 1, 0, none⟩ = some (.slice none 0 0) ∧ w1.cell? ⟨w.heap.size + 1, 1, none⟩ = some (.int .i64 0) ∧ w1.frozen? ⟨w.heap.size + 1, 0, none⟩ = false ∧ w1.frozen? ⟨w.heap.size + 1, 1, none⟩ = false) := by
  subst hw1
  exact ⟨by simp, ((Below.refl _ _).alloc (Nat.le_refl _) _).alloc (by simp) _, by simp, by simp, by simp, by simp, by simp, by simp⟩
 clear h2 h3 h4 h5 h6 h7 hb hh h0 h1 hl
 go_enter Tryz.func85, Tryz.ntmps85
 go_wp2
 rw [← hw1]
 clear hw1
 have c0 := HW1.out.2.2.1
 have c1 := HW1.out.2.2.2.1
 have c0a : ∀ o, (w1.alloc o).cell? ⟨w.heap.size, 0, none⟩ = some (.slice (some ⟨b, off, none⟩) fs.length cap) := fun o => (((Below.refl w1.heap.size w1).alloc (Nat.le_refl _) o).cell (by show w.heap.size < _; have := HW1.out.1; omega)).trans c0
 have c1a : ∀ o, (w1.alloc o).cell? ⟨w.heap.size, 1, none⟩ = some (.int .i64 t.next) := fun o => (((Below.refl w1.heap.size w1).alloc (Nat.le_refl _) o).cell (by show w.heap.size < _; have := HW1.out.1; omega)).trans c1
 have HO : Hid (((w1.alloc (.cells #[] 60)).drew).ownsRow (w.heap.size + 2) 60 5 (.slice (some ⟨w1.heap.size, 0, none⟩) 0 0) 0 []) := by
  have := World.ownsRow_lit (size := 5) (e := 60) (base := w.heap.size + 2) w1 #[] 0 (by have := HW1.out.1; omega) (by simp) (by simp)
  exact this
 have HB1 : Hid (Below w1.heap.size w1 (w1.alloc (.cells #[] 60)).drew) := ((Below.refl _ _).alloc (Nat.le_refl _) _).drew
 have HCL : Hid (∀ (j : Nat) u, (flat fs)[j]? = some u → ((w1.alloc (.cells #[] 60)).drew).cell? ((⟨b, off, none⟩ : Addr).add j) = some u) := fun j u hu => by
  have h9 := HF.out.2.2.2 j u hu
  have hbel := bel2v HW1.out.2.1 HB1.out
  rw [Addr.add_lit]
  exact (hbel.cell (by exact HF.out.2.2.1)).trans h9
 have H1C : Hid (∀ u ∈ flat fs, u.oneCell' = true) := flat_oneT HF.out.2.1
 have HLN : Hid ((flat fs).length = fs.length * 5 ∧ 0 + fs.length ≤ maxLen ∧ (0 + fs.length) * 88 ≤ 140737488355328) := ⟨flat_len fs, by have := HN.out; unfold maxLen; omega, by have := HN.out; omega⟩
 have HK : Hid (∀ w2, ((w1.alloc (.cells #[] 60)).drew).grownBy w2 (Value.slice (some ⟨w1.heap.size, 0, none⟩) 0 0).ownBlock → w2.cell? ⟨w.heap.size, 0, none⟩ = some (.slice (some ⟨b, off, none⟩) fs.length cap) ∧ w2.cell? ⟨w.heap.size, 1, none⟩ = some (.int .i64 t.next) ∧ w2.cell? ⟨w.heap.size + 1, 0, none⟩ = some (.slice none 0 0) ∧ w2.cell? ⟨w.heap.size + 1, 1, none⟩ = some (.int .i64 0) ∧ w2.frozen? ⟨w.heap.size + 1, 0, none⟩ = false ∧ w2.frozen? ⟨w.heap.size + 1, 1, none⟩ = false ∧ Below w.heap.size w w2) := fun w2 hg => by
  have hz := HW1.out.1
  have hbel : Below w1.heap.size w1 w2 := HB1.out.grown hg HB1.out.size (fun k hk => by
   have e : w1.heap.size = k := by simpa [Value.ownBlock] using hk
   omega)
  have lt0 : w.heap.size < w1.heap.size := by omega
  have lt1 : w.heap.size + 1 < w1.heap.size := by omega
  have h := HW1.out.2
  exact ⟨(hbel.cell lt0).trans h.2.1, (hbel.cell lt0).trans h.2.2.1, (hbel.cell lt1).trans h.2.2.2.1, (hbel.cell lt1).trans h.2.2.2.2.1, (hbel.frozen lt1).trans h.2.2.2.2.2.1, (hbel.frozen lt1).trans h.2.2.2.2.2.2, bel2v h.1 hbel⟩
 go_region_law (refine step_appS Tryz.underlying27 infoN rfl (by decide) (by rfl) _ _ (by rfl) (w.heap.size + 2) (.slice (some ⟨w1.heap.size, 0, none⟩) 0 0) 0 [] (by rfl) HO.out ⟨b, off, none⟩ fs.length cap (flat fs) (by rfl) HLN.out.1 HCL.out H1C.out HLN.out.2.1 HLN.out.2.2 (by have := HW1.out.1; have := HB1.out.size; omega) ?_; intro Z w2 hr2 hg2; rw [Nat.zero_add, List.nil_append] at hr2; obtain ⟨g2, cp2, rfl⟩ := own_slice hr2; obtain ⟨d0, d1, d2, d3, d4, d5, d6⟩ := HK.out _ hg2)
 all_goals
  have HR : Hid (w2.ownsRow (w.heap.size + 2) 60 5 (.slice g2 fs.length cp2) fs.length (flat fs) ∧ Below w.heap.size w w2) := ⟨hr2, d6⟩
  clear hr2 hg2 HK HO HCL H1C HLN HB1 c0 c1 c0a c1a
  go_wp2
  refine bodyPost_ret (v := .agg #[.slice g2 fs.length cp2, .int .i64 t.next]) (by simp [results, Tryz.results85, go_sem, *]) rfl ⟨_, rfl, ?_, ?_⟩
  · have h9 := own_done HR.out.1 HR.out.2 (.slice g2 fs.length cp2) (.int .i64 t.next)
    exact ⟨_, rfl, h9.1, HF.out.1, fun f hf => (HF.out.2.1 f hf).below h9.2⟩
  · exact (own_done HR.out.1 HR.out.2 _ _).2
end Go.Proofs.YtbebgobboccjcaaGreatDoor
namespace Go.Proofs.YtbebgobboccjcaaGreatDoor
open Go.RowKit Kit
set_option linter.unusedVariables false

def MB2 (w : World) (b : Nat) (a0 a1 : Value) : Prop := w.heap[b]? = some (.cells #[a0, a1] 29)
section
variable {w w' : World} {b : Nat} {a0 a1 : Value}
theorem MB2.lt (h : MB2 w b a0 a1) : b < w.heap.size := (Array.getElem?_eq_some_iff.1 h).1
theorem MB2.c (h : MB2 w b a0 a1) : w.cell? ⟨b, 0, none⟩ = some a0 ∧ w.cell? ⟨b, 1, none⟩ = some a1 := by
 unfold MB2 at h
 simp [World.cell?, h]
theorem MB2.fz (h : MB2 w b a0 a1) (j : Nat) : w.frozen? ⟨b, j, none⟩ = false := by
 unfold MB2 at h
 simp [World.frozen?, h]
theorem MB2.below (h : MB2 w b a0 a1) (hb : Below w.heap.size w w') : MB2 w' b a0 a1 := (hb.block b h.lt).trans h
theorem MB2.grown {row : Option Nat} (h : MB2 w b a0 a1) (hg : w.grownBy w' row) (hne : some b ≠ row) : MB2 w' b a0 a1 := (hg.block b h.lt hne).trans h
theorem MB2.row (h : MB2 w b a0 a1) {base n sz : Nat} {e : TypeId} {v : Value} {xs : List Value} (hr : w.ownsRow base e sz v n xs) (he : e ≠ 29) : some b ≠ v.ownBlock := by
 rcases hr.2 with ⟨rfl, _⟩ | ⟨g, cap, cur, rfl, _, hg, _⟩
 · simp [Value.ownBlock]
 · intro e2
   have e3 : b = g := by simpa [Value.ownBlock] using e2
   subst e3
   unfold MB2 at h
   rw [h] at hg
   injection hg with hg
   injection hg with _ h3 _
   exact he h3.symm
theorem MB2.set0 (h : MB2 w b a0 a1) (v : Value) : MB2 (w.setCell ⟨b, 0, none⟩ v) b v a1 := by
 unfold MB2 at *
 simp [World.setCell, Array.getElem?_modify, h]
theorem MB2.setOther (h : MB2 w b a0 a1) {c j : Nat} (hne : c ≠ b) (v : Value) : MB2 (w.setCell ⟨c, j, none⟩ v) b a0 a1 := by
 unfold MB2 at *
 rw [Below.heap_setCell _ _ _ b (fun e => hne (show c = b from e.symm))]; exact h
end
def BldT (w wr : World) (tv nx X : Value) (ds : List FN) : Prop :=
 MB2 wr w.heap.size tv nx ∧ MB2 wr (w.heap.size + 1) (.slice none 0 0) (.int .i64 0) ∧ MB2 wr (w.heap.size + 2) X nx ∧ wr.ownsRow (w.heap.size + 3) 60 5 X ds.length (flat ds) ∧ Below w.heap.size w wr
theorem BldT.below {w wr w1 : World} {tv nx X : Value} {ds : List FN} (h : BldT w wr tv nx X ds) (hb : Below wr.heap.size wr w1) : BldT w w1 tv nx X ds := by
 obtain ⟨h1, h2, h3, h4, h6⟩ := h
 exact ⟨h1.below hb, h2.below hb, h3.below hb, own_block h4 fun g hg => hb.block g (h4.lt g hg).2, bel2v h6 hb⟩
theorem BldT.node {w w1 w2 : World} {tv nx X X' : Value} {ds : List FN} {f : FN} (h : BldT w w1 tv nx X ds) (g : w1.grownBy w2 X.ownBlock) (hr : w2.ownsRow (w.heap.size + 3) 60 5 X' (ds.length + 1) (flat ds ++ f.cells)) :
 BldT w (w2.setCell ⟨w.heap.size + 2, 0, none⟩ X') tv nx X' (ds ++ [f]) := by
 obtain ⟨h1, h2, h3, h4, h6⟩ := h
 have n1 := h1.row h4 (by decide)
 have n2 := h2.row h4 (by decide)
 have n3 := h3.row h4 (by decide)
 refine ⟨(h1.grown g n1).setOther (by omega) _, (h2.grown g n2).setOther (by omega) _, (h3.grown g n3).set0 X', ?_, ?_⟩
 · have := own_block (w' := w2.setCell ⟨w.heap.size + 2, 0, none⟩ X') hr fun gg hg => Below.heap_setCell _ _ _ gg (fun e => by have := (hr.lt gg hg).1; have e2 : gg = w.heap.size + 2 := e; omega)
   rw [List.length_append]
   unfold flat at *
   rw [List.flatMap_append]
   simpa using this
 · exact (h6.grown g h6.size (fun k hk => by have := (h4.lt k hk).1; omega)).setCell (by show w.heap.size ≤ w.heap.size + 2; omega) _
theorem bldT_new (w : World) (tv nx : Value) : BldT w (((w.alloc (.cells #[tv, nx] 29)).alloc (.cells #[.slice none 0 0, .int .i64 0] 29)).alloc (.cells #[.slice none 0 0, nx] 29)) tv nx (.slice none 0 0) [] := by
 have hp : ∀ (a : Array Obj) (x y z : Obj), (((a.push x).push y).push z)[a.size]? = some x ∧ (((a.push x).push y).push z)[a.size + 1]? = some y ∧ (((a.push x).push y).push z)[a.size + 2]? = some z := by
  intro a x y z
  refine ⟨?_, ?_, ?_⟩
  · rw [Array.getElem?_push, if_neg (by simp; omega), Array.getElem?_push, if_neg (by simp), Array.getElem?_push, if_pos rfl]
  · rw [Array.getElem?_push, if_neg (by simp), Array.getElem?_push, if_pos (by simp)]
  · rw [Array.getElem?_push, if_pos (by simp)]
 obtain ⟨p1, p2, p3⟩ := hp w.heap (.cells #[tv, nx] 29) (.cells #[.slice none 0 0, .int .i64 0] 29) (.cells #[.slice none 0 0, nx] 29)
 exact ⟨p1, p2, p3, World.ownsRow_nil _ _ _ _, (((Below.refl _ _).alloc (Nat.le_refl _) _).alloc (by simp) _).alloc (by simp; omega) _⟩
theorem seesN_of {w : World} {base : Nat} {v : Value} {fs : List FN} (h : w.ownsRow base 60 5 v fs.length (flat fs)) (hm : fs.length ≤ maxLen) : SeesN w v fs := by
 rcases h.2 with ⟨h2, h3⟩ | ⟨g, cap, cur, hv, hg, hh, hn, hcm, hs, ht⟩
 · exact ⟨none, 0, by rw [h3]; exact h2, by omega, by simp, fun _ => rfl, fun h0 => by omega⟩
 · refine ⟨some ⟨g, 0, none⟩, cap, hv, hn, hcm, by simp, fun _ => ⟨g, 0, rfl, (Array.getElem?_eq_some_iff.1 hh).1, fun j x hx => ?_⟩⟩
   have hj : j < (flat fs).length := (List.getElem?_eq_some_iff.1 hx).1
   rw [flat_len] at hj
   rw [Nat.zero_add]
   simp only [World.cell?, hh]
   rw [← ht, List.getElem?_take, if_pos hj, Array.getElem?_toList] at hx
   simpa using hx
def keptN (t : TreeB) (fs : List FN) : List FN := fs.filter fun f => decide (0 < linksB t f.n.ino)
theorem keptN_next (t : TreeB) (fs : List FN) (k : Nat) (h : k < fs.length) : keptN t (fs.take (k + 1)) = keptN t (fs.take k) ++ if 0 < linksB t fs[k].n.ino then [fs[k]] else [] := by
 unfold keptN
 rw [List.take_add_one, List.getElem?_eq_getElem h, Option.toList_some, List.filter_append]
 congr 1
 by_cases e : 0 < linksB t fs[k].n.ino
 · simp [e]
 · simp [e]
theorem keptN_swept {t : TreeB} {fs : List FN} (h : fs.map FN.n = t.nodes) : (keptN t fs).map FN.n = (sweptB t).nodes := by
 unfold keptN sweptB
 simp only
 rw [← h, List.filter_map]
 rfl
theorem belU {w1 a b : World} {A B C : Prop} (h : A ∧ B ∧ C ∧ Hid (Below w1.heap.size w1 a)) (k : Below a.heap.size a b) : Below w1.heap.size w1 b := bel2v h.2.2.2.out k
theorem belV {w1 a : World} {A B C : Prop} (h : A ∧ B ∧ C ∧ Hid (Below w1.heap.size w1 a)) : Below w1.heap.size w1 a := h.2.2.2.out
end Go.Proofs.YtbebgobboccjcaaGreatDoor
namespace Go.Proofs.YtbebgobboccjcaaGreatDoor
open Go.RowKit Kit
set_option linter.unusedVariables false

def Upper (K : Nat) (w w' : World) : Prop := w.heap.size ≤ w'.heap.size ∧ ∀ g, K ≤ g → g < w.heap.size → w'.heap[g]? = w.heap[g]?
theorem Upper.refl (K : Nat) (w : World) : Upper K w w := ⟨Nat.le_refl _, fun _ _ _ => rfl⟩
theorem Upper.trans {K : Nat} {a b c : World} (h : Upper K a b) (k : Upper K b c) : Upper K a c := ⟨Nat.le_trans h.1 k.1, fun g h1 h2 => (k.2 g h1 (Nat.lt_of_lt_of_le h2 h.1)).trans (h.2 g h1 h2)⟩
theorem upper_set {K : Nat} (w : World) {c j : Nat} (h : c < K) (v : Value) : Upper K w (w.setCell ⟨c, j, none⟩ v) := ⟨by simp, fun g h1 _ => Below.heap_setCell _ _ _ g (fun e => by have e2 : g = c := e; omega)⟩
theorem upper_below {K : Nat} {w w' : World} (h : Below w.heap.size w w') : Upper K w w' := ⟨h.size, fun g _ h2 => h.block g h2⟩
theorem upper_grown {K : Nat} {w w' : World} {row : Option Nat} (h : w.grownBy w' row) (hs : w.heap.size ≤ w'.heap.size) (hr : ∀ k, row = some k → k < K) : Upper K w w' := ⟨hs, fun g h1 h2 => h.block g h2 (fun e => by have := hr g e.symm; omega)⟩
def FreshN (K : Nat) (w : World) (f : FN) : Prop := f.is w ∧ Fresh K f.d ∧ Fresh K f.m ∧ Fresh K f.i
theorem sees_upper {K : Nat} {w w' : World} {v : Value} {xs : List Value} (h : Sees w v xs) (hf : Fresh K v) (hu : Upper K w w') : Sees w' v xs := by
 obtain ⟨ao, cap, h1, h2, h3, h4, h5⟩ := h
 refine ⟨ao, cap, h1, h2, h3, h4, fun h0 => ?_⟩
 obtain ⟨b, off, e, hl, hh⟩ := h5 h0
 have hb := hu.2 b (hf b (by rw [h1, e]; rfl)) hl
 refine ⟨b, off, e, Nat.lt_of_lt_of_le hl hu.1, fun i x hx => ?_⟩
 rw [← hh i x hx]
 simp only [World.cell?, hb]
theorem FreshN.upper {K : Nat} {w w' : World} {f : FN} (h : FreshN K w f) (hu : Upper K w w') : FreshN K w' f :=
 ⟨⟨sees_upper h.1.1 h.2.1 hu, sees_upper h.1.2.1 h.2.2.1 hu, sees_upper h.1.2.2 h.2.2.2 hu⟩, h.2⟩
theorem fresh_nil (K n c : Nat) : Fresh K (.slice none n c) := fun g h => by simp [Value.ownBlock] at h
theorem flat_set : ∀ (fs : List FN) (d : Nat) (f : FN), d < fs.length → flat (fs.set d f) = (((((flat fs).set (d * 5) (.int .i64 f.n.ino)).set (d * 5 + 1) (.int .i64 f.n.kind)).set (d * 5 + 2) f.d).set (d * 5 + 3) f.m).set (d * 5 + 4) f.i
 | [], d, f, h => by simp at h
 | x :: r, 0, f, _ => by simp [flat, FN.cells, List.set]
 | x :: r, d + 1, f, h => by
   have ih := flat_set r d f (by simpa using h)
   have e : ∀ y : FN, ∀ l, flat (y :: l) = (.int .i64 y.n.ino) :: (.int .i64 y.n.kind) :: y.d :: y.m :: y.i :: flat l := fun y l => rfl
   rw [List.set_cons_succ, e, e, ih]
   have e0 : (d + 1) * 5 = d * 5 + 1 + 1 + 1 + 1 + 1 := by omega
   have e1 : (d + 1) * 5 + 1 = d * 5 + 1 + 1 + 1 + 1 + 1 + 1 := by omega
   have e2 : (d + 1) * 5 + 2 = d * 5 + 2 + 1 + 1 + 1 + 1 + 1 := by omega
   have e3 : (d + 1) * 5 + 3 = d * 5 + 3 + 1 + 1 + 1 + 1 + 1 := by omega
   have e4 : (d + 1) * 5 + 4 = d * 5 + 4 + 1 + 1 + 1 + 1 + 1 := by omega
   rw [e4, e3, e2, e1, e0]
   rfl
def set5 (w : World) (g o : Nat) (f : FN) : World := ((((w.setCell ⟨g, o, none⟩ (.int .i64 f.n.ino)).setCell ⟨g, o + 1, none⟩ (.int .i64 f.n.kind)).setCell ⟨g, o + 2, none⟩ f.d).setCell ⟨g, o + 3, none⟩ f.m).setCell ⟨g, o + 4, none⟩ f.i
theorem row_set5 {w : World} {base g cp n : Nat} {fs : List FN} (h : w.ownsRow base 60 5 (.slice (some ⟨g, 0, none⟩) n cp) n (flat fs)) {d : Nat} (hd : d < fs.length) (f : FN) :
 (set5 w g (d * 5) f).ownsRow base 60 5 (.slice (some ⟨g, 0, none⟩) n cp) n (flat (fs.set d f)) := by
 rw [flat_set fs d f hd]
 exact (((((h.stored _ _).1.stored _ _).1.stored _ _).1.stored _ _).1.stored _ _).1
theorem set5_heap (w : World) (g o : Nat) (f : FN) {k : Nat} (hk : k ≠ g) : (set5 w g o f).heap[k]? = w.heap[k]? := by
 have s : ∀ (W : World) (j : Nat) (u : Value), (W.setCell ⟨g, j, none⟩ u).heap[k]? = W.heap[k]? := fun W j u => Below.heap_setCell _ _ _ k (fun e => hk e)
 unfold set5
 rw [s, s, s, s, s]
theorem set5_size (w : World) (g o : Nat) (f : FN) : (set5 w g o f).heap.size = w.heap.size := by simp [set5]
theorem set5_below {B : Nat} {w0 w : World} (h : Below B w0 w) {g : Nat} (hg : B ≤ g) (o : Nat) (f : FN) : Below B w0 (set5 w g o f) :=
 ((((h.setCell hg _).setCell hg _).setCell hg _).setCell hg _).setCell hg _
theorem set5_upper {K : Nat} (w : World) {g : Nat} (hg : g < K) (o : Nat) (f : FN) : Upper K w (set5 w g o f) := ⟨by rw [set5_size]; exact Nat.le_refl _, fun k h1 _ => set5_heap w g o f (by omega)⟩
theorem row_at5 {w : World} {base g cp n : Nat} {fs : List FN} (h : w.ownsRow base 60 5 (.slice (some ⟨g, 0, none⟩) n cp) n (flat fs)) {d : Nat} (hd : d < fs.length) : At5 w g (d * 5) fs[d] := by
 have hn : (flat fs).length = n * 5 := h.1
 rw [flat_len] at hn
 have := at5_of (w := w) (b := g) (off := 0) (fs := fs) (fun j x hx => by
  have hj : j < (flat fs).length := (List.getElem?_eq_some_iff.1 hx).1
  rw [flat_len] at hj
  rw [Nat.zero_add, h.cellAt j (by omega)]; exact hx) hd
 rwa [Nat.zero_add] at this
def XT (lo : Nat) (W : World) (xb g n cp : Nat) (nx : Value) (fs : List FN) : Prop :=
 MB2 W xb (.slice (some ⟨g, 0, none⟩) n cp) nx ∧ W.ownsRow lo 60 5 (.slice (some ⟨g, 0, none⟩) n cp) n (flat fs) ∧ g ≠ xb ∧ n = fs.length
theorem XT.mk' {lo : Nat} {W : World} {xb g n cp : Nat} {nx : Value} {fs : List FN} (h1 : MB2 W xb (.slice (some ⟨g, 0, none⟩) n cp) nx) (h2 : W.ownsRow lo 60 5 (.slice (some ⟨g, 0, none⟩) n cp) n (flat fs)) (hn : n = fs.length) : XT lo W xb g n cp nx fs :=
 ⟨h1, h2, fun e => h1.row h2 (by decide) (by rw [e]; rfl), hn⟩
theorem XT.below {lo : Nat} {W W' : World} {xb g n cp : Nat} {nx : Value} {fs : List FN} (h : XT lo W xb g n cp nx fs) (hb : Below W.heap.size W W') : XT lo W' xb g n cp nx fs :=
 ⟨h.1.below hb, own_block h.2.1 fun k hk => hb.block k (h.2.1.lt k hk).2, h.2.2⟩
theorem XT.set5 {lo : Nat} {W : World} {xb g n cp : Nat} {nx : Value} {fs : List FN} (h : XT lo W xb g n cp nx fs) {d : Nat} (hd : d < fs.length) (f : FN) : XT lo (set5 W g (d * 5) f) xb g n cp nx (fs.set d f) :=
 ⟨(set5_heap W g _ f (fun e => h.2.2.1 e.symm)).trans h.1, row_set5 h.2.1 hd f, h.2.2.1, by rw [List.length_set]; exact h.2.2.2⟩
theorem XT.other {lo : Nat} {W : World} {xb g n cp : Nat} {nx : Value} {fs : List FN} (h : XT lo W xb g n cp nx fs) {c j : Nat} (h1 : c ≠ xb) (h2 : c ≠ g) (v : Value) : XT lo (W.setCell ⟨c, j, none⟩ v) xb g n cp nx fs :=
 ⟨h.1.setOther h1 v, own_block h.2.1 fun k hk => Below.heap_setCell _ _ _ k (fun e => by
  have e2 : k = c := e
  have e3 : g = k := by simpa [Value.ownBlock] using hk
  exact h2 (e2.symm.trans e3.symm)), h.2.2⟩
theorem MB2.set1 {w : World} {b : Nat} {a0 a1 : Value} (h : MB2 w b a0 a1) (v : Value) : MB2 (w.setCell ⟨b, 1, none⟩ v) b a0 v := by
 unfold MB2 at *
 simp [World.setCell, Array.getElem?_modify, h]
theorem XT.next {lo : Nat} {W : World} {xb g n cp : Nat} {nx : Value} {fs : List FN} (h : XT lo W xb g n cp nx fs) (v : Value) : XT lo (W.setCell ⟨xb, 1, none⟩ v) xb g n cp v fs :=
 ⟨h.1.set1 v, own_block h.2.1 fun k hk => Below.heap_setCell _ _ _ k (fun e => by
  have e2 : k = xb := e
  have e3 : g = k := by simpa [Value.ownBlock] using hk
  exact h.2.2.1 (e3.trans e2)), h.2.2⟩
theorem XT.grow {lo : Nat} {W w2 : World} {xb g n cp g2 cp2 : Nat} {nx : Value} {fs : List FN} {f : FN} (h : XT lo W xb g n cp nx fs) (hg : W.grownBy w2 (some g)) (hr : w2.ownsRow lo 60 5 (.slice (some ⟨g2, 0, none⟩) (n + 1) cp2) (n + 1) (flat fs ++ f.cells)) :
 XT lo (w2.setCell ⟨xb, 0, none⟩ (.slice (some ⟨g2, 0, none⟩) (n + 1) cp2)) xb g2 (n + 1) cp2 nx (fs ++ [f]) := by
 have m := h.1.grown hg (by intro e; injection e with e; exact h.2.2.1 e.symm)
 have hne : g2 ≠ xb := fun e => m.row hr (by decide) (by rw [e]; rfl)
 refine ⟨m.set0 _, ?_, hne, by rw [List.length_append, h.2.2.2]; rfl⟩
 have e : flat (fs ++ [f]) = flat fs ++ f.cells := by unfold flat; rw [List.flatMap_append]; simp
 rw [e]
 exact own_block hr fun k hk => Below.heap_setCell _ _ _ k (fun e => by
  have e2 : k = xb := e
  have e3 : g2 = k := by simpa [Value.ownBlock] using hk
  exact hne (e3.trans e2))
end Go.Proofs.YtbebgobboccjcaaGreatDoor
namespace Go.Proofs.YtbebgobboccjcaaGreatDoor
open Go.RowKit Kit
set_option linter.unusedVariables false

theorem replyAt_no (w : World) : ReplyAt w (.agg #[.int .i64 0, .int .i64 0, .int .i64 0, .int .i64 0, .int .i64 0, .slice none 0 0, .slice none 0 0, .slice none 0 0]) noReply :=
 ⟨_, _, _, rfl, sees_nilV _ _, ⟨none, 0, rfl, by simp [strs, noReply], by simp, fun _ => rfl, fun h => by simp [strs, noReply] at h⟩, sees_nilV _ _⟩
def Bx (w wr : World) (sv nx : Value) (o : OpB) (dv : Value) : Prop :=
 MB2 wr w.heap.size sv nx ∧ wr.heap[w.heap.size + 1]? = some (.cells #[.int .i64 o.kind, .string o.path, .string o.to, .int .i64 o.off, .int .i64 o.n, dv, .int .i64 o.snap] 35) ∧ MB2 wr (w.heap.size + 2) (.slice none 0 0) (.int .i64 0) ∧
 wr.heap[w.heap.size + 3]? = some (.cells #[.int .i64 0, .int .i64 0, .int .i64 0, .int .i64 0, .int .i64 0, .slice none 0 0, .slice none 0 0, .slice none 0 0] 40) ∧ Below w.heap.size w wr
theorem Bx.below {w wr w1 : World} {sv nx dv : Value} {o : OpB} (h : Bx w wr sv nx o dv) (hb : Below wr.heap.size wr w1) : Bx w w1 sv nx o dv := by
 obtain ⟨h1, h2, h3, h4, h5⟩ := h
 exact ⟨h1.below hb, (hb.block _ (Array.getElem?_eq_some_iff.1 h2).1).trans h2, h3.below hb, (hb.block _ (Array.getElem?_eq_some_iff.1 h4).1).trans h4, bel2v h5 hb⟩
theorem Bx.op {w wr : World} {sv nx dv : Value} {o : OpB} (h : Bx w wr sv nx o dv) : wr.cell? ⟨w.heap.size + 1, 0, none⟩ = some (.int .i64 o.kind) ∧ wr.cell? ⟨w.heap.size + 1, 1, none⟩ = some (.string o.path) ∧ wr.cell? ⟨w.heap.size + 1, 2, none⟩ = some (.string o.to) ∧ wr.cell? ⟨w.heap.size + 1, 3, none⟩ = some (.int .i64 o.off) ∧ wr.cell? ⟨w.heap.size + 1, 4, none⟩ = some (.int .i64 o.n) ∧ wr.cell? ⟨w.heap.size + 1, 5, none⟩ = some dv := by
 have := h.2.1
 simp [World.cell?, this]
theorem Bx.re {w wr : World} {sv nx dv : Value} {o : OpB} (h : Bx w wr sv nx o dv) : wr.cell? ⟨w.heap.size + 3, 0, none⟩ = some (.int .i64 0) ∧ wr.cell? ⟨w.heap.size + 3, 1, none⟩ = some (.int .i64 0) ∧ wr.cell? ⟨w.heap.size + 3, 2, none⟩ = some (.int .i64 0) ∧ wr.cell? ⟨w.heap.size + 3, 3, none⟩ = some (.int .i64 0) ∧ wr.cell? ⟨w.heap.size + 3, 4, none⟩ = some (.int .i64 0) ∧ wr.cell? ⟨w.heap.size + 3, 5, none⟩ = some (.slice none 0 0) ∧ wr.cell? ⟨w.heap.size + 3, 6, none⟩ = some (.slice none 0 0) ∧ wr.cell? ⟨w.heap.size + 3, 7, none⟩ = some (.slice none 0 0) ∧ (∀ j, wr.frozen? ⟨w.heap.size + 3, j, none⟩ = false) := by
 have := h.2.2.2.1
 simp [World.cell?, World.frozen?, this]
theorem bx_new (w : World) (sv nx dv : Value) (o : OpB) : Bx w ((((w.alloc (.cells #[sv, nx] 29)).alloc (.cells #[.int .i64 o.kind, .string o.path, .string o.to, .int .i64 o.off, .int .i64 o.n, dv, .int .i64 o.snap] 35)).alloc (.cells #[.slice none 0 0, .int .i64 0] 29)).alloc (.cells #[.int .i64 0, .int .i64 0, .int .i64 0, .int .i64 0, .int .i64 0, .slice none 0 0, .slice none 0 0, .slice none 0 0] 40)) sv nx o dv := by
 have hp : ∀ (a : Array Obj) (x y z u : Obj), ((((a.push x).push y).push z).push u)[a.size]? = some x ∧ ((((a.push x).push y).push z).push u)[a.size + 1]? = some y ∧ ((((a.push x).push y).push z).push u)[a.size + 2]? = some z ∧ ((((a.push x).push y).push z).push u)[a.size + 3]? = some u := by
  intro a x y z u
  refine ⟨?_, ?_, ?_, ?_⟩
  · rw [Array.getElem?_push, if_neg (by simp <;> omega), Array.getElem?_push, if_neg (by simp <;> omega), Array.getElem?_push, if_neg (by simp), Array.getElem?_push, if_pos rfl]
  · rw [Array.getElem?_push, if_neg (by simp <;> omega), Array.getElem?_push, if_neg (by simp), Array.getElem?_push, if_pos (by simp)]
  · rw [Array.getElem?_push, if_neg (by simp), Array.getElem?_push, if_pos (by simp)]
  · rw [Array.getElem?_push, if_pos (by simp)]
 obtain ⟨p1, p2, p3, p4⟩ := hp w.heap (.cells #[sv, nx] 29) (.cells #[.int .i64 o.kind, .string o.path, .string o.to, .int .i64 o.off, .int .i64 o.n, dv, .int .i64 o.snap] 35) (.cells #[.slice none 0 0, .int .i64 0] 29) (.cells #[.int .i64 0, .int .i64 0, .int .i64 0, .int .i64 0, .int .i64 0, .slice none 0 0, .slice none 0 0, .slice none 0 0] 40)
 exact ⟨p1, p2, p3, p4, ((((Below.refl _ _).alloc (Nat.le_refl _) _).alloc (by simp) _).alloc (by simp; omega) _).alloc (by simp; omega) _⟩
def outW (W : World) (B : Nat) (tv nx r0 r1 r2 r3 r4 r5 r6 r7 : Value) : World :=
 (((((((((W.setCell ⟨B + 1 + 1, 0, none⟩ tv).setCell ⟨B + 1 + 1, 1, none⟩ nx).setCell ⟨B + 1 + 1 + 1, 0, none⟩ r0).setCell ⟨B + 1 + 1 + 1, 1, none⟩ r1).setCell ⟨B + 1 + 1 + 1, 2, none⟩ r2).setCell ⟨B + 1 + 1 + 1, 3, none⟩ r3).setCell ⟨B + 1 + 1 + 1, 4, none⟩ r4).setCell ⟨B + 1 + 1 + 1, 5, none⟩ r5).setCell ⟨B + 1 + 1 + 1, 6, none⟩ r6).setCell ⟨B + 1 + 1 + 1, 7, none⟩ r7
section
variable {w W : World} (tv nx r0 r1 r2 r3 r4 r5 r6 r7 : Value)
theorem out_below (h : Below w.heap.size w W) : Below w.heap.size w (outW W w.heap.size tv nx r0 r1 r2 r3 r4 r5 r6 r7) := by
 have h2 : w.heap.size ≤ w.heap.size + 1 + 1 := by omega
 have h3 : w.heap.size ≤ w.heap.size + 1 + 1 + 1 := by omega
 exact (((((((((h.setCell h2 _).setCell h2 _).setCell h3 _).setCell h3 _).setCell h3 _).setCell h3 _).setCell h3 _).setCell h3 _).setCell h3 _).setCell h3 _
theorem out_upper {K B : Nat} (h : B + 4 ≤ K) : Upper K W (outW W B tv nx r0 r1 r2 r3 r4 r5 r6 r7) := by
 have h2 : B + 1 + 1 < K := by omega
 have h3 : B + 1 + 1 + 1 < K := by omega
 exact ((((((((((upper_set _ h2 _).trans (upper_set _ h2 _)).trans (upper_set _ h3 _)).trans (upper_set _ h3 _)).trans (upper_set _ h3 _)).trans (upper_set _ h3 _)).trans (upper_set _ h3 _)).trans (upper_set _ h3 _)).trans (upper_set _ h3 _)).trans (upper_set _ h3 _))
theorem out_row {lo B n sz : Nat} {e : TypeId} {v : Value} {xs : List Value} (h : W.ownsRow lo e sz v n xs) (hl : B + 4 ≤ lo) : (outW W B tv nx r0 r1 r2 r3 r4 r5 r6 r7).ownsRow lo e sz v n xs :=
 own_block h fun k hk => (out_upper tv nx r0 r1 r2 r3 r4 r5 r6 r7 hl).2 k (h.lt k hk).1 (h.lt k hk).2
end
theorem len_leT : ∀ (S l : List Int), (∀ i ∈ l, i ∈ S) → (∀ i, l.count i ≤ 20) → l.length ≤ 20 * S.length
 | [], l, h, _ => by
   cases l with
   | nil => simp
   | cons a r => exact absurd (h a (by simp)) (by simp)
 | a :: S, l, h, hc => by
   have h1 := len_leT S (l.filter (fun x => !(x == a))) (fun i hi => by
    obtain ⟨h2, h3⟩ := List.mem_filter.1 hi
    rcases List.mem_cons.1 (h i h2) with e | e
    · subst e; simp at h3
    · exact e) (fun i => Nat.le_trans (List.Sublist.count_le i List.filter_sublist) (hc i))
   have h2 := List.length_eq_countP_add_countP (fun x => x == a) (l := l)
   have h3 : l.countP (fun x => x == a) ≤ 20 := hc a
   have h4 : l.countP (fun x => decide (¬ (x == a) = true)) = (l.filter (fun x => !(x == a))).length := by
    rw [← List.countP_eq_length_filter]
    congr 1
    funext x
    cases (x == a) <;> rfl
   rw [List.length_cons]
   omega
theorem names_smallT {e : Int} {t : TreeB} (h : GoodE e t) {n : NodeB} (hn : n ∈ t.nodes) : n.names.length ≤ 1200 ∧ n.inos.length ≤ 1200 := by
 have h1 : n.inos.length ≤ 20 * (t.nodes.map NodeB.ino).length := len_leT _ _ (fun i hi => by
  obtain ⟨_, m, hm, e⟩ := h.leads n hn i hi
  exact List.mem_map.2 ⟨m, hm, e⟩) (fun i => by
  have h2 := h.many i
  have h3 : n.inos.count i ≤ kidsB t i := by
   unfold kidsB
   have : ∀ (l : List NodeB), n ∈ l → n.inos.count i ≤ (l.map fun n => n.inos.count i).sum := by
    intro l
    induction l with
    | nil => intro h; simp at h
    | cons a r ih =>
      intro h
      rw [List.map_cons, List.sum_cons]
      rcases List.mem_cons.1 h with e | e
      · subst e; omega
      · have := ih e; omega
   exact this _ hn
  omega)
 rw [List.length_map] at h1
 have h2 := h.size
 have h3 := (h.each n hn).len
 omega
theorem home_codeT {t : TreeB} {p : ByteArray} {x : Int} (h : homeB t p = .error x) : x ≠ 0 := by
 unfold homeB at h
 split at h
 · rename_i h1
   injection h with h
   exact fun e => h1 (h.trans e)
 · split at h
   · rename_i y hy
     injection h with h
     subst h
     rcases find_code hy with e | e | e | e | e <;> omega
   · split at h
     · injection h with h; omega
     · cases h
end Go.Proofs.YtbebgobboccjcaaGreatDoor
namespace Go.Proofs.YtbebgobboccjcaaGreatDoor
open Go.RowKit Kit
set_option linter.unusedVariables false

theorem outW_heap {W : World} {B k : Nat} (a0 a1 r0 r1 r2 r3 r4 r5 r6 r7 : Value) (h2 : k ≠ B + 2) (h3 : k ≠ B + 3) : (outW W B a0 a1 r0 r1 r2 r3 r4 r5 r6 r7).heap[k]? = W.heap[k]? := by
 have s2 : ∀ (W : World) (j : Nat) (u : Value), (W.setCell ⟨B + 1 + 1, j, none⟩ u).heap[k]? = W.heap[k]? := fun W j u => Below.heap_setCell _ _ _ k (fun e => h2 e)
 have s3 : ∀ (W : World) (j : Nat) (u : Value), (W.setCell ⟨B + 1 + 1 + 1, j, none⟩ u).heap[k]? = W.heap[k]? := fun W j u => Below.heap_setCell _ _ _ k (fun e => h3 e)
 unfold outW
 rw [s3, s3, s3, s3, s3, s3, s3, s3, s2, s2]
theorem outW_size (W : World) (B : Nat) (a0 a1 r0 r1 r2 r3 r4 r5 r6 r7 : Value) : (outW W B a0 a1 r0 r1 r2 r3 r4 r5 r6 r7).heap.size = W.heap.size := by simp [outW]
theorem bx_apart {w W : World} {sv nx dv x : Value} {o : OpB} {g off : Nat} (h : Bx w W sv nx o dv) (hx : W.cell? ⟨g, off, none⟩ = some x) (h0 : x ≠ .slice none 0 0) (h1 : x ≠ .int .i64 0) : g ≠ w.heap.size + 2 ∧ g ≠ w.heap.size + 3 := by
 refine ⟨fun e => ?_, fun e => ?_⟩
 · subst e
   have := h.2.2.1
   unfold MB2 at this
   simp only [World.cell?, this] at hx
   match off with
   | 0 => simp at hx; exact h0 hx.symm
   | 1 => simp at hx; exact h1 hx.symm
   | o + 2 => simp at hx
 · subst e
   have := h.2.2.2.1
   simp only [World.cell?, this] at hx
   match off with
   | 0 => simp at hx; exact h1 hx.symm
   | 1 => simp at hx; exact h1 hx.symm
   | 2 => simp at hx; exact h1 hx.symm
   | 3 => simp at hx; exact h1 hx.symm
   | 4 => simp at hx; exact h1 hx.symm
   | 5 => simp at hx; exact h0 hx.symm
   | 6 => simp at hx; exact h0 hx.symm
   | 7 => simp at hx; exact h0 hx.symm
   | o + 8 => simp at hx
section
variable {w W : World} {sv nx dv : Value} {o : OpB} (a0 a1 r0 r1 r2 r3 r4 r5 r6 r7 : Value)
theorem sees_out {v : Value} {xs : List Value} (hB : Bx w W sv nx o dv) (h : Sees W v xs) (hx : ∀ x, xs[0]? = some x → x ≠ .slice none 0 0 ∧ x ≠ .int .i64 0) : Sees (outW W w.heap.size a0 a1 r0 r1 r2 r3 r4 r5 r6 r7) v xs := by
 obtain ⟨ao, cap, h1, h2, h3, h4, h5⟩ := h
 refine ⟨ao, cap, h1, h2, h3, h4, fun h0 => ?_⟩
 obtain ⟨g, off, e, hl, hh⟩ := h5 h0
 have h00 := hh 0 xs[0] (List.getElem?_eq_getElem h0)
 obtain ⟨q1, q2⟩ := hx xs[0] (List.getElem?_eq_getElem h0)
 obtain ⟨hp, hb⟩ := bx_apart hB h00 q1 q2
 refine ⟨g, off, e, by rw [outW_size]; exact hl, fun i x hx => ?_⟩
 rw [← hh i x hx]
 simp only [World.cell?, outW_heap a0 a1 r0 r1 r2 r3 r4 r5 r6 r7 hp hb]
theorem sees_outU {v : Value} {l : List Int} (hB : Bx w W sv nx o dv) (h : Sees W v (intsV .u8 l)) : Sees (outW W w.heap.size a0 a1 r0 r1 r2 r3 r4 r5 r6 r7) v (intsV .u8 l) :=
 sees_out _ _ _ _ _ _ _ _ _ _ hB h fun x hx => by
  obtain ⟨s, _, rfl⟩ := List.mem_map.1 (List.mem_of_getElem? hx)
  exact ⟨by simp, by simp⟩
theorem sees_outS {v : Value} {l : List ByteArray} (hB : Bx w W sv nx o dv) (h : Sees W v (strs l)) : Sees (outW W w.heap.size a0 a1 r0 r1 r2 r3 r4 r5 r6 r7) v (strs l) :=
 sees_out _ _ _ _ _ _ _ _ _ _ hB h fun x hx => by
  obtain ⟨s, _, rfl⟩ := List.mem_map.1 (List.mem_of_getElem? hx)
  exact ⟨by simp, by simp⟩
theorem sees_outI {v : Value} {l : List Int} (hB : Bx w W sv nx o dv) (h : Sees W v (intsV .i64 l)) (h0 : ∀ i ∈ l, i ≠ 0) : Sees (outW W w.heap.size a0 a1 r0 r1 r2 r3 r4 r5 r6 r7) v (intsV .i64 l) :=
 sees_out _ _ _ _ _ _ _ _ _ _ hB h fun x hx => by
  obtain ⟨s, hs, rfl⟩ := List.mem_map.1 (List.mem_of_getElem? hx)
  refine ⟨by simp, fun e => ?_⟩
  injection e with _ e2
  exact h0 s hs e2
theorem TreeAt.outW {v : Value} {t : TreeB} (hB : Bx w W sv nx o dv) (h : TreeAt W v t) (hg : Good t) : TreeAt (outW W w.heap.size a0 a1 r0 r1 r2 r3 r4 r5 r6 r7) v t := by
 obtain ⟨xv, fs, h1, h2, h3, h4⟩ := h
 refine ⟨xv, fs, h1, ?_, h3, fun f hf => ⟨sees_outU _ _ _ _ _ _ _ _ _ _ hB (h4 f hf).1, sees_outS _ _ _ _ _ _ _ _ _ _ hB (h4 f hf).2.1, sees_outI _ _ _ _ _ _ _ _ _ _ hB (h4 f hf).2.2 fun i hi => ?_⟩⟩
 · obtain ⟨ao, cap, e1, e2, e3, e4, e5⟩ := h2
   refine ⟨ao, cap, e1, e2, e3, e4, fun h0 => ?_⟩
   obtain ⟨g, off, e, hl, hh⟩ := e5 h0
   have a5 := at5_of hh h0
   have hm : fs[0].n ∈ t.nodes := by rw [← h3]; exact List.mem_map.2 ⟨fs[0], List.getElem_mem h0, rfl⟩
   have hp := hg.1.pos _ hm
   have h00 := a5.1
   rw [Nat.zero_mul, Nat.add_zero] at h00
   obtain ⟨hp, hb⟩ := bx_apart hB h00 (by simp) (fun e => by injection e with _ e2; omega)
   refine ⟨g, off, e, by rw [outW_size]; exact hl, fun i x hx => ?_⟩
   rw [← hh i x hx]
   simp only [World.cell?, outW_heap a0 a1 r0 r1 r2 r3 r4 r5 r6 r7 hp hb]
 · have hn : f.n ∈ t.nodes := by rw [← h3]; exact List.mem_map.2 ⟨f, hf, rfl⟩
   obtain ⟨_, m, hm, e⟩ := hg.1.leads f.n hn i hi
   have := hg.1.pos m hm
   omega
theorem ReplyAt.outW {v : Value} {r : ReplyB} (hB : Bx w W sv nx o dv) (h : ReplyAt W v r) (hs : r.snaps = []) : ReplyAt (outW W w.heap.size a0 a1 r0 r1 r2 r3 r4 r5 r6 r7) v r := by
 obtain ⟨x, y, z, e, h1, h2, h3⟩ := h
 exact ⟨x, y, z, e, sees_outU _ _ _ _ _ _ _ _ _ _ hB h1, sees_outS _ _ _ _ _ _ _ _ _ _ hB h2, sees_outI _ _ _ _ _ _ _ _ _ _ hB h3 (by rw [hs]; simp)⟩
end
end Go.Proofs.YtbebgobboccjcaaGreatDoor
namespace Go.Proofs.YtbebgobboccjcaaGreatDoor
open Go.RowKit Kit
set_option linter.unusedVariables false

theorem reply_form8 {w : World} {v : Value} {r : ReplyB} (h : ReplyAt w v r) : ∃ ra rc na nc sa sc, v = .agg #[.int .i64 r.ino, .int .i64 r.kind, .int .i64 r.size, .int .i64 r.links, .int .i64 r.n, .slice ra r.data.length rc, .slice na r.names.length nc, .slice sa r.snaps.length sc] ∧ Sees w (.slice ra r.data.length rc) (intsV .u8 r.data) ∧ Sees w (.slice na r.names.length nc) (strs r.names) ∧ Sees w (.slice sa r.snaps.length sc) (intsV .i64 r.snaps) := by
 obtain ⟨dv, nv, sv, h1, h2, h3, h4⟩ := h
 obtain ⟨a1, c1, e1, _⟩ := id h2
 obtain ⟨a2, c2, e2, _⟩ := id h3
 obtain ⟨a3, c3, e3, _⟩ := id h4
 rw [intsV_len] at e1 e3
 rw [strs_len] at e2
 subst e1 e2 e3
 exact ⟨a1, c1, a2, c2, a3, c3, h1, h2, h3, h4⟩
set_option maxRecDepth 4000 in
set_option maxHeartbeats 8000000 in
theorem samereply_any (va vb : Value) (r : ReplyB) (w : World) (ha : ReplyAt w va r) (hb : ReplyAt w vb r) : Calls Tryz.prog 31 #[va, vb] w fun e w' => e = .returned (.bool true) ∧ Below w.heap.size w w' := by
 obtain ⟨a1, c1, a2, c2, a3, c3, rfl, s1, s2, s3⟩ := reply_form8 ha
 obtain ⟨b1, d1, b2, d2, b3, d3, rfl, u1, u2, u3⟩ := reply_form8 hb
 have HTx : Hid (∀ w3, Below w.heap.size w w3 → Calls Tryz.prog 26 #[.slice a2 r.names.length c2, .slice b2 r.names.length d2] w3 fun e w' => e = .returned (.bool true) ∧ Below w3.heap.size w3 w') := fun w3 h3 => by
  have := texts_any _ _ r.names r.names w3 (s2.below h3) (u2.below h3)
  rw [decide_eq_true rfl] at this
  exact this
 have HIx : Hid (∀ w3, Below w.heap.size w w3 → Calls Tryz.prog 27 #[.slice a3 r.snaps.length c3, .slice b3 r.snaps.length d3] w3 fun e w' => e = .returned (.bool true) ∧ Below w3.heap.size w3 w') := fun w3 h3 => ints_same _ _ r.snaps w3 (s3.below h3) (u3.below h3)
 have hcv := @conv_view Tryz.prog 33 9 5 Tryz.underlying33 Tryz.underlying5 Tryz.underlying9
 have hc1 : ∀ o o2 : Obj, (convert 33 9 (.slice a1 r.data.length c1)).run Tryz.prog ((w.alloc o).alloc o2) = .ok (.string (strOf r.data)) ((w.alloc o).alloc o2) := fun o o2 => hcv (sees_vwT ((s1.below (bel_newT _ o)).below (bel_newT _ o2)))
 have hc2 : ∀ o o2 : Obj, (convert 33 9 (.slice b1 r.data.length d1)).run Tryz.prog ((w.alloc o).alloc o2) = .ok (.string (strOf r.data)) ((w.alloc o).alloc o2) := fun o o2 => hcv (sees_vwT ((u1.below (bel_newT _ o)).below (bel_newT _ o2)))
 have hss := str_same (strOf r.data)
 obtain ⟨n1, hn1⟩ : ∃ z, r.data.length = z := ⟨_, rfl⟩
 obtain ⟨n2, hn2⟩ : ∃ z, r.names.length = z := ⟨_, rfl⟩
 obtain ⟨n3, hn3⟩ : ∃ z, r.snaps.length = z := ⟨_, rfl⟩
 obtain ⟨st, hst⟩ : ∃ z, strOf r.data = z := ⟨_, rfl⟩
 rw [hn1, hst] at hc1 hc2
 rw [hst] at hss
 rw [hn2] at HTx
 rw [hn3] at HIx
 rw [hn1, hn2, hn3]
 obtain ⟨W, hW⟩ : ∃ z, z = (w.alloc (.cells #[.int .i64 r.ino, .int .i64 r.kind, .int .i64 r.size, .int .i64 r.links, .int .i64 r.n, .slice a1 n1 c1, .slice a2 n2 c2, .slice a3 n3 c3] 40)).alloc (.cells #[.int .i64 r.ino, .int .i64 r.kind, .int .i64 r.size, .int .i64 r.links, .int .i64 r.n, .slice b1 n1 d1, .slice b2 n2 d2, .slice b3 n3 d3] 40) := ⟨_, rfl⟩
 have HW : Hid (Below w.heap.size w W ∧ W.cell? ⟨w.heap.size, 7, none⟩ = some (.slice a3 n3 c3) ∧ W.cell? ⟨w.heap.size + 1, 7, none⟩ = some (.slice b3 n3 d3)) := by
  refine ⟨?_, ?_, ?_⟩
  · rw [hW]; exact ((Below.refl _ _).alloc (Nat.le_refl _) _).alloc (by simp) _
  · rw [hW]; simp
  · rw [hW]; simp
 clear hcv ha hb s1 s2 s3 u1 u2 u3 hn1 hn2 hn3 hst
 go_enter Tryz.func31, Tryz.ntmps31
 go_wp2_with fail
 go_at_call 26
 rw [← hW]
 refine (HTx.out _ HW.out.1).mono ?_
 rintro e w3 ⟨rfl, hb3⟩
 have v7 : w3.cell? ⟨w.heap.size, 7, none⟩ = some (.slice a3 n3 c3) := cell_oldT hb3 HW.out.2.1
 have v8 : w3.cell? ⟨w.heap.size + 1, 7, none⟩ = some (.slice b3 n3 d3) := cell_oldT hb3 HW.out.2.2
 have HB3 : Hid (Below w.heap.size w w3) := bel2v HW.out.1 hb3
 have l1 : w.heap.size < w3.heap.size := cell_lt v7
 have l2 : w.heap.size + 1 < w3.heap.size := cell_lt v8
 clear hb3 HTx hW HW
 go_wp2_with fail
 go_at_call 27
 refine (HIx.out _ HB3.out).mono ?_
 rintro e w4 ⟨rfl, hb4⟩
 have HB4 : Hid (Below w.heap.size w w4) := bel2v HB3.out hb4
 clear hb4 HIx
 go_wp2
 go_ret
 exact ⟨rfl, HB4.out⟩
set_option maxRecDepth 4000 in
theorem tnew_any (w : World) : Calls Tryz.prog 10 #[] w fun e w' => ∃ v, e = .returned v ∧ TreeAt w' v newB ∧ Below w.heap.size w w' := by
 go_enter Tryz.func10, Tryz.ntmps10
 go_wp2
 refine bodyPost_ret (v := .agg #[.slice (some ⟨w.heap.size + 1, 0, none⟩) 1 1, .int .i64 2]) (by simp [results, Tryz.results10, go_sem]) rfl ?_
 refine ⟨_, rfl, ⟨_, [⟨⟨1, 2, [], [], []⟩, .slice none 0 0, .slice none 0 0, .slice none 0 0⟩], rfl, ?_, rfl, ?_⟩, ((Below.refl _ _).alloc (Nat.le_refl _) _).alloc (by simp) _⟩
 · refine ⟨some ⟨w.heap.size + 1, 0, none⟩, 1, rfl, by simp, by unfold maxLen; omega, by simp, fun _ => ⟨w.heap.size + 1, 0, rfl, by simp, fun j x hx => ?_⟩⟩
   match j, hx with
   | 0, hx => simp [flat, FN.cells] at hx; subst hx; simp
   | 1, hx => simp [flat, FN.cells] at hx; subst hx; simp
   | 2, hx => simp [flat, FN.cells] at hx; subst hx; simp
   | 3, hx => simp [flat, FN.cells] at hx; subst hx; simp
   | 4, hx => simp [flat, FN.cells] at hx; subst hx; simp
   | j + 5, hx => simp [flat, FN.cells] at hx
 · intro f hf
   simp only [List.mem_cons, List.mem_nil_iff, or_false] at hf
   subst hf
   exact ⟨sees_nil0 _ _ rfl, sees_nil0 _ _ rfl, sees_nil0 _ _ rfl⟩
end Go.Proofs.YtbebgobboccjcaaGreatDoor
namespace Go.Proofs.YtbebgobboccjcaaGreatDoor
open Go.RowKit Kit
set_option linter.unusedVariables false

set_option maxRecDepth 4000 in
set_option maxHeartbeats 16000000 in
theorem swept_own (v : Value) (t : TreeB) (fs : List FN) (w : World) (hT : TreeG w v t fs) (h1 : t.nodes.length ≤ 100) (hk : ∀ i, (t.nodes.map fun n => countB n i).sum ≤ 100000) :
 Calls Tryz.prog 89 #[v] w fun e w' => ∃ xo xc, e = .returned (.agg #[.slice xo (keptN t fs).length xc, .int .i64 t.next]) ∧ w'.ownsRow w.heap.size 60 5 (.slice xo (keptN t fs).length xc) (keptN t fs).length (flat (keptN t fs)) ∧ Below w.heap.size w w' := by
 have HT : Hid (TreeAt w v t) := hT.at
 obtain ⟨ao, cap, rfl, q1, q2, q3, q4, q5⟩ := hT.opened
 have hl := fs_len q3
 have lm : (t.nodes.length : Int) ≤ 100 := by omega
 have HF : Hid (fs.map FN.n = t.nodes ∧ (∀ f ∈ fs, f.is w) ∧ fs.length ≤ 100) := ⟨q3, q4, by omega⟩
 have H5 : Hid (_ → _) := q5
 have HLK : Hid (∀ W i, Below w.heap.size w W → Calls Tryz.prog 55 #[.agg #[.slice ao t.nodes.length cap, .int .i64 t.next], .int .i64 i] W fun e w' => e = .returned (.int .i64 (linksB t i : Int)) ∧ Below W.heap.size W w') := fun W i hb => links_any _ t i W (HT.out.below hb) h1 (hk i)
 clear q1 q2 q3 q4 q5 hT h1 hk
 go_enter Tryz.func89, Tryz.ntmps89
 go_wp2
 go_loopw [4] (fun z wr => ∃ (k : Nat) (X : Value), k ≤ t.nodes.length ∧ z = .int .i64 (k : Int) ∧ Hid (BldT w wr (.slice ao t.nodes.length cap) (.int .i64 t.next) X (keptN t (fs.take k)))) (fun z _ => t.nodes.length - (intOf z).toNat)
 case atStart => exact ⟨0, .slice none 0 0, Nat.zero_le _, rfl, bldT_new w _ _⟩
 case round =>
  obtain ⟨k, X, hk, rfl, HB⟩ := hrel
  by_cases hlt : k < t.nodes.length
  · obtain ⟨b, off, hao, hb, hc⟩ := H5.out (by omega)
    subst hao
    have hfk : k < fs.length := by omega
    have hnx := keptN_next t fs k hfk
    have hfis := HF.out.2.1 _ (List.getElem_mem hfk)
    have a5 := hc k hfk
    obtain ⟨f, hf⟩ : ∃ f, fs[k] = f := ⟨_, rfl⟩
    rw [hf] at hnx a5 hfis
    obtain ⟨ds, hds⟩ : ∃ ds, keptN t (fs.take k) = ds := ⟨_, rfl⟩
    have hdl : ds.length ≤ 100 := by
     rw [← hds]; unfold keptN
     have := List.length_filter_le (fun f : FN => decide (0 < linksB t f.n.ino)) (fs.take k)
     simp at this
     have := HF.out.2.2
     omega
    rw [hds] at HB hnx
    have HNX : Hid (keptN t (fs.take (k + 1)) = ds ++ if 0 < linksB t f.n.ino then [f] else []) := hnx
    have HA : Hid (At5 w b (off + k * 5) f ∧ b < w.heap.size ∧ f.is w ∧ ds.length ≤ 100) := ⟨a5, hb, hfis, hdl⟩
    have j0 : (k : Int) < (t.nodes.length : Int) := by omega
    have j1 : (0 : Int) ≤ (k : Int) := by omega
    obtain ⟨w1, hw1⟩ : ∃ z, z = wr := ⟨_, rfl⟩
    subst hw1
    have hB := HB.out
    have HK : Hid (∀ W, Below w1.heap.size w1 W → W.cell? ⟨w.heap.size, 0, none⟩ = some (.slice (some ⟨b, off, none⟩) t.nodes.length cap) ∧ W.cell? ⟨w.heap.size, 1, none⟩ = some (.int .i64 t.next) ∧ W.cell? ⟨b, off + k * 5, none⟩ = some (.int .i64 f.n.ino) ∧ Hid (Below w1.heap.size w1 W)) := fun W hW => by
     have h9 := (hB.below hW).1.c
     have h8 := At5.below HA.out.1 HA.out.2.1 (bel2v hB.2.2.2.2 hW)
     exact ⟨h9.1, h9.2, h8.1, hW⟩
    have HLW : Hid (∀ W, Below w1.heap.size w1 W → Calls Tryz.prog 55 #[.agg #[.slice (some ⟨b, off, none⟩) t.nodes.length cap, .int .i64 t.next], .int .i64 f.n.ino] W fun e w' => e = .returned (.int .i64 (linksB t f.n.ino : Int)) ∧ Below W.heap.size W w') := fun W hW => HLK.out W _ (bel2v HB.out.2.2.2.2 hW)
    have c0 := hB.1.c.1
    clear hc hf hds hnx a5 hfis hb hB hdl
    go_wp2
    go_region_held3 (fun W => W.cell? ⟨w.heap.size, 0, none⟩ = some (.slice (some ⟨b, off, none⟩) t.nodes.length cap) ∧ W.cell? ⟨w.heap.size, 1, none⟩ = some (.int .i64 t.next) ∧ W.cell? ⟨b, off + k * 5, none⟩ = some (.int .i64 f.n.ino) ∧ Hid (Below w1.heap.size w1 W)) (first | exact HK.out _ (Below.refl _ _) | exact HK.out _ (Below.refl _ _).drew | exact HK.out _ (belU (by assumption) (by assumption)))
     (first
       | (go_at_call 55; go_fit (HLW.out _ (belV (by assumption))); rintro e3 w3 ⟨rfl, hb3⟩))
    rename_i hS
    have HB3 : Hid (BldT w w3 (.slice (some ⟨b, off, none⟩) t.nodes.length cap) (.int .i64 t.next) X ds) := HB.out.below hS.2.2.2.out
    clear hS hb3 HK HLW c0 HB
    by_cases hpos : 0 < linksB t f.n.ino
    · have HE : Hid (keptN t (fs.take (k + 1)) = ds ++ [f]) := by show _ = _; rw [HNX.out, if_pos hpos]
      have p0 : (0 : Int) < (linksB t f.n.ino : Int) := by omega
      have hB := HB3.out
      have c0 := hB.1.c.1
      have m0 := hB.2.2.1.c.1
      have m0a : ∀ o, (w3.alloc o).cell? ⟨w.heap.size + 2, 0, none⟩ = some X := fun o => ((hB.below ((Below.refl _ _).alloc (Nat.le_refl _) o)).2.2.1.c).1
      have a5 := At5.below HA.out.1 HA.out.2.1 hB.2.2.2.2
      obtain ⟨s0, s1, s2, s3, s4⟩ := a5
      obtain ⟨do', dc, hd', _⟩ := HA.out.2.2.1.1
      obtain ⟨mo', mc', hm', _⟩ := HA.out.2.2.1.2.1
      obtain ⟨io', ic', hi', _⟩ := HA.out.2.2.1.2.2
      obtain ⟨nd, hnd⟩ : ∃ n, (intsV .u8 f.n.data).length = n := ⟨_, rfl⟩
      obtain ⟨nm, hnm⟩ : ∃ n, (strs f.n.names).length = n := ⟨_, rfl⟩
      obtain ⟨ni, hni⟩ : ∃ n, (intsV .i64 f.n.inos).length = n := ⟨_, rfl⟩
      rw [hnd] at hd'
      rw [hnm] at hm'
      rw [hni] at hi'
      rw [hd'] at s2
      rw [hm'] at s3
      rw [hi'] at s4
      have HBA : Hid (BldT w (w3.alloc (.cells #[.int .i64 f.n.ino, .int .i64 f.n.kind, .slice do' nd dc, .slice mo' nm mc', .slice io' ni ic'] 60)).drew (.slice (some ⟨b, off, none⟩) t.nodes.length cap) (.int .i64 t.next) X ds) := hB.below (((Below.refl _ _).alloc (Nat.le_refl _) _).drew)
      have HCE : Hid (f.cells = [.int .i64 f.n.ino, .int .i64 f.n.kind, .slice do' nd dc, .slice mo' nm mc', .slice io' ni ic']) := by show _ = _; unfold FN.cells; rw [hd', hm', hi']
      obtain ⟨cs, hcs⟩ : ∃ cs : List Value, cs = [.int .i64 f.n.ino, .int .i64 f.n.kind, .slice do' nd dc, .slice mo' nm mc', .slice io' ni ic'] := ⟨_, rfl⟩
      have HCL : Hid (∀ (j : Nat) u, cs[j]? = some u → ((w3.alloc (.cells #[.int .i64 f.n.ino, .int .i64 f.n.kind, .slice do' nd dc, .slice mo' nm mc', .slice io' ni ic'] 60)).drew).cell? ((⟨w3.heap.size, 0, none⟩ : Addr).add j) = some u) := fun j u hu => by
       rw [hcs] at hu
       match j, hu with
       | 0, hu => simp at hu; subst hu; simp [Addr.add]
       | 1, hu => simp at hu; subst hu; simp [Addr.add]
       | 2, hu => simp at hu; subst hu; simp [Addr.add]
       | 3, hu => simp at hu; subst hu; simp [Addr.add]
       | 4, hu => simp at hu; subst hu; simp [Addr.add]
       | j + 5, hu => simp at hu
      have H1C : Hid (∀ u ∈ cs, u.oneCell' = true) := fun u hu => by
       rw [hcs] at hu
       simp only [List.mem_cons, List.mem_nil_iff, or_false] at hu
       rcases hu with rfl | rfl | rfl | rfl | rfl <;> rfl
      have HM : Hid (cs.length = 1 * 5 ∧ ds.length + 1 ≤ maxLen ∧ (ds.length + 1) * 88 ≤ 140737488355328) := ⟨by rw [hcs]; rfl, by have := HA.out.2.2.2; unfold maxLen; omega, by have := HA.out.2.2.2; omega⟩
      have HCS : Hid (f.cells = cs) := by show _ = _; rw [HCE.out, hcs]
      clear hB hcs HCE HNX hd' hm' hi' hnd hnm hni hpos
      go_wp2
      go_region_law (refine step_appS Tryz.underlying27 infoN rfl (by decide) (by rfl) _ _ (by rfl) (w.heap.size + 3) X ds.length (flat ds) (by rfl) HBA.out.2.2.2.1 ⟨w3.heap.size, 0, none⟩ 1 1 cs (by rfl) HM.out.1 HCL.out H1C.out HM.out.2.1 HM.out.2.2 (by have := HBA.out.2.2.1.lt; omega) ?_; intro Z w2 hr2 hg2; obtain ⟨g2, cp2, rfl⟩ := own_some hr2 (Nat.succ_pos _); have m3b := (HBA.out.2.2.1.grown hg2 (HBA.out.2.2.1.row HBA.out.2.2.2.1 (by decide))).c.1; have z3b := (HBA.out.2.2.1.grown hg2 (HBA.out.2.2.1.row HBA.out.2.2.2.1 (by decide))).fz 0)
      all_goals
       have HB5 : Hid (BldT w (w2.setCell ⟨w.heap.size + 1 + 1, 0, none⟩ (.slice (some ⟨g2, 0, none⟩) (ds.length + 1) cp2)) (.slice (some ⟨b, off, none⟩) t.nodes.length cap) (.int .i64 t.next) (.slice (some ⟨g2, 0, none⟩) (ds.length + 1) cp2) (ds ++ [f])) := HBA.out.node hg2 (by rw [HCS.out]; exact hr2)
       clear hg2 hr2 m3b z3b HBA HCL m0 m0a c0 HB3 HM s0 s1 s2 s3 s4
       go_wp2
       go_roundw
       case rel => exact ⟨k + 1, _, by omega, by simp, by rw [HE.out]; exact HB5⟩
       case measure => simp [intOf]; omega
    · have HE : Hid (keptN t (fs.take (k + 1)) = ds) := by show _ = _; rw [HNX.out, if_neg hpos, List.append_nil]
      have p0 : ¬ (0 : Int) < (linksB t f.n.ino : Int) := by omega
      clear HNX hpos
      go_wp2
      go_roundw
      case rel => exact ⟨k + 1, X, by omega, by simp, by rw [HE.out]; exact HB3⟩
      case measure => simp [intOf]; omega
  · obtain rfl : k = t.nodes.length := by omega
    have hall : fs.take t.nodes.length = fs := List.take_of_length_le (by omega)
    rw [hall] at HB
    obtain ⟨ds, hds⟩ : ∃ ds, keptN t fs = ds := ⟨_, rfl⟩
    have HDS : Hid (ds.map FN.n = (sweptB t).nodes ∧ (∀ f ∈ ds, f.is w) ∧ ds.length ≤ 100) := by
     refine ⟨by rw [← hds]; exact keptN_swept HF.out.1, fun f hf => ?_, ?_⟩
     · rw [← hds] at hf
       exact HF.out.2.1 f (List.mem_filter.1 hf).1
     · rw [← hds]
       have := List.length_filter_le (fun f : FN => decide (0 < linksB t f.n.ino)) fs
       have h9 := HF.out.2.2
       unfold keptN
       omega
    rw [hds] at HB
    have HDE : Hid (keptN t fs = ds) := hds
    have hB := HB.out
    have c0 := hB.1.c.1
    obtain ⟨m0, m1⟩ := hB.2.2.1.c
    obtain ⟨r0, r1⟩ := hB.2.1.c
    have z0 := hB.2.1.fz 0
    have z1 := hB.2.1.fz 1
    obtain ⟨xo, xc, hX⟩ := own_slice hB.2.2.2.1
    subst hX
    clear hds hB hall hlt
    go_wp2
    refine bodyPost_ret (v := .agg #[.slice xo ds.length xc, .int .i64 t.next]) (by simp [results, Tryz.results89, go_sem, *]) rfl ?_
    have h9 := own_done (own_base HB.out.2.2.2.1 (by omega)) HB.out.2.2.2.2 (.slice xo ds.length xc) (.int .i64 t.next)
    rw [HDE.out]
    exact ⟨_, _, rfl, h9.1, h9.2⟩
end Go.Proofs.YtbebgobboccjcaaGreatDoor
namespace Go.Proofs.YtbebgobboccjcaaGreatDoor
open Go.RowKit Kit
set_option linter.unusedVariables false

def TreeN (B : Nat) (w' : World) (nx : Int) (v : Value) (T : TreeB) : Prop := ∃ fs, TreeG w' v T fs ∧ ∀ f ∈ fs, nx ∈ f.n.inos → Fresh B f.i
theorem TreeN.at {B : Nat} {w' : World} {nx : Int} {v : Value} {T : TreeB} (h : TreeN B w' nx v T) : TreeAt w' v T := by
 obtain ⟨fs, h, _⟩ := h
 exact h.at
theorem TreeN.below {B : Nat} {w w' : World} {nx : Int} {v : Value} {T : TreeB} (h : TreeN B w nx v T) (hb : Below w.heap.size w w') : TreeN B w' nx v T := by
 obtain ⟨fs, h, h2⟩ := h
 exact ⟨fs, h.below hb, h2⟩
theorem fresh_le {a b : Nat} {v : Value} (h : Fresh b v) (hab : a ≤ b) : Fresh a v := fun g hg => Nat.le_trans hab (h g hg)
theorem TreeN.mono {B B' : Nat} {w : World} {nx : Int} {v : Value} {T : TreeB} (h : TreeN B w nx v T) (hb : B' ≤ B) : TreeN B' w nx v T := by
 obtain ⟨fs, h, h2⟩ := h
 exact ⟨fs, h, fun f hf hi => fresh_le (h2 f hf hi) hb⟩
theorem good_fresh {T : TreeB} (hg : Good T) : ∀ n ∈ T.nodes, T.next ∉ n.inos := fun n hn hi => by
 obtain ⟨_, m, hm, e⟩ := hg.1.leads n hn _ hi
 have := hg.1.below m hm
 omega
theorem treeN_old {B : Nat} {w : World} {v : Value} {T : TreeB} {nx : Int} (h : TreeAt w v T) (hg : Good T) (hn : T.next = nx) : TreeN B w nx v T := by
 obtain ⟨sv, fs, h⟩ := h
 refine ⟨fs, ⟨sv, h⟩, fun f hf hi => ?_⟩
 have hm : f.n ∈ T.nodes := by rw [← h.2.2.1]; exact List.mem_map.2 ⟨f, hf, rfl⟩
 subst hn
 exact absurd hi (good_fresh hg f.n hm)
end Go.Proofs.YtbebgobboccjcaaGreatDoor
namespace Go.Proofs.YtbebgobboccjcaaGreatDoor
open Go.RowKit Kit
set_option linter.unusedVariables false

def WRel (names : List ByteArray) (inos : List Int) (s : ByteArray) (i : Int) (k : Nat) (b : Bool) (ds : List ByteArray) (es : List Int) : Prop :=
 (b = false ∧ k ≤ goesB names s ∧ ds = names.take k ∧ es = inos.take k) ∨
 (b = true ∧ goesB names s < k ∧ ds = names.take (goesB names s) ++ s :: (names.drop (goesB names s)).take (k - goesB names s) ∧ es = inos.take (goesB names s) ++ i :: (inos.drop (goesB names s)).take (k - goesB names s))
section
variable {names : List ByteArray} {inos : List Int} {s : ByteArray} {i : Int} {k : Nat} {ds : List ByteArray} {es : List Int}
theorem goes_gt (hk : k < names.length) (hg : k ≤ goesB names s) (h : ¬ less s (names.getD k ⟨#[]⟩)) : k < goesB names s := by
 rcases Nat.lt_or_ge k (goesB names s) with h1 | h1
 · exact h1
 · exfalso
   have e : goesB names s = k := by omega
   unfold goesB at e
   cases hf : names.findIdx? fun q => Op.bytesLess s.toList q.toList with
   | none => rw [hf] at e; simp at e; omega
   | some j =>
     rw [hf] at e
     simp at e
     subst e
     obtain ⟨hj, h2, _⟩ := List.findIdx?_eq_some_iff_getElem.1 hf
     apply h
     unfold less
     simpa [List.getD, hj] using h2
theorem goes_hit (hk : k < names.length) (hg : k ≤ goesB names s) (h : less s (names.getD k ⟨#[]⟩)) : goesB names s = k := by
 unfold goesB at *
 cases hf : names.findIdx? fun q => Op.bytesLess s.toList q.toList with
 | none =>
   rw [List.findIdx?_eq_none_iff] at hf
   have := hf names[k] (List.getElem_mem hk)
   unfold less at h
   simp [List.getD, hk] at h
   rw [h] at this; cases this
 | some j =>
   rw [hf] at hg
   simp at hg
   obtain ⟨hj, h2, h3⟩ := List.findIdx?_eq_some_iff_getElem.1 hf
   simp
   rcases Nat.lt_or_ge k j with h4 | h4
   · have := h3 k h4
     unfold less at h
     simp [List.getD, hk] at h
     simp [h] at this
   · omega
theorem take_next {α : Type} (l : List α) (z : α) (k : Nat) (h : k < l.length) : l.take (k + 1) = l.take k ++ [l.getD k z] := by
 rw [List.take_add_one, List.getElem?_eq_getElem h]; simp [List.getD, h]
theorem WRel.on (h : WRel names inos s i k false ds es) (hk : k < names.length) (hl : names.length = inos.length) (hn : ¬ less s (names.getD k ⟨#[]⟩)) : WRel names inos s i (k + 1) false (ds ++ [names.getD k ⟨#[]⟩]) (es ++ [inos.getD k 0]) := by
 rcases h with ⟨_, h2, rfl, rfl⟩ | ⟨h1, _⟩
 · exact .inl ⟨rfl, goes_gt hk h2 hn, (take_next _ _ _ hk).symm, (take_next _ _ _ (by omega)).symm⟩
 · cases h1
theorem WRel.hit (h : WRel names inos s i k false ds es) (hk : k < names.length) (hl : names.length = inos.length) (hn : less s (names.getD k ⟨#[]⟩)) : WRel names inos s i (k + 1) true ((ds ++ [s]) ++ [names.getD k ⟨#[]⟩]) ((es ++ [i]) ++ [inos.getD k 0]) := by
 rcases h with ⟨_, h2, rfl, rfl⟩ | ⟨h1, _⟩
 · have e := goes_hit hk h2 hn
   refine .inr ⟨rfl, by omega, ?_, ?_⟩
   · rw [e, show k + 1 - k = 0 + 1 by omega, take_next (names.drop k) ⟨#[]⟩ 0 (by simp; omega)]
     simp [List.getD]
   · rw [e, show k + 1 - k = 0 + 1 by omega, take_next (inos.drop k) 0 0 (by simp; omega)]
     simp [List.getD]
 · cases h1
theorem WRel.more (h : WRel names inos s i k true ds es) (hk : k < names.length) (hl : names.length = inos.length) : WRel names inos s i (k + 1) true (ds ++ [names.getD k ⟨#[]⟩]) (es ++ [inos.getD k 0]) := by
 rcases h with ⟨h1, _⟩ | ⟨_, h2, rfl, rfl⟩
 · cases h1
 · refine .inr ⟨rfl, by omega, ?_, ?_⟩
   · rw [show k + 1 - goesB names s = (k - goesB names s) + 1 by omega, take_next (names.drop (goesB names s)) ⟨#[]⟩ _ (by simp; omega)]
     have : (names.drop (goesB names s)).getD (k - goesB names s) ⟨#[]⟩ = names.getD k ⟨#[]⟩ := by simp [List.getD, show goesB names s + (k - goesB names s) = k by omega]
     rw [this]; simp
   · rw [show k + 1 - goesB names s = (k - goesB names s) + 1 by omega, take_next (inos.drop (goesB names s)) 0 _ (by simp; omega)]
     have : (inos.drop (goesB names s)).getD (k - goesB names s) 0 = inos.getD k 0 := by simp [List.getD, show goesB names s + (k - goesB names s) = k by omega]
     rw [this]; simp
theorem goes_le : goesB names s ≤ names.length := by
 unfold goesB
 cases hf : names.findIdx? fun q => Op.bytesLess s.toList q.toList with
 | none => simp
 | some j => have := (List.findIdx?_eq_some_iff_getElem.1 hf).1; simp; omega
theorem WRel.endF (h : WRel names inos s i names.length false ds es) (hl : names.length = inos.length) (ino kind : Int) (data : List Int) : withB ⟨ino, kind, data, names, inos⟩ s i = ⟨ino, kind, [], ds ++ [s], es ++ [i]⟩ := by
 rcases h with ⟨_, h2, rfl, rfl⟩ | ⟨h1, _⟩
 · have e : goesB names s = names.length := Nat.le_antisymm goes_le h2
   unfold withB
   simp only
   rw [e, List.drop_length, hl, List.drop_length]
 · cases h1
theorem WRel.endT (h : WRel names inos s i names.length true ds es) (hl : names.length = inos.length) (ino kind : Int) (data : List Int) : withB ⟨ino, kind, data, names, inos⟩ s i = ⟨ino, kind, [], ds, es⟩ := by
 rcases h with ⟨h1, _⟩ | ⟨_, h2, rfl, rfl⟩
 · cases h1
 · unfold withB
   simp only
   rw [List.take_of_length_le (l := names.drop _) (by simp), List.take_of_length_le (l := inos.drop _) (by simp; omega)]
theorem WRel.len {b : Bool} (h : WRel names inos s i k b ds es) (hl : names.length = inos.length) : ds.length ≤ names.length + 1 ∧ es.length ≤ names.length + 1 := by
 rcases h with ⟨_, _, rfl, rfl⟩ | ⟨_, _, rfl, rfl⟩
 · simp; omega
 · simp; omega
end
end Go.Proofs.YtbebgobboccjcaaGreatDoor
