/- act. -/
import Derived.Test.YtchajlaflehodaaGreatDoorMDCreate
import Derived.Test.YtchajlaflehodaaGreatDoorMDRename
import Derived.Test.YtchajlaflehodaaGreatDoorMDStat
import Derived.Test.YtchajlaflehodaaGreatDoorMDOnFileR
import Derived.Test.YtchajlaflehodaaGreatDoorMDOnFileW
import Derived.Test.YtchajlaflehodaaGreatDoorMDOnFileC
namespace Go.Proofs.YtchajlaflehodaaGreatDoor
open Go.RowKit Kit
set_option linter.unusedVariables false

theorem removes_reply (t : TreeB) (o : OpB) : (removesB t o).2.1 = noReply := by
  unfold removesB
  split
  · rfl
  · split
    · rfl
    · split
      · rfl
      · split
        · rfl
        · split
          · rfl
          · split <;> rfl
theorem rename_reply (t : TreeB) (o : OpB) : (renameB t o).2.1 = noReply := by
  unfold renameB
  split
  · rfl
  · split
    · rfl
    · split
      · rfl
      · split
        · rfl
        · split
          · rfl
          · split
            · rfl
            · split
              · split
                · rfl
                · split
                  · rfl
                  · split
                    · rfl
                    · split <;> rfl
              · rfl
theorem link_reply (t : TreeB) (o : OpB) : (linkB t o).2.1 = noReply := by
  unfold linkB
  split
  · rfl
  · split
    · rfl
    · split
      · rfl
      · split
        · rfl
        · split
          · rfl
          · split <;> rfl
theorem makes_snaps (t : TreeB) (o : OpB) : (makesB t o).2.1.snaps = [] := by
  unfold makesB
  split
  · rfl
  · split
    · rfl
    · split <;> rfl
theorem file_snaps (t : TreeB) (o : OpB) (q : Except Int Nat) : (fileF t o q).2.1.snaps = [] := by
  unfold fileF
  split
  · rfl
  · split
    · split <;> rfl
    · split
      · split <;> rfl
      · split <;> rfl
theorem looks_snaps (t : TreeB) (o : OpB) : (looksB t o).2.1.snaps = [] := by
  unfold looksB
  split
  · rfl
  · split
    · rfl
    · split <;> rfl
/-- What a callee's reply is, in its boxes. -/
def ToldX (w : World) (p b : Nat) (x : TreeB × ReplyB × Int) (e : Ending) (w' : World) : Prop := ∃ da dc na nc sa sc, e = .returned (.tuple #[.agg #[.int .i64 x.2.1.ino, .int .i64 x.2.1.kind, .int .i64 x.2.1.size, .int .i64 x.2.1.links, .int .i64 x.2.1.n, .slice da x.2.1.data.length dc, .slice na x.2.1.names.length nc, .slice sa x.2.1.snaps.length sc], errV x.2.2]) ∧
  w'.cell? ⟨w.heap.size + 1, 0, none⟩ = some (.int .i64 0) ∧ w'.cell? ⟨w.heap.size + 1, 1, none⟩ = some (.int .i64 0) ∧ w'.cell? ⟨w.heap.size + 1, 2, none⟩ = some (.int .i64 0) ∧ w'.cell? ⟨w.heap.size + 1, 3, none⟩ = some (.int .i64 0) ∧ w'.cell? ⟨w.heap.size + 1, 4, none⟩ = some (.int .i64 0) ∧ w'.cell? ⟨w.heap.size + 1, 5, none⟩ = some (.slice none 0 0) ∧ w'.cell? ⟨w.heap.size + 1, 6, none⟩ = some (.slice none 0 0) ∧ w'.cell? ⟨w.heap.size + 1, 7, none⟩ = some (.slice none 0 0) ∧ (∀ j, w'.frozen? ⟨w.heap.size + 1, j, none⟩ = false) ∧
  Hid (ReplyAt w' (.agg #[.int .i64 x.2.1.ino, .int .i64 x.2.1.kind, .int .i64 x.2.1.size, .int .i64 x.2.1.links, .int .i64 x.2.1.n, .slice da x.2.1.data.length dc, .slice na x.2.1.names.length nc, .slice sa x.2.1.snaps.length sc]) x.2.1 ∧ DTree w' p b x.1 ∧ Turn p b w w' ∧ RBox w' (w.heap.size + 1))
theorem told_x {w W w' : World} {o : OpB} {dv : Value} {p b : Nat} {x : TreeB × ReplyB × Int} {e : Ending} (h2 : Two w W o dv) (hp : p < w.heap.size) (hb : b < w.heap.size) (h : Told W p b x e w') : ToldX w p b x e w' := by
  obtain ⟨rv, h1, h3, h4, h5⟩ := h
  have hr := h2.2.1.turn h5 (by omega) (by omega)
  have rc := hr.c
  obtain ⟨dv', nv, sv, e1, k1, k2, k3⟩ := id h3
  obtain ⟨da, dc, q1, _⟩ := k1
  obtain ⟨na, nc, q2, _⟩ := k2
  obtain ⟨sa, sc, q3, _⟩ := k3
  rw [intsV_len] at q1 q3
  rw [strs_len] at q2
  subst q1 q2 q3
  subst e1
  exact ⟨da, dc, na, nc, sa, sc, h1, rc.1, rc.2.1, rc.2.2.1, rc.2.2.2.1, rc.2.2.2.2.1, rc.2.2.2.2.2.1, rc.2.2.2.2.2.2.1, rc.2.2.2.2.2.2.2.1, rc.2.2.2.2.2.2.2.2.1, ⟨h3, h4, (turn_below h2.2.2).trans h5, hr⟩⟩
theorem reply_fin {w' W2 : World} {B : Nat} {v : Value} {r : ReplyB} (h : ReplyAt w' v r) (hs : r.snaps = []) (hB : RBox w' B) (ho : Only B w' W2) : ReplyAt W2 v r := by
  obtain ⟨dv, nv, sv, e1, k1, k2, k3⟩ := h
  refine ⟨dv, nv, sv, e1, sees_only k1 ho (hB.nobyte _), sees_only k2 ho (hB.nostr _), sees_only k3 ho (fun o x _ hm => ?_)⟩
  rw [hs] at hm
  simp [intsV] at hm
/-- What a callee's error is, in the boxes. -/
def ToldE (w : World) (p b : Nat) (x : TreeB × ReplyB × Int) (e : Ending) (w' : World) : Prop := e = .returned (errV x.2.2) ∧
  w'.cell? ⟨w.heap.size + 1, 0, none⟩ = some (.int .i64 0) ∧ w'.cell? ⟨w.heap.size + 1, 1, none⟩ = some (.int .i64 0) ∧ w'.cell? ⟨w.heap.size + 1, 2, none⟩ = some (.int .i64 0) ∧ w'.cell? ⟨w.heap.size + 1, 3, none⟩ = some (.int .i64 0) ∧ w'.cell? ⟨w.heap.size + 1, 4, none⟩ = some (.int .i64 0) ∧ w'.cell? ⟨w.heap.size + 1, 5, none⟩ = some (.slice none 0 0) ∧ w'.cell? ⟨w.heap.size + 1, 6, none⟩ = some (.slice none 0 0) ∧ w'.cell? ⟨w.heap.size + 1, 7, none⟩ = some (.slice none 0 0) ∧ (∀ j, w'.frozen? ⟨w.heap.size + 1, j, none⟩ = false) ∧
  Hid (DTree w' p b x.1 ∧ Turn p b w w' ∧ RBox w' (w.heap.size + 1))
theorem told_e {w W w' : World} {o : OpB} {dv : Value} {p b : Nat} {x : TreeB × ReplyB × Int} {e : Ending} (h2 : Two w W o dv) (hp : p < w.heap.size) (hb : b < w.heap.size) (h : e = .returned (errV x.2.2) ∧ DTree w' p b x.1 ∧ Turn p b W w') : ToldE w p b x e w' := by
  obtain ⟨h1, h4, h5⟩ := h
  have hr := h2.2.1.turn h5 (by omega) (by omega)
  have rc := hr.c
  exact ⟨h1, rc.1, rc.2.1, rc.2.2.1, rc.2.2.2.1, rc.2.2.2.2.1, rc.2.2.2.2.2.1, rc.2.2.2.2.2.2.1, rc.2.2.2.2.2.2.2.1, rc.2.2.2.2.2.2.2.2.1, ⟨h4, (turn_below h2.2.2).trans h5, hr⟩⟩
theorem donFile_any (o : OpB) (ho : o.kind = 7 ∨ o.kind = 8 ∨ o.kind = 9) (da : Option Addr) (dc : Nat) (w : World) (p b : Nat) (t : TreeB) (hT : DTree w p b t) (hG : Good t) (hs1 : o.path.size ≤ maxLen) (hdv : Sees w (.slice da o.data.length dc) (intsV .u8 o.data)) :
    Calls Tryz.prog 45 #[.pointer (some ⟨p, 0, none⟩), .agg #[.int .i64 o.kind, .string o.path, .string o.to, .int .i64 o.off, .int .i64 o.n, .slice da o.data.length dc, .int .i64 o.snap]] w fun e w' => Told w p b (fileF t o (outFile t (findB t o.path))) e w' := by
  cases hq : outFile t (findB t o.path) with
  | error x => have := donFile_err o da dc w p b t hT hG hs1 hdv x hq; rw [hq] at this; exact this
  | ok k =>
    rcases ho with h | h | h
    · by_cases hr : o.off < 0 ∨ o.n < 0
      · have := donFile_r7 o da dc w p b t hT hG hs1 hdv k hq h hr; rw [hq] at this; exact this
      · have := donFile_read o da dc w p b t hT hG hs1 hdv k hq h hr; rw [hq] at this; exact this
    · by_cases hr : o.off < 0 ∨ o.off > 2000 - (o.data.length : Int)
      · have := donFile_r8 o da dc w p b t hT hG hs1 hdv k hq h hr; rw [hq] at this; exact this
      · have := donFile_write o da dc w p b t hT hG hs1 hdv k hq h hr; rw [hq] at this; exact this
    · by_cases hr : o.n < 0 ∨ 2000 < o.n
      · have := donFile_r9 o da dc w p b t hT hG hs1 hdv k hq h hr; rw [hq] at this; exact this
      · have := donFile_cut o da dc w p b t hT hG hs1 hdv k hq h hr; rw [hq] at this; exact this
end Go.Proofs.YtchajlaflehodaaGreatDoor
