/- Several texts in one: DActA MRen6 MRen7. -/
import Derived.Test.YtbebgobboccjcaaGreatDoorMDCreate
import Derived.Test.YtbebgobboccjcaaGreatDoorMDRename
import Derived.Test.YtbebgobboccjcaaGreatDoorMDStat
import Derived.Test.YtbebgobboccjcaaGreatDoorMDOnFileR
import Derived.Test.YtbebgobboccjcaaGreatDoorMDOnFileW
import Derived.Test.YtbebgobboccjcaaGreatDoorMDOnFileC
import Derived.Test.YtbebgobboccjcaaGreatDoorG4
/- act. -/
namespace Go.Proofs.YtbebgobboccjcaaGreatDoor
open Go.RowKit Kit
set_option linter.unusedVariables false

theorem removes_reply (t : TreeB) (o : OpB) : (removesB t o).2.1 = noReply := by
  unfold removesB
  split
  · rfl
  · split
    · rfl
    · split
      · rfl
      · split
        · rfl
        · split
          · rfl
          · split <;> rfl
theorem rename_reply (t : TreeB) (o : OpB) : (renameB t o).2.1 = noReply := by
  unfold renameB
  split
  · rfl
  · split
    · rfl
    · split
      · rfl
      · split
        · rfl
        · split
          · rfl
          · split
            · rfl
            · split
              · split
                · rfl
                · split
                  · rfl
                  · split
                    · rfl
                    · split <;> rfl
              · rfl
theorem link_reply (t : TreeB) (o : OpB) : (linkB t o).2.1 = noReply := by
  unfold linkB
  split
  · rfl
  · split
    · rfl
    · split
      · rfl
      · split
        · rfl
        · split
          · rfl
          · split <;> rfl
theorem makes_snaps (t : TreeB) (o : OpB) : (makesB t o).2.1.snaps = [] := by
  unfold makesB
  split
  · rfl
  · split
    · rfl
    · split <;> rfl
theorem file_snaps (t : TreeB) (o : OpB) (q : Except Int Nat) : (fileF t o q).2.1.snaps = [] := by
  unfold fileF
  split
  · rfl
  · split
    · split <;> rfl
    · split
      · split <;> rfl
      · split <;> rfl
theorem looks_snaps (t : TreeB) (o : OpB) : (looksB t o).2.1.snaps = [] := by
  unfold looksB
  split
  · rfl
  · split
    · rfl
    · split <;> rfl
/-- What a callee's reply is, in its boxes. -/
def ToldX (w : World) (p b : Nat) (x : TreeB × ReplyB × Int) (e : Ending) (w' : World) : Prop := ∃ da dc na nc sa sc, e = .returned (.tuple #[.agg #[.int .i64 x.2.1.ino, .int .i64 x.2.1.kind, .int .i64 x.2.1.size, .int .i64 x.2.1.links, .int .i64 x.2.1.n, .slice da x.2.1.data.length dc, .slice na x.2.1.names.length nc, .slice sa x.2.1.snaps.length sc], errV x.2.2]) ∧
  w'.cell? ⟨w.heap.size + 1, 0, none⟩ = some (.int .i64 0) ∧ w'.cell? ⟨w.heap.size + 1, 1, none⟩ = some (.int .i64 0) ∧ w'.cell? ⟨w.heap.size + 1, 2, none⟩ = some (.int .i64 0) ∧ w'.cell? ⟨w.heap.size + 1, 3, none⟩ = some (.int .i64 0) ∧ w'.cell? ⟨w.heap.size + 1, 4, none⟩ = some (.int .i64 0) ∧ w'.cell? ⟨w.heap.size + 1, 5, none⟩ = some (.slice none 0 0) ∧ w'.cell? ⟨w.heap.size + 1, 6, none⟩ = some (.slice none 0 0) ∧ w'.cell? ⟨w.heap.size + 1, 7, none⟩ = some (.slice none 0 0) ∧ (∀ j, w'.frozen? ⟨w.heap.size + 1, j, none⟩ = false) ∧
  Hid (ReplyAt w' (.agg #[.int .i64 x.2.1.ino, .int .i64 x.2.1.kind, .int .i64 x.2.1.size, .int .i64 x.2.1.links, .int .i64 x.2.1.n, .slice da x.2.1.data.length dc, .slice na x.2.1.names.length nc, .slice sa x.2.1.snaps.length sc]) x.2.1 ∧ DTree w' p b x.1 ∧ Turn p b w w' ∧ RBox w' (w.heap.size + 1))
theorem told_x {w W w' : World} {o : OpB} {dv : Value} {p b : Nat} {x : TreeB × ReplyB × Int} {e : Ending} (h2 : Two w W o dv) (hp : p < w.heap.size) (hb : b < w.heap.size) (h : Told W p b x e w') : ToldX w p b x e w' := by
  obtain ⟨rv, h1, h3, h4, h5⟩ := h
  have hr := h2.2.1.turn h5 (by omega) (by omega)
  have rc := hr.c
  obtain ⟨dv', nv, sv, e1, k1, k2, k3⟩ := id h3
  obtain ⟨da, dc, q1, _⟩ := k1
  obtain ⟨na, nc, q2, _⟩ := k2
  obtain ⟨sa, sc, q3, _⟩ := k3
  rw [intsV_len] at q1 q3
  rw [strs_len] at q2
  subst q1 q2 q3
  subst e1
  exact ⟨da, dc, na, nc, sa, sc, h1, rc.1, rc.2.1, rc.2.2.1, rc.2.2.2.1, rc.2.2.2.2.1, rc.2.2.2.2.2.1, rc.2.2.2.2.2.2.1, rc.2.2.2.2.2.2.2.1, rc.2.2.2.2.2.2.2.2.1, ⟨h3, h4, (turn_below h2.2.2).trans h5, hr⟩⟩
theorem reply_fin {w' W2 : World} {B : Nat} {v : Value} {r : ReplyB} (h : ReplyAt w' v r) (hs : r.snaps = []) (hB : RBox w' B) (ho : Only B w' W2) : ReplyAt W2 v r := by
  obtain ⟨dv, nv, sv, e1, k1, k2, k3⟩ := h
  refine ⟨dv, nv, sv, e1, sees_only k1 ho (hB.nobyte _), sees_only k2 ho (hB.nostr _), sees_only k3 ho (fun o x _ hm => ?_)⟩
  rw [hs] at hm
  simp [intsV] at hm
/-- What a callee's error is, in the boxes. -/
def ToldE (w : World) (p b : Nat) (x : TreeB × ReplyB × Int) (e : Ending) (w' : World) : Prop := e = .returned (errV x.2.2) ∧
  w'.cell? ⟨w.heap.size + 1, 0, none⟩ = some (.int .i64 0) ∧ w'.cell? ⟨w.heap.size + 1, 1, none⟩ = some (.int .i64 0) ∧ w'.cell? ⟨w.heap.size + 1, 2, none⟩ = some (.int .i64 0) ∧ w'.cell? ⟨w.heap.size + 1, 3, none⟩ = some (.int .i64 0) ∧ w'.cell? ⟨w.heap.size + 1, 4, none⟩ = some (.int .i64 0) ∧ w'.cell? ⟨w.heap.size + 1, 5, none⟩ = some (.slice none 0 0) ∧ w'.cell? ⟨w.heap.size + 1, 6, none⟩ = some (.slice none 0 0) ∧ w'.cell? ⟨w.heap.size + 1, 7, none⟩ = some (.slice none 0 0) ∧ (∀ j, w'.frozen? ⟨w.heap.size + 1, j, none⟩ = false) ∧
  Hid (DTree w' p b x.1 ∧ Turn p b w w' ∧ RBox w' (w.heap.size + 1))
theorem told_e {w W w' : World} {o : OpB} {dv : Value} {p b : Nat} {x : TreeB × ReplyB × Int} {e : Ending} (h2 : Two w W o dv) (hp : p < w.heap.size) (hb : b < w.heap.size) (h : e = .returned (errV x.2.2) ∧ DTree w' p b x.1 ∧ Turn p b W w') : ToldE w p b x e w' := by
  obtain ⟨h1, h4, h5⟩ := h
  have hr := h2.2.1.turn h5 (by omega) (by omega)
  have rc := hr.c
  exact ⟨h1, rc.1, rc.2.1, rc.2.2.1, rc.2.2.2.1, rc.2.2.2.2.1, rc.2.2.2.2.2.1, rc.2.2.2.2.2.2.1, rc.2.2.2.2.2.2.2.1, rc.2.2.2.2.2.2.2.2.1, ⟨h4, (turn_below h2.2.2).trans h5, hr⟩⟩
theorem donFile_any (o : OpB) (ho : o.kind = 7 ∨ o.kind = 8 ∨ o.kind = 9) (da : Option Addr) (dc : Nat) (w : World) (p b : Nat) (t : TreeB) (hT : DTree w p b t) (hG : Good t) (hs1 : o.path.size ≤ maxLen) (hdv : Sees w (.slice da o.data.length dc) (intsV .u8 o.data)) :
    Calls Tryz.prog 65 #[.pointer (some ⟨p, 0, none⟩), .agg #[.int .i64 o.kind, .string o.path, .string o.to, .int .i64 o.off, .int .i64 o.n, .slice da o.data.length dc, .int .i64 o.snap]] w fun e w' => Told w p b (fileF t o (outFile t (findB t o.path))) e w' := by
  cases hq : outFile t (findB t o.path) with
  | error x => have := donFile_err o da dc w p b t hT hG hs1 hdv x hq; rw [hq] at this; exact this
  | ok k =>
    rcases ho with h | h | h
    · by_cases hr : o.off < 0 ∨ o.n < 0
      · have := donFile_r7 o da dc w p b t hT hG hs1 hdv k hq h hr; rw [hq] at this; exact this
      · have := donFile_read o da dc w p b t hT hG hs1 hdv k hq h hr; rw [hq] at this; exact this
    · by_cases hr : o.off < 0 ∨ o.off > 2000 - (o.data.length : Int)
      · have := donFile_r8 o da dc w p b t hT hG hs1 hdv k hq h hr; rw [hq] at this; exact this
      · have := donFile_write o da dc w p b t hT hG hs1 hdv k hq h hr; rw [hq] at this; exact this
    · by_cases hr : o.n < 0 ∨ 2000 < o.n
      · have := donFile_r9 o da dc w p b t hT hG hs1 hdv k hq h hr; rw [hq] at this; exact this
      · have := donFile_cut o da dc w p b t hT hG hs1 hdv k hq h hr; rw [hq] at this; exact this
end Go.Proofs.YtbebgobboccjcaaGreatDoor
/- Find behind a rename. (No walk of the program in it.) -/
namespace Go.Proofs.YtbebgobboccjcaaGreatDoor
open Go.RowKit Kit
set_option linter.unusedVariables false

theorem home_code2 {t : TreeB} {p : ByteArray} {x : Int} (h : homeB t p = .error x) : x ≠ 0 := by
  unfold homeB at h
  split at h
  · rename_i h1
    injection h with h
    rw [← h]; exact h1
  · split at h
    · rename_i e he
      injection h with h
      subst h
      have := find_code he
      omega
    · split at h
      · injection h with h
        omega
      · cases h
/-- A find by its walk. -/
theorem find_walk {t : TreeB} (h : Fair t) {p : ByteArray} (hp : (splitB p).2 = 0) : findB t p = walkB t 0 (splitB p).1 := by
  unfold findB
  rw [if_neg (by simp [hp]), h.rootP]
theorem walk_last {e : Int} {t : TreeB} (h : GoodE e t) {l : List ByteArray} {s : ByteArray} {d : Nat} (hw : walkB t 0 l = .ok d) : walkB t 0 (l ++ [s]) = walkB t d [s] := by
  have : ∀ (l : List ByteArray) (k d : Nat), walkB t k l = .ok d → walkB t k (l ++ [s]) = walkB t d [s] := by
    intro l
    induction l with
    | nil => intro k d hw; rw [walkB] at hw; injection hw with hw; subst hw; rfl
    | cons q r ih =>
      intro k d hw
      rw [walkB] at hw
      rw [List.cons_append, walkB]
      split at hw
      · cases hw
      · rename_i hk
        rw [if_neg hk]
        split at hw
        · cases hw
        · rename_i hn
          rw [if_neg hn]
          exact ih _ _ hw
  exact this l 0 d hw
/-- What a rename leaves. -/
theorem rename_finds {t : TreeB} (hG : Good t) (o : OpB) (h5 : o.kind = 5) (h0 : (doB t o).2.2 = 0) (hd0 : bytesIn o.data) :
    ∃ k, findB t o.path = .ok k ∧ k < t.nodes.length ∧ (∃ k2, findB (doB t o).1 o.to = .ok k2 ∧ k2 < (doB t o).1.nodes.length ∧ (nodeAt (doB t o).1 k2).ino = (nodeAt t k).ino) ∧
      (((doB t o).1 = t ∧ ∃ j, findB t o.to = .ok j ∧ (nodeAt t j).ino = (nodeAt t k).ino) ∨ (findB (doB t o).1 o.path = .error 5 ∧ ∀ j, findB t o.to = .ok j → (nodeAt t j).ino ≠ (nodeAt t k).ino)) := by
  have hGd := do_good hG o hd0
  have hdo : doB t o = renameB t o := by unfold doB; simp [h5]
  rw [hdo] at h0 hGd ⊢
  have ht := hG.e.fair
  -- the ways that are refused
  have hp1 : (parentB o.path).2.2 = 0 := by
    apply Decidable.byContradiction
    intro h
    unfold renameB at h0
    rw [if_pos h] at h0
    exact h h0
  have hp2 : (parentB o.to).2.2 = 0 := by
    apply Decidable.byContradiction
    intro h
    unfold renameB at h0
    rw [if_neg (by simp [hp1]), if_pos h] at h0
    exact h h0
  cases hf : findB t o.path with
  | error x =>
    exfalso
    unfold renameB at h0
    rw [if_neg (by simp [hp1]), if_neg (by simp [hp2]), hf] at h0
    simp only at h0
    have := find_code hf
    omega
  | ok k =>
    obtain ⟨p, old, lp, hhp, hsp, hwp, hpl, hpk, hnI, hn0⟩ := find_home hG.e hp1 hf
    obtain ⟨hs1, hwk, hkl⟩ := find_ok hG.e hf
    obtain ⟨r1, r2⟩ := rename_eq hG o hp1 hp2 hf hhp
    have hnu : ¬ ((nodeAt t k).kind = 2 ∧ o.to ≠ o.path ∧ underB o.to o.path = true) := fun h => by rw [r1 h] at h0; simp at h0
    obtain ⟨r3, r4⟩ := r2 hnu
    cases hh : homeB t o.to with
    | error x =>
      exfalso
      rw [r3 x hh] at h0
      exact home_code2 hh h0
    | ok ds =>
      obtain ⟨d, s⟩ := ds
      rw [r4 d s hh] at h0 hGd ⊢
      obtain ⟨hdl, hdk, hos, hoz, _, ld, hs2, hsd, hwd⟩ := home_ok hG.e hh
      have hft : findB t o.to = walkB t d [s] := by rw [find_walk ht hs2, hsd, walk_last hG.e hwd]
      refine ⟨k, rfl, hkl, ?_⟩
      have hfto : ∀ j, findB t o.to = .ok j → nameB (nodeAt t d) s = (nodeAt t j).ino := fun j hj => by
        obtain ⟨d', s', l', e1, e2, e3, e4, e5, e6, e7⟩ := find_home hG.e hp2 hj
        rw [hh] at e1
        injection e1 with e1
        injection e1 with e1 e8
        subst e1 e8
        exact e6
      by_cases hc1 : nameB (nodeAt t d) s = (nodeAt t k).ino
      · -- nothing moves
        have hc0 : nameB (nodeAt t d) s ≠ 0 := by rw [hc1, ← hnI]; exact hn0
        have hr : renT t k d s p old = (t, noReply, 0) := by unfold renT; rw [if_pos hc0, if_pos hc1]
        rw [hr]
        simp only
        obtain ⟨j, q1, q2, q3, _⟩ := ht.step hdl hc0
        have hfj : findB t o.to = .ok j := by
          rw [hft, walkB, if_neg (by omega), if_neg hc0, q1]
          rfl
        exact ⟨⟨j, hfj, q2, by rw [q3, hc1]⟩, .inl ⟨trivial, j, hfj, by rw [q3, hc1]⟩⟩
      · -- a name moves
        obtain ⟨I, hI⟩ : ∃ I, (nodeAt t k).ino = I := ⟨_, rfl⟩
        obtain ⟨T, hT⟩ : ∃ T, nameB (nodeAt t d) s = T := ⟨_, rfl⟩
        have hnIp : nameB (nodeAt t p) old = I := by rw [hnI, hI]
        have hI0 : I ≠ 0 := by rw [← hnIp]; exact hn0
        have hIT : I ≠ T := by rw [← hI, ← hT]; exact fun e => hc1 e.symm
        have hpd : ¬ (p = d ∧ old = s) := fun ⟨e1, e2⟩ => by subst e1 e2; exact hIT (by rw [← hnIp, hT])
        have hx : ∃ x, Gone t x d s T ∧ renT t k d s p old = (sweptB (movedB x p old d s I), noReply, 0) ∧ ∀ n ∈ t.nodes, n.ino = T → ∀ q, nameB n q = 0 := by
          by_cases hc0 : nameB (nodeAt t d) s = 0
          · refine ⟨t, ?_, ?_, ?_⟩
            · rw [← hT, hc0]; exact gone_none hG hdl hdk hc0
            · unfold renT; rw [if_neg (by simp [hc0]), hI]
            · intro n hn e
              have := ht.pos n hn
              rw [← hT, hc0] at e
              omega
          · have hr : renT t k d s p old = (sweptB (movedB (setB t d (withoutB (nodeAt t d) s)) p old d s I), noReply, 0) ∧ unlikeB (nodeAt t k).kind (nodeAt t ((placeO t (nameB (nodeAt t d) s)).getD 0)).kind (nodeAt t ((placeO t (nameB (nodeAt t d) s)).getD 0)).names.length = 0 := by
              unfold renT at h0 ⊢
              rw [if_pos hc0, if_neg hc1] at h0 ⊢
              by_cases hu : unlikeB (nodeAt t k).kind (nodeAt t ((placeO t (nameB (nodeAt t d) s)).getD 0)).kind (nodeAt t ((placeO t (nameB (nodeAt t d) s)).getD 0)).names.length = 0
              · rw [if_neg (by simp [hu]), hI]; exact ⟨rfl, hu⟩
              · rw [if_pos hu] at h0
                exact absurd h0 hu
            refine ⟨_, gone_there hG hdl hdk hT (by rw [← hT]; exact hc0), hr.1, ?_⟩
            obtain ⟨m, q1, q2, q3, _⟩ := ht.step hdl hc0
            have hz := unlike_none hr.2
            rw [q1] at hz
            simp only [Option.getD_some] at hz
            intro n hn e q
            have e2 : n = nodeAt t m := rises_eq ht.rise hn (nodeAt_mem q2) (by rw [e, q3, hT])
            apply Decidable.byContradiction
            intro hq
            obtain ⟨_, j, hj, _⟩ := nameB_some (ht.each n hn).len hq
            rw [e2] at hj
            omega
        obtain ⟨x, hx, hr, hTn⟩ := hx
        rw [hr] at hGd ⊢
        simp only at hGd ⊢
        obtain ⟨m1, m2, m3, m4, m5, m6, m7, _⟩ := moved_facts hG hpl hdl hpk hdk hnIp hI0 ⟨hos, hoz⟩ hpd hx
        obtain ⟨y, hy⟩ : ∃ y, movedB x p old d s I = y := ⟨_, rfl⟩
        rw [hy] at hGd m1 m2 m3 m4 m5 m6 m7 ⊢
        have hft' := hGd.e.fair
        have hstay : ∀ j, j < t.nodes.length → (nodeAt t j).ino ≠ T → ∃ j2, j2 < (sweptB y).nodes.length ∧ nodeAt (sweptB y) j2 = nodeAt y j := fun j hj hjT => swept_stays hG m1 m2 (fun j => (m3 j).1) m7 hft' hj hjT
        have hnT : ∀ j q, j < t.nodes.length → nameB (nodeAt t j) q ≠ 0 → (nodeAt t j).ino ≠ T := fun j q hj hn e => hn (hTn _ (nodeAt_mem hj) e q)
        have hroot : (nodeAt (sweptB y) 0).ino = (nodeAt t 0).ino := by rw [hft'.root0.2.1, ht.root0.2.1]
        -- a walk on which neither turned name lies
        have hwalk : ∀ (l : List ByteArray) (z : Nat), walkB t 0 l = .ok z → (∀ l1 q l2 yy, l = l1 ++ q :: l2 → walkB t 0 l1 = .ok yy → ¬ (yy = d ∧ q = s) ∧ ¬ (yy = p ∧ q = old)) → ∃ z2, walkB (sweptB y) 0 l = .ok z2 ∧ z2 < (sweptB y).nodes.length ∧ (nodeAt (sweptB y) z2).ino = (nodeAt t z).ino := fun l z hz H => by
          refine walk_keep ht hft' l 0 0 z ht.root0.1 hft'.root0.1 hroot hz (fun l1 q l2 yy el hyy hyl hyn hyk => ?_)
          obtain ⟨n1, n2⟩ := H l1 q l2 yy el hyy
          obtain ⟨y2, z1, z2⟩ := hstay yy hyl (hnT yy q hyl hyn)
          exact ⟨y2, z1, by rw [z2, (m3 yy).1], by rw [z2, (m3 yy).2, hyk], by rw [z2, m6 yy q n1 n2 hyn]⟩
        have hlong : ∀ (l l1 l2 : List ByteArray) (q : ByteArray), l = l1 ++ q :: l2 → l1 ≠ l := fun l l1 l2 q e e2 => by
          have := congrArg List.length e
          rw [e2] at this
          simp at this
        -- to the new home
        obtain ⟨d2, w1, w2, w3⟩ := hwalk ld d hwd (fun l1 q l2 yy el hyy => by
          refine ⟨fun ⟨e1, e2⟩ => ?_, fun ⟨e1, e2⟩ => ?_⟩
          · subst e1
            exact hlong _ _ _ _ el (walk_one hG.e l1 ld hyy hwd hdk)
          · subst e1 e2
            have e3 := walk_one hG.e l1 lp hyy hwp hpk
            subst e3
            apply hnu
            have hall : walkB t 0 (l1 ++ q :: l2) = .ok d := by rw [← el]; exact hwd
            have hsplit : l1 ++ q :: l2 = (splitB o.path).1 ++ l2 := by rw [hsp]; simp
            rw [hsplit] at hall
            obtain ⟨k', g1, g2⟩ := (walk_append hG.e _ l2 ht.root0.1).1 hall
            rw [hwk] at g1
            injection g1 with g1
            subst g1
            refine ⟨?_, fun e => ?_, ?_⟩
            · cases l2 with
              | nil => rw [walkB] at g2; injection g2 with g2; subst g2; exact hdk
              | cons q2 r2 => exact (step_ok hG.e hkl g2).1
            · have h1 := congrArg List.length hsd
              rw [e, hsp, el] at h1
              simp at h1
            · unfold underB
              refine decide_eq_true ⟨hs2, hs1, ?_⟩
              rw [hsd, el, hsplit, List.append_assoc, List.take_left])
        obtain ⟨dy, v1, v2⟩ := hstay d hdl (fun e => by
          by_cases hT0 : T = 0
          · have := ht.pos _ (nodeAt_mem hdl)
            omega
          · exact hT0 (by rw [← hT]; exact hTn _ (nodeAt_mem hdl) e s))
        have ed : dy = d2 := rises_inj hft'.rise v1 w2 (by rw [v2, w3, (m3 d).1])
        subst ed
        -- to the old home
        obtain ⟨p2, u1, u2, u3⟩ := hwalk lp p hwp (fun l1 q l2 yy el hyy => by
          refine ⟨fun ⟨e1, e2⟩ => ?_, fun ⟨e1, e2⟩ => ?_⟩
          · subst e1 e2
            have hall : walkB t 0 (l1 ++ q :: l2) = .ok p := by rw [← el]; exact hwp
            obtain ⟨yy', g1, g2⟩ := (walk_append hG.e l1 (q :: l2) ht.root0.1).1 hall
            rw [hyy] at g1
            injection g1 with g1
            subst g1
            obtain ⟨_, m', hm', hpl', hn', hi', _, hw'⟩ := step_ok hG.e hdl g2
            have hmT : (nodeAt t m').ino = T := by rw [hi', hT]
            cases l2 with
            | nil =>
              rw [walkB] at hw'
              injection hw' with hw'
              subst hw'
              exact hnT _ old hpl (by rw [hnIp]; exact hI0) hmT
            | cons q2 r2 =>
              obtain ⟨_, _, _, _, hn2, _⟩ := step_ok hG.e hm' hw'
              exact hnT _ q2 hm' hn2 hmT
          · subst e1
            exact hlong _ _ _ _ el (walk_one hG.e l1 lp hyy hwp hpk))
        obtain ⟨py, t1, t2⟩ := hstay p hpl (hnT p old hpl (by rw [hnIp]; exact hI0))
        have ep : py = p2 := rises_inj hft'.rise t1 u2 (by rw [t2, u3, (m3 p).1])
        subst ep
        refine ⟨?_, .inr ⟨?_, fun j hj => ?_⟩⟩
        · have hnm : nameB (nodeAt (sweptB y) dy) s = I := by rw [v2]; exact m4
          obtain ⟨k2, q1, q2, q3, _⟩ := hft'.step v1 (s := s) (by rw [hnm]; exact hI0)
          refine ⟨k2, ?_, q2, by rw [q3, hnm, hI]⟩
          rw [find_walk hft' hs2, hsd, walk_last hGd.e w1, walkB, if_neg (by rw [v2, (m3 d).2, hdk]; simp), if_neg (by rw [hnm]; exact hI0), q1]
          rfl
        · rw [find_walk hft' hs1, hsp, walk_last hGd.e u1, walkB, if_neg (by rw [t2, (m3 p).2, hpk]; simp), if_pos (by rw [t2]; exact m5)]
        · rw [← hfto j hj, hT, hI]; exact fun e => hIT e.symm
end Go.Proofs.YtbebgobboccjcaaGreatDoor
/- A directory behind a rename. (No walk of the program in it.) -/
namespace Go.Proofs.YtbebgobboccjcaaGreatDoor
open Go.RowKit Kit
set_option linter.unusedVariables false

/-- A directory that is renamed keeps its names. -/
theorem rename_moves {t : TreeB} (hG : Good t) (o : OpB) (h5 : o.kind = 5) (h0 : (doB t o).2.2 = 0) (hd0 : bytesIn o.data) {k0 : Nat} (hf0 : findB t o.path = .ok k0) (hk0 : (nodeAt t k0).kind = 2) :
    ∃ j, j < (doB t o).1.nodes.length ∧ nodeAt (doB t o).1 j = nodeAt t k0 := by
  have hGd := do_good hG o hd0
  have hdo : doB t o = renameB t o := by unfold doB; simp [h5]
  rw [hdo] at h0 hGd ⊢
  have ht := hG.e.fair
  -- the ways that are refused
  have hp1 : (parentB o.path).2.2 = 0 := by
    apply Decidable.byContradiction
    intro h
    unfold renameB at h0
    rw [if_pos h] at h0
    exact h h0
  have hp2 : (parentB o.to).2.2 = 0 := by
    apply Decidable.byContradiction
    intro h
    unfold renameB at h0
    rw [if_neg (by simp [hp1]), if_pos h] at h0
    exact h h0
  cases hf : findB t o.path with
  | error x =>
    exfalso
    unfold renameB at h0
    rw [if_neg (by simp [hp1]), if_neg (by simp [hp2]), hf] at h0
    simp only at h0
    have := find_code hf
    omega
  | ok k =>
    have ekk : k = k0 := by rw [hf0] at hf; injection hf with hf; exact hf.symm
    subst ekk
    obtain ⟨p, old, lp, hhp, hsp, hwp, hpl, hpk, hnI, hn0⟩ := find_home hG.e hp1 hf
    obtain ⟨hs1, hwk, hkl⟩ := find_ok hG.e hf
    obtain ⟨r1, r2⟩ := rename_eq hG o hp1 hp2 hf hhp
    have hnu : ¬ ((nodeAt t k).kind = 2 ∧ o.to ≠ o.path ∧ underB o.to o.path = true) := fun h => by rw [r1 h] at h0; simp at h0
    obtain ⟨r3, r4⟩ := r2 hnu
    cases hh : homeB t o.to with
    | error x =>
      exfalso
      rw [r3 x hh] at h0
      exact home_code2 hh h0
    | ok ds =>
      obtain ⟨d, s⟩ := ds
      rw [r4 d s hh] at h0 hGd ⊢
      obtain ⟨hdl, hdk, hos, hoz, _, ld, hs2, hsd, hwd⟩ := home_ok hG.e hh
      have hft : findB t o.to = walkB t d [s] := by rw [find_walk ht hs2, hsd, walk_last hG.e hwd]
      have hfto : ∀ j, findB t o.to = .ok j → nameB (nodeAt t d) s = (nodeAt t j).ino := fun j hj => by
        obtain ⟨d', s', l', e1, e2, e3, e4, e5, e6, e7⟩ := find_home hG.e hp2 hj
        rw [hh] at e1
        injection e1 with e1
        injection e1 with e1 e8
        subst e1 e8
        exact e6
      by_cases hc1 : nameB (nodeAt t d) s = (nodeAt t k).ino
      · -- nothing moves
        have hc0 : nameB (nodeAt t d) s ≠ 0 := by rw [hc1, ← hnI]; exact hn0
        have hr : renT t k d s p old = (t, noReply, 0) := by unfold renT; rw [if_pos hc0, if_pos hc1]
        rw [hr]
        simp only
        exact ⟨k, hkl, rfl⟩
      · -- a name moves
        obtain ⟨I, hI⟩ : ∃ I, (nodeAt t k).ino = I := ⟨_, rfl⟩
        obtain ⟨T, hT⟩ : ∃ T, nameB (nodeAt t d) s = T := ⟨_, rfl⟩
        have hnIp : nameB (nodeAt t p) old = I := by rw [hnI, hI]
        have hI0 : I ≠ 0 := by rw [← hnIp]; exact hn0
        have hIT : I ≠ T := by rw [← hI, ← hT]; exact fun e => hc1 e.symm
        have hpd : ¬ (p = d ∧ old = s) := fun ⟨e1, e2⟩ => by subst e1 e2; exact hIT (by rw [← hnIp, hT])
        have hx : ∃ x, Gone t x d s T ∧ renT t k d s p old = (sweptB (movedB x p old d s I), noReply, 0) ∧ ∀ n ∈ t.nodes, n.ino = T → ∀ q, nameB n q = 0 := by
          by_cases hc0 : nameB (nodeAt t d) s = 0
          · refine ⟨t, ?_, ?_, ?_⟩
            · rw [← hT, hc0]; exact gone_none hG hdl hdk hc0
            · unfold renT; rw [if_neg (by simp [hc0]), hI]
            · intro n hn e
              have := ht.pos n hn
              rw [← hT, hc0] at e
              omega
          · have hr : renT t k d s p old = (sweptB (movedB (setB t d (withoutB (nodeAt t d) s)) p old d s I), noReply, 0) ∧ unlikeB (nodeAt t k).kind (nodeAt t ((placeO t (nameB (nodeAt t d) s)).getD 0)).kind (nodeAt t ((placeO t (nameB (nodeAt t d) s)).getD 0)).names.length = 0 := by
              unfold renT at h0 ⊢
              rw [if_pos hc0, if_neg hc1] at h0 ⊢
              by_cases hu : unlikeB (nodeAt t k).kind (nodeAt t ((placeO t (nameB (nodeAt t d) s)).getD 0)).kind (nodeAt t ((placeO t (nameB (nodeAt t d) s)).getD 0)).names.length = 0
              · rw [if_neg (by simp [hu]), hI]; exact ⟨rfl, hu⟩
              · rw [if_pos hu] at h0
                exact absurd h0 hu
            refine ⟨_, gone_there hG hdl hdk hT (by rw [← hT]; exact hc0), hr.1, ?_⟩
            obtain ⟨m, q1, q2, q3, _⟩ := ht.step hdl hc0
            have hz := unlike_none hr.2
            rw [q1] at hz
            simp only [Option.getD_some] at hz
            intro n hn e q
            have e2 : n = nodeAt t m := rises_eq ht.rise hn (nodeAt_mem q2) (by rw [e, q3, hT])
            apply Decidable.byContradiction
            intro hq
            obtain ⟨_, j, hj, _⟩ := nameB_some (ht.each n hn).len hq
            rw [e2] at hj
            omega
        obtain ⟨x, hx, hr, hTn⟩ := hx
        rw [hr] at hGd ⊢
        simp only at hGd ⊢
        obtain ⟨m1, m2, m3, m4, m5, m6, m7, m8⟩ := moved_facts hG hpl hdl hpk hdk hnIp hI0 ⟨hos, hoz⟩ hpd hx
        obtain ⟨y, hy⟩ : ∃ y, movedB x p old d s I = y := ⟨_, rfl⟩
        rw [hy] at hGd m1 m2 m3 m4 m5 m6 m7 m8 ⊢
        have hft' := hGd.e.fair
        have hstay : ∀ j, j < t.nodes.length → (nodeAt t j).ino ≠ T → ∃ j2, j2 < (sweptB y).nodes.length ∧ nodeAt (sweptB y) j2 = nodeAt y j := fun j hj hjT => swept_stays hG m1 m2 (fun j => (m3 j).1) m7 hft' hj hjT
        have hnT : ∀ j q, j < t.nodes.length → nameB (nodeAt t j) q ≠ 0 → (nodeAt t j).ino ≠ T := fun j q hj hn e => hn (hTn _ (nodeAt_mem hj) e q)
        have hroot : (nodeAt (sweptB y) 0).ino = (nodeAt t 0).ino := by rw [hft'.root0.2.1, ht.root0.2.1]
        have hkp : k ≠ p := fun e => by
          subst e
          have := walk_one hG.e lp (splitB o.path).1 hwp hwk hpk
          rw [hsp] at this
          have := congrArg List.length this
          simp at this
        have hkd : k ≠ d := fun e => by
          subst e
          apply hnu
          have e3 := walk_one hG.e ld (splitB o.path).1 hwd hwk hdk
          refine ⟨hdk, fun e => ?_, ?_⟩
          · have h1 := congrArg List.length hsd
            rw [e, ← e3] at h1
            simp at h1
          · unfold underB
            refine decide_eq_true ⟨hs2, hs1, ?_⟩
            rw [hsd, ← e3, List.take_left]
        obtain ⟨j2, z1, z2⟩ := hstay k hkl (by rw [hI]; exact hIT)
        exact ⟨j2, z1, by rw [z2, m8 k hkp hkd, hx.same k hkd]⟩
/-- Into itself it can't go. -/
theorem rename_loop {t : TreeB} (hG : Good t) (o : OpB) (h5 : o.kind = 5) {k : Nat} (hf : findB t o.path = .ok k) (hk : (nodeAt t k).kind = 2) (hr : o.path ≠ ⟨#[47]⟩) (hu : underB o.to o.path = true) (hne : o.to ≠ o.path) : doB t o = (t, noReply, 10) := by
  have hdo : doB t o = renameB t o := by unfold doB; simp [h5]
  rw [hdo]
  obtain ⟨hs1, hwk, hkl⟩ := find_ok hG.e hf
  have hu2 := of_decide_eq_true hu
  have hl0 : (splitB o.path).1.length ≠ 0 := fun e => by
    apply hr
    rw [← join_split hs1, List.eq_nil_of_length_eq_zero e]
    rfl
  have hl1 : (splitB o.to).1.length ≠ 0 := fun e => by
    have h1 := congrArg List.length hu2.2.2
    rw [List.length_take] at h1
    omega
  have hp1 : (parentB o.path).2.2 = 0 := by
    unfold parentB
    rw [if_neg (by simp [hs1]), if_neg hl0]
  have hp2 : (parentB o.to).2.2 = 0 := by
    unfold parentB
    rw [if_neg (by simp [hu2.1]), if_neg hl1]
  unfold renameB
  rw [if_neg (by simp [hp1]), if_neg (by simp [hp2]), hf]
  simp only
  rw [if_pos ⟨hk, hne, hu⟩]
end Go.Proofs.YtbebgobboccjcaaGreatDoor
