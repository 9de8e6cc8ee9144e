/- Several texts in one: DLink DReply DCreate DLooks DMadeZ DOnFileA DOnFileC DRemove DRen5 DRename TCodes TLinks THome TBuild TTurn. -/
import Derived.Test.YtbebgobboccjcaaGreatDoorPDName
import Derived.Test.YtbebgobboccjcaaGreatDoorH2
import Derived.Test.YtbebgobboccjcaaGreatDoorH1
import Derived.Deep.RegionWith
import Derived.Deep.RegionLaw
namespace Go.Proofs.YtbebgobboccjcaaGreatDoor
open Go.RowKit Kit
set_option linter.unusedVariables false

theorem links_eq {t : TreeB} (h : Good t) {k : Nat} (hk : k < t.nodes.length) : linksD t (nodeAt t k).ino = linksB t (nodeAt t k).ino := by
 unfold linksD
 by_cases e : (nodeAt t k).ino = 1
 · rw [if_pos e, e, links_root h.e]
 · rw [if_neg e, links_kids h.e (nodeAt_mem hk) e]
set_option maxRecDepth 4000 in
set_option maxHeartbeats 8000000 in
theorem dlink_any (o : OpB) (w : World) (p b : Nat) (t : TreeB) (hT : DTree w p b t) (hG : Good t) (hs1 : o.path.size ≤ maxLen) (hs2 : o.to.size ≤ maxLen) :
 Calls Tryz.prog 64 #[.pointer (some ⟨p, 0, none⟩), .string o.path, .string o.to] w fun e w' => e = .returned (errV (linkB t o).2.2) ∧ DTree w' p b (linkB t o).1 ∧ Turn p b w w' := by
 have ht := hG.e.fair
 have HX : Hid (Calls Tryz.prog 96 _ _ _) := nparent_any o.to w hs2
 have HFi : Hid (∀ W, Below w.heap.size w W → _) := fun W hW => dfile_any o.path W p b t (hT.below hW) ht hs1
 have HFr : Hid (∀ W, Below w.heap.size w W → _) := fun W hW => dfree_any o.to W p b t (hT.below hW) ht hs2
 have HT : Hid (DTree w p b t ∧ Good t) := ⟨hT, hG⟩
 have HL : Hid (linkB t o = if (parentB o.to).2.2 ≠ 0 then (t, noReply, (parentB o.to).2.2) else match findB t o.path with
  | .error e => (t, noReply, e)
  | .ok k => if (nodeAt t k).kind = 2 then (t, noReply, 7) else match homeB t o.to with
    | .error e => (t, noReply, e)
    | .ok (d, s) => if nameB (nodeAt t d) s ≠ 0 then (t, noReply, 6) else if 20 ≤ linksB t (nodeAt t k).ino then (t, noReply, 16)
      else (setB t d (withB (nodeAt t d) s (nodeAt t k).ino), noReply, 0)) := rfl
 obtain ⟨⟨d0, q0, e0⟩, he⟩ : ∃ x, parentB o.to = x := ⟨_, rfl⟩
 rw [he] at HX HL
 simp only at HX HL
 obtain ⟨f, hf⟩ : ∃ f, findB t o.path = f := ⟨_, rfl⟩
 have HF0 : Hid (findB t o.path = f) := hf
 rw [hf] at HFi HL
 obtain ⟨h, hh⟩ : ∃ h, homeB t o.to = h := ⟨_, rfl⟩
 have HH0 : Hid (homeB t o.to = h) := hh
 rw [hh] at HFr HL
 obtain ⟨r, hr⟩ : ∃ r, linkB t o = r := ⟨_, rfl⟩
 rw [hr] at HL ⊢
 clear hs1 hs2 he hf hh hr hT hG ht
 by_cases hp0 : e0 = 0
 case neg =>
  have HR : Hid (r = (t, noReply, e0)) := by show _ = _; rw [HL.out, if_pos hp0]
  have HE : Hid (errV e0 = .iface 80 (.int .i64 e0)) := errV_ne hp0
  rw [errV_ne hp0] at HX
  clear HL hp0
  go_enter Tryz.func64, Tryz.ntmps64
  go_wp2_with fail
  go_at_call 96
  refine HX.out.mono ?_
  rintro e w1 ⟨rfl, hb1⟩
  have H1 : Hid (Below w.heap.size w w1) := hb1
  clear hb1 HX
  go_wp2
  go_ret
  rw [HR.out]
  exact ⟨by rw [HE.out]; rfl, HT.out.1.below H1.out, turn_below H1.out⟩
 subst hp0
 have e00 : errV 0 = .nilIface := rfl
 rw [e00] at HX
 have HL1 : Hid (r = match (generalizing := false) f with
  | .error e => (t, noReply, e)
  | .ok k => if (nodeAt t k).kind = 2 then (t, noReply, 7) else match (generalizing := false) h with
    | .error e => (t, noReply, e)
    | .ok (d, s) => if nameB (nodeAt t d) s ≠ 0 then (t, noReply, 6) else if 20 ≤ linksB t (nodeAt t k).ino then (t, noReply, 16)
      else (setB t d (withB (nodeAt t d) s (nodeAt t k).ino), noReply, 0)) := by show _ = _; rw [HL.out, if_neg (by simp)]
 clear HL
 -- what the file's finding says
 obtain ⟨q, hq⟩ : ∃ q, outFile t f = q := ⟨_, rfl⟩
 rw [hq] at HFi
 cases q with
 | error x =>
   have hx : x ≠ 0 := by
    cases f with
    | error y => simp only [outFile] at hq; injection hq with hq; rw [← hq]; exact find_code' HF0.out
    | ok k =>
      simp only [outFile] at hq
      split at hq
      · injection hq with hq; omega
      · cases hq
   have HR : Hid (r = (t, noReply, x)) := by
    show _ = _
    rw [HL1.out]
    cases f with
    | error y => simp only [outFile] at hq; injection hq with hq; rw [hq]
    | ok k =>
      simp only [outFile] at hq
      split at hq
      · rename_i h2; injection hq with hq; simp only; rw [if_pos h2, hq]
      · cases hq
   have HE : Hid (errV x = .iface 80 (.int .i64 x)) := errV_ne hx
   simp only [outW2] at HFi
   rw [errV_ne hx] at HFi
   clear HL1 hx hq e00
   go_enter Tryz.func64, Tryz.ntmps64
   go_wp2_with fail
   go_at_call 96
   refine HX.out.mono ?_
   rintro e w1 ⟨rfl, hb1⟩
   have H1 : Hid (Below w.heap.size w w1) := hb1
   clear hb1 HX
   go_wp2_with fail
   go_at_call 102
   refine (HFi.out w1 H1.out).mono ?_
   rintro e w2 ⟨rfl, hb2⟩
   have H2 : Hid (Below w.heap.size w w2) := bel2v H1.out hb2
   clear hb2 HFi H1
   go_wp2
   go_ret
   rw [HR.out]
   exact ⟨by rw [HE.out]; rfl, HT.out.1.below H2.out, turn_below H2.out⟩
 | ok k =>
   obtain ⟨hfk, hkk⟩ : f = .ok k ∧ (nodeAt t k).kind ≠ 2 := by
    cases f with
    | error y => simp only [outFile] at hq; cases hq
    | ok k' =>
      simp only [outFile] at hq
      split at hq
      · cases hq
      · rename_i h2; injection hq with hq; subst hq; exact ⟨rfl, h2⟩
   subst hfk
   have hk := find_lt HT.out.2.e.fair HF0.out
   have HL2 : Hid (r = match (generalizing := false) h with
    | .error e => (t, noReply, e)
    | .ok (d, s) => if nameB (nodeAt t d) s ≠ 0 then (t, noReply, 6) else if 20 ≤ linksB t (nodeAt t k).ino then (t, noReply, 16)
      else (setB t d (withB (nodeAt t d) s (nodeAt t k).ino), noReply, 0)) := by show _ = _; rw [HL1.out]; simp only; rw [if_neg hkk]
   clear HL1
   simp only [outW2] at HFi
   rw [e00] at HFi
   have hlk := links_eq HT.out.2 hk
   have HLN : Hid (∀ W, Below w.heap.size w W → _) := fun W hW => dlinks_any (nodeAt t k).ino W p b t (HT.out.1.below hW) HT.out.2.e.fair
   have HSM : Hid (linksD t (nodeAt t k).ino ≤ 610000) := by
    have := HT.out.2.e.fair.kids_small (nodeAt t k).ino
    show linksD _ _ ≤ _
    unfold linksD
    split <;> omega
   obtain ⟨L, hL⟩ : ∃ L, linksD t (nodeAt t k).ino = L := ⟨_, rfl⟩
   rw [hL] at HLN HSM
   rw [← hlk, hL] at HL2
   obtain ⟨q2, hq2⟩ : ∃ q, outF t h = q := ⟨_, rfl⟩
   rw [hq2] at HFr
   have Hino : Hid (∃ ii, (nodeAt t k).ino = ii) := ⟨_, rfl⟩
   cases q2 with
   | error x =>
     have hx : x ≠ 0 := by
      cases h with
      | error y => simp only [outF] at hq2; injection hq2 with hq2; rw [← hq2]; exact home_code' HH0.out
      | ok ds =>
        obtain ⟨d, s⟩ := ds
        simp only [outF] at hq2
        split at hq2
        · injection hq2 with hq2; omega
        · cases hq2
     have HR : Hid (r = (t, noReply, x)) := by
      show _ = _
      rw [HL2.out]
      cases h with
      | error y => simp only [outF] at hq2; injection hq2 with hq2; rw [hq2]
      | ok ds =>
        obtain ⟨d, s⟩ := ds
        simp only [outF] at hq2
        split at hq2
        · rename_i h2; injection hq2 with hq2; simp only; rw [if_pos h2, hq2]
        · cases hq2
     have HE : Hid (errV x = .iface 80 (.int .i64 x)) := errV_ne hx
     simp only [outP] at HFr
     rw [errV_ne hx] at HFr
     obtain ⟨ii, hii⟩ := Hino.out
     rw [hii] at HFi
     clear HL2 hx hq e00 hq2 hkk hlk hL HLN hii Hino
     go_enter Tryz.func64, Tryz.ntmps64
     go_wp2_with fail
     go_at_call 96
     refine HX.out.mono ?_
     rintro e w1 ⟨rfl, hb1⟩
     have H1 : Hid (Below w.heap.size w w1) := hb1
     clear hb1 HX
     go_wp2_with fail
     go_at_call 102
     refine (HFi.out w1 H1.out).mono ?_
     rintro e w2 ⟨rfl, hb2⟩
     have H2 : Hid (Below w.heap.size w w2) := bel2v H1.out hb2
     clear hb2 HFi H1
     go_wp2_with fail
     go_at_call 94
     refine (HFr.out w2 H2.out).mono ?_
     rintro e w3 ⟨rfl, hb3⟩
     have H3 : Hid (Below w.heap.size w w3) := bel2v H2.out hb3
     clear hb3 HFr H2
     go_wp2
     go_ret
     rw [HR.out]
     exact ⟨by rw [HE.out]; rfl, HT.out.1.below H3.out, turn_below H3.out⟩
   | ok ds =>
     obtain ⟨d, s⟩ := ds
     obtain ⟨hfk, hn0⟩ : h = .ok (d, s) ∧ nameB (nodeAt t d) s = 0 := by
      cases h with
      | error y => simp only [outF] at hq2; cases hq2
      | ok ds' =>
        obtain ⟨d', s'⟩ := ds'
        simp only [outF] at hq2
        split at hq2
        · cases hq2
        · rename_i h2
          injection hq2 with hq2
          injection hq2 with e1 e2
          subst e1 e2
          exact ⟨rfl, Decidable.byContradiction h2⟩
     subst hfk
     obtain ⟨hd, hdk, o1, o2, _⟩ := home_ok HT.out.2.e HH0.out
     have hfr := name_free HT.out.2.e hd hdk hn0
     have HL3 : Hid (r = if 20 ≤ L then (t, noReply, 16) else (setB t d (withB (nodeAt t d) s (nodeAt t k).ino), noReply, 0)) := by show _ = _; rw [HL2.out]; simp only; rw [if_neg (by simp [hn0])]
     clear HL2
     have HN : Hid (∀ W, Below w.heap.size w W → _) := fun W hW => dname_any s (nodeAt t k).ino W p b t d (HT.out.1.below hW) HT.out.2.e.fair hd hdk hfr o2
     simp only [outP] at HFr
     rw [e00] at HFr
     obtain ⟨ii, hii⟩ := Hino.out
     obtain ⟨jj, hjj⟩ : ∃ jj, (nodeAt t d).ino = jj := ⟨_, rfl⟩
     rw [hii] at HFi HLN HN HL3
     rw [hjj] at HFr HN
     clear hq e00 hq2 hkk hlk hL hii Hino hn0 hd hdk o1 o2 hfr hjj
     go_enter Tryz.func64, Tryz.ntmps64
     go_wp2_with fail
     go_at_call 96
     refine HX.out.mono ?_
     rintro e w1 ⟨rfl, hb1⟩
     have H1 : Hid (Below w.heap.size w w1) := hb1
     clear hb1 HX
     go_wp2_with fail
     go_at_call 102
     refine (HFi.out w1 H1.out).mono ?_
     rintro e w2 ⟨rfl, hb2⟩
     have H2 : Hid (Below w.heap.size w w2) := bel2v H1.out hb2
     clear hb2 HFi H1
     go_wp2_with fail
     go_at_call 94
     refine (HFr.out w2 H2.out).mono ?_
     rintro e w3 ⟨rfl, hb3⟩
     have H3 : Hid (Below w.heap.size w w3) := bel2v H2.out hb3
     clear hb3 HFr H2
     go_wp2_with fail
     go_at_call 29
     refine (HLN.out w3 H3.out).mono ?_
     rintro e w4 ⟨rfl, hb4⟩
     have H4 : Hid (Below w.heap.size w w4) := bel2v H3.out hb4
     clear hb4 HLN H3
     by_cases h20 : 20 ≤ L
     · have HR : Hid (r = (t, noReply, 16)) := by show _ = _; rw [HL3.out, if_pos h20]
       have h20i : (L : Int) ≥ 20 := by omega
       clear HL3 h20 HN
       go_wp2
       go_ret
       rw [HR.out]
       exact ⟨rfl, HT.out.1.below H4.out, turn_below H4.out⟩
     · have HR : Hid (r = (setB t d (withB (nodeAt t d) s ii), noReply, 0)) := by show _ = _; rw [HL3.out, if_neg h20]
       have h20i : ¬ (L : Int) ≥ 20 := by omega
       clear HL3 h20
       go_wp2_with fail
       go_at_call 95
       refine (HN.out w4 H4.out).mono ?_
       rintro e w5 ⟨rfl, hd5, ht5⟩
       have H5 : Hid (DTree w5 p b (setB t d (withB (nodeAt t d) s ii)) ∧ Turn p b w w5) := ⟨hd5, (turn_below H4.out).trans ht5⟩
       clear hd5 ht5 HN H4
       go_wp2
       go_ret
       rw [HR.out]
       exact ⟨rfl, H5.out⟩
end Go.Proofs.YtbebgobboccjcaaGreatDoor
namespace Go.Proofs.YtbebgobboccjcaaGreatDoor
open Go.RowKit Kit
set_option linter.unusedVariables false

def RBox (w : World) (B : Nat) : Prop := w.heap[B]? = some (.cells #[.int .i64 0, .int .i64 0, .int .i64 0, .int .i64 0, .int .i64 0, .slice none 0 0, .slice none 0 0, .slice none 0 0] 40)
theorem RBox.c {w : World} {B : Nat} (h : RBox w B) : w.cell? ⟨B, 0, none⟩ = some (.int .i64 0) ∧ w.cell? ⟨B, 1, none⟩ = some (.int .i64 0) ∧ w.cell? ⟨B, 2, none⟩ = some (.int .i64 0) ∧ w.cell? ⟨B, 3, none⟩ = some (.int .i64 0) ∧ w.cell? ⟨B, 4, none⟩ = some (.int .i64 0) ∧ w.cell? ⟨B, 5, none⟩ = some (.slice none 0 0) ∧ w.cell? ⟨B, 6, none⟩ = some (.slice none 0 0) ∧ w.cell? ⟨B, 7, none⟩ = some (.slice none 0 0) ∧ (∀ j, w.frozen? ⟨B, j, none⟩ = false) ∧ B < w.heap.size := by
 have hl := (Array.getElem?_eq_some_iff.1 h).1
 unfold RBox at h
 refine ⟨?_, ?_, ?_, ?_, ?_, ?_, ?_, ?_, ?_, hl⟩ <;> simp [World.cell?, World.frozen?, h]
theorem rbox_new (w : World) : RBox (w.alloc (.cells #[.int .i64 0, .int .i64 0, .int .i64 0, .int .i64 0, .int .i64 0, .slice none 0 0, .slice none 0 0, .slice none 0 0] 40)) w.heap.size := (MapKept.heap_alloc w _).1
theorem RBox.below {w w' : World} {B : Nat} (h : RBox w B) (hb : Below w.heap.size w w') : RBox w' B := (hb.block B h.c.2.2.2.2.2.2.2.2.2).trans h
theorem RBox.turn {w w' : World} {B p b : Nat} (h : RBox w B) (ht : Turn p b w w') (hp : B ≠ p) (hb : B ≠ b) : RBox w' B := (ht.block B h.c.2.2.2.2.2.2.2.2.2 hp hb).trans h
theorem RBox.cell {w : World} {B : Nat} (h : RBox w B) (o : Nat) (x : Value) (hx : w.cell? ⟨B, o, none⟩ = some x) : x = .int .i64 0 ∨ x = .slice none 0 0 := by
 unfold RBox at h
 simp only [World.cell?, h] at hx
 match o with
 | 0 => simp at hx; exact .inl hx.symm
 | 1 => simp at hx; exact .inl hx.symm
 | 2 => simp at hx; exact .inl hx.symm
 | 3 => simp at hx; exact .inl hx.symm
 | 4 => simp at hx; exact .inl hx.symm
 | 5 => simp at hx; exact .inr hx.symm
 | 6 => simp at hx; exact .inr hx.symm
 | 7 => simp at hx; exact .inr hx.symm
 | o + 8 => simp at hx
structure Only (B : Nat) (w w' : World) : Prop where
 os : w'.os = w.os
 tape : w'.tape = w.tape
 output : w'.output = w.output
 size : w.heap.size ≤ w'.heap.size
 block : ∀ k, k < w.heap.size → k ≠ B → w'.heap[k]? = w.heap[k]?
theorem only_set (B : Nat) (w : World) (o : Nat) (v : Value) : Only B w (w.setCell ⟨B, o, none⟩ v) := ⟨rfl, rfl, rfl, by simp [World.setCell], fun k _ h => Below.heap_setCell _ _ _ k h⟩
theorem Only.trans {B : Nat} {w w1 w2 : World} (h : Only B w w1) (k : Only B w1 w2) : Only B w w2 :=
 ⟨k.os.trans h.os, k.tape.trans h.tape, k.output.trans h.output, Nat.le_trans h.size k.size, fun i h1 h2 => (k.block i (Nat.lt_of_lt_of_le h1 h.size) h2).trans (h.block i h1 h2)⟩
theorem sees_only {w w' : World} {B : Nat} {v : Value} {xs : List Value} (h : Sees w v xs) (ho : Only B w w') (hne : ∀ o x, w.cell? ⟨B, o, none⟩ = some x → x ∉ xs) : Sees w' v xs := by
 obtain ⟨ao, cap, h1, h2, h3, h4, h5⟩ := h
 refine ⟨ao, cap, h1, h2, h3, h4, fun h0 => ?_⟩
 obtain ⟨g, off, e, hl, hh⟩ := h5 h0
 have h00 := hh 0 _ (List.getElem?_eq_getElem h0)
 have hB : g ≠ B := fun e2 => by
  subst e2
  exact hne _ _ h00 (List.getElem_mem h0)
 refine ⟨g, off, e, Nat.lt_of_lt_of_le hl ho.size, fun i x hx => ?_⟩
 rw [← hh i x hx]
 simp only [World.cell?, ho.block g hl hB]
theorem seesS_only {w w' : World} {B : Nat} {v : Value} {ps : List (ByteArray × Int)} (h : SeesS w v ps) (ho : Only B w w') (hne : ∀ o s, w.cell? ⟨B, o, none⟩ ≠ some (.string s)) : SeesS w' v ps := by
 obtain ⟨ao, cap, h1, h2, h3, h4, h5⟩ := h
 refine ⟨ao, cap, h1, h2, h3, h4, fun h0 => ?_⟩
 obtain ⟨g, off, e, hl, hh⟩ := h5 h0
 have h00 := (at2_of hh h0).1
 have hB : g ≠ B := fun e2 => by
  subst e2
  exact hne _ _ h00
 refine ⟨g, off, e, Nat.lt_of_lt_of_le hl ho.size, fun i x hx => ?_⟩
 rw [← hh i x hx]
 simp only [World.cell?, ho.block g hl hB]
theorem DTree.only {w w' : World} {p b B : Nat} {t : TreeB} (h : DTree w p b t) (ho : Only B w w') (hB : RBox w B) (hp : B ≠ p) (hb : B ≠ b) : DTree w' p b t := by
 obtain ⟨ds, hd, hn⟩ := h
 refine ⟨ds, ⟨(ho.block p hd.lt.1 (Ne.symm hp)).trans hd.1, hd.2.1.block (ho.block b hd.lt.2 (Ne.symm hb)), fun f hf => ⟨sees_only (hd.2.2 f hf).1 ho (fun o x hx hm => ?_), seesS_only (hd.2.2 f hf).2 ho (fun o s hx => ?_)⟩⟩, hn⟩
 · unfold intsV at hm
   obtain ⟨y, _, e⟩ := List.mem_map.1 hm
   rcases hB.cell o x hx with e2 | e2
   · rw [e2] at e; cases e
   · rw [e2] at e; cases e
 · rcases hB.cell o _ hx with e2 | e2 <;> cases e2
theorem turn_only {w w1 w2 : World} {p b B : Nat} (h : Turn p b w w1) (ho : Only B w1 w2) (hB : w.heap.size ≤ B) : Turn p b w w2 :=
 ⟨ho.os.trans h.os, ho.tape.trans h.tape, ho.output.trans h.output, Nat.le_trans h.size ho.size, fun k h1 h2 h3 => (ho.block k (Nat.lt_of_lt_of_le h1 h.size) (by omega)).trans (h.block k h1 h2 h3)⟩
def outR (W : World) (B : Nat) (r0 r1 r2 r3 r4 r5 r6 r7 : Value) : World :=
 (((((((W.setCell ⟨B, 0, none⟩ r0).setCell ⟨B, 1, none⟩ r1).setCell ⟨B, 2, none⟩ r2).setCell ⟨B, 3, none⟩ r3).setCell ⟨B, 4, none⟩ r4).setCell ⟨B, 5, none⟩ r5).setCell ⟨B, 6, none⟩ r6).setCell ⟨B, 7, none⟩ r7
theorem outR_only (W : World) (B : Nat) (r0 r1 r2 r3 r4 r5 r6 r7 : Value) : Only B W (outR W B r0 r1 r2 r3 r4 r5 r6 r7) :=
 (((((((only_set B W 0 r0).trans (only_set B _ 1 r1)).trans (only_set B _ 2 r2)).trans (only_set B _ 3 r3)).trans (only_set B _ 4 r4)).trans (only_set B _ 5 r5)).trans (only_set B _ 6 r6)).trans (only_set B _ 7 r7)
def Told (w : World) (p b : Nat) (x : TreeB × ReplyB × Int) (e : Ending) (w' : World) : Prop := ∃ rv, e = .returned (.tuple #[rv, errV x.2.2]) ∧ ReplyAt w' rv x.2.1 ∧ DTree w' p b x.1 ∧ Turn p b w w'
theorem told_fin {w w1 W2 W' : World} {p b B : Nat} {t : TreeB} (hT1 : DTree w1 p b t) (ht : Turn p b w w1) (hB : RBox w1 B) (hBw : w.heap.size ≤ B) (hp : B ≠ p) (hb : B ≠ b) (ho : Only B w1 W2) (hbe : Below W2.heap.size W2 W') : DTree W' p b t ∧ Turn p b w W' :=
 ⟨(hT1.only ho hB hp hb).below hbe, (turn_only ht ho hBw).trans (turn_below hbe)⟩
theorem RBox.nostr {w : World} {B : Nat} (h : RBox w B) (l : List ByteArray) : ∀ o x, w.cell? ⟨B, o, none⟩ = some x → x ∉ strs l := by
 intro o x hx hm
 unfold strs at hm
 obtain ⟨y, _, e⟩ := List.mem_map.1 hm
 rcases h.cell o x hx with e2 | e2 <;> rw [e2] at e <;> cases e
theorem RBox.nobyte {w : World} {B : Nat} (h : RBox w B) (l : List Int) : ∀ o x, w.cell? ⟨B, o, none⟩ = some x → x ∉ intsV .u8 l := by
 intro o x hx hm
 unfold intsV at hm
 obtain ⟨y, _, e⟩ := List.mem_map.1 hm
 rcases h.cell o x hx with e2 | e2 <;> rw [e2] at e <;> cases e
end Go.Proofs.YtbebgobboccjcaaGreatDoor
namespace Go.Proofs.YtbebgobboccjcaaGreatDoor
open Go.RowKit Kit
set_option linter.unusedVariables false

def kindOf (o : OpB) : Int := if o.kind = 2 then 2 else 1
def makesF (t : TreeB) (o : OpB) (h : Except Int (Nat × ByteArray)) : TreeB × ReplyB × Int := match h with
 | .error e => (t, noReply, e)
 | .ok (d, s) => if 60 ≤ t.nodes.length ∨ 1099511627776 ≤ t.next then (t, noReply, 16)
   else (⟨t.nodes.set d (withB (nodeAt t d) s t.next) ++ [⟨t.next, kindOf o, [], [], []⟩], t.next + 1⟩, { noReply with ino := t.next }, 0)
theorem makes_eq (t : TreeB) (o : OpB) : makesB t o = makesF t o (outF t (homeB t o.path)) := by
 unfold makesB
 cases homeB t o.path with
 | error e => rfl
 | ok ds =>
   obtain ⟨d, s⟩ := ds
   simp only [outF]
   split
   · rfl
   · rfl
theorem outF_code {t : TreeB} {s : ByteArray} {x : Int} (h : outF t (homeB t s) = .error x) : x ≠ 0 := by
 cases hh : homeB t s with
 | error y => rw [hh] at h; simp only [outF] at h; injection h with h; rw [← h]; exact home_code' hh
 | ok ds =>
   obtain ⟨d, q⟩ := ds
   rw [hh] at h
   simp only [outF] at h
   split at h
   · injection h with h; omega
   · cases h
theorem outF_ok {t : TreeB} (hG : Good t) {s q : ByteArray} {d : Nat} (h : outF t (homeB t s) = .ok (d, q)) : d < t.nodes.length ∧ (nodeAt t d).kind = 2 ∧ okB q = true ∧ q.size ≤ 12 ∧ nameB (nodeAt t d) q = 0 ∧ q ∉ (nodeAt t d).names := by
 cases hh : homeB t s with
 | error y => rw [hh] at h; simp only [outF] at h; cases h
 | ok ds =>
   obtain ⟨d', q'⟩ := ds
   rw [hh] at h
   simp only [outF] at h
   split at h
   · cases h
   · rename_i h2
     injection h with h
     injection h with e1 e2
     subst e1 e2
     obtain ⟨hd, hdk, o1, o2, _⟩ := home_ok hG.e hh
     have h0 := Decidable.byContradiction h2
     exact ⟨hd, hdk, o1, o2, h0, name_free hG.e hd hdk h0⟩
theorem nodeAt_app {t : TreeB} {d : Nat} (hd : d < t.nodes.length) (n : NodeB) (x : Int) : nodeAt ⟨t.nodes ++ [n], x⟩ d = nodeAt t d := by
 unfold nodeAt
 simp only
 simp only [List.getD, List.getElem?_append_left hd]
set_option maxRecDepth 4000 in
set_option maxHeartbeats 8000000 in
theorem dcreate_any (o : OpB) (w : World) (p b : Nat) (t : TreeB) (hT : DTree w p b t) (hG : Good t) (hs1 : o.path.size ≤ maxLen) :
 Calls Tryz.prog 61 #[.pointer (some ⟨p, 0, none⟩), .string o.path, .int .i64 (kindOf o)] w fun e w' => Told w p b (makesB t o) e w' := by
 have ht := hG.e.fair
 rw [makes_eq]
 have HR0 : Hid (RBox (w.alloc (.cells #[.int .i64 0, .int .i64 0, .int .i64 0, .int .i64 0, .int .i64 0, .slice none 0 0, .slice none 0 0, .slice none 0 0] 40)) w.heap.size ∧ Below w.heap.size w (w.alloc (.cells #[.int .i64 0, .int .i64 0, .int .i64 0, .int .i64 0, .int .i64 0, .slice none 0 0, .slice none 0 0, .slice none 0 0] 40))) := ⟨rbox_new w, (Below.refl _ _).alloc (Nat.le_refl _) _⟩
 have HFr : Hid (∀ W, Below w.heap.size w W → _) := fun W hW => dfree_any o.path W p b t (hT.below hW) ht hs1
 have HT : Hid (DTree w p b t ∧ Good t) := ⟨hT, hG⟩
 obtain ⟨h, hh⟩ : ∃ h, outF t (homeB t o.path) = h := ⟨_, rfl⟩
 have HH0 : Hid (outF t (homeB t o.path) = h) := hh
 rw [hh] at HFr ⊢
 have hpb := hT.cells.2.2.2
 have HNE : Hid (w.heap.size ≠ p ∧ w.heap.size ≠ b) := ⟨by omega, by omega⟩
 clear hs1 hh hT hG ht
 cases h with
 | error x =>
   have hx := outF_code HH0.out
   have HE : Hid (errV x = .iface 80 (.int .i64 x)) := errV_ne hx
   simp only [outP] at HFr
   rw [errV_ne hx] at HFr
   clear hx
   go_enter Tryz.func61, Tryz.ntmps61
   go_wp2_with fail
   go_at_call 94
   refine (HFr.out _ HR0.out.2).mono ?_
   rintro e w1 ⟨rfl, hb1⟩
   have H1 : Hid (RBox w1 w.heap.size ∧ Below w.heap.size w w1) := ⟨HR0.out.1.below hb1, bel2v HR0.out.2 hb1⟩
   obtain ⟨b0, b1, b2, b3, b4, b5, b6, b7, bf, _⟩ := H1.out.1.c
   clear hb1 HFr HR0
   go_wp2
   refine bodyPost_ret (v := .tuple #[.agg #[.int .i64 0, .int .i64 0, .int .i64 0, .int .i64 0, .int .i64 0, .slice none 0 0, .slice none 0 0, .slice none 0 0], .iface 80 (.int .i64 x)]) (by simp [results, Tryz.results61, go_sem, *]) rfl ?_
   have ho := outR_only w1 w.heap.size (.int .i64 0) (.int .i64 0) (.int .i64 0) (.int .i64 0) (.int .i64 0) (.slice none 0 0) (.slice none 0 0) (.slice none 0 0)
   exact ⟨_, by simp only [makesF]; rw [HE.out], replyAt_no' _ _ _ _ _ _, (HT.out.1.below H1.out.2).only ho H1.out.1 HNE.out.1 HNE.out.2, turn_only (turn_below H1.out.2) ho (Nat.le_refl _)⟩
 | ok ds =>
   obtain ⟨d, s⟩ := ds
   obtain ⟨hd, hdk, o1, o2, h0, hfr⟩ := outF_ok HT.out.2 HH0.out
   have hg := HT.out.2.e
   simp only [outP] at HFr
   have e00 : errV 0 = .nilIface := rfl
   rw [e00] at HFr
   have hn60 := hg.size
   have hnx := hg.next
   have hnp := hg.fair.next
   have HLN : Hid (∀ W, Below w.heap.size w W → (Builtin.len_ #[50] 3 #[.map (some b)]).run Tryz.prog W = .ok (.int .i64 (t.nodes.length : Int)) W ∧ W.cell? ⟨p, 0, none⟩ = some (.map (some b)) ∧ W.cell? ⟨p, 1, none⟩ = some (.int .i64 t.next) ∧ (∀ j, W.frozen? ⟨p, j, none⟩ = false)) := fun W hW => ⟨(HT.out.1.below hW).size 3, (HT.out.1.below hW).cells.1, (HT.out.1.below hW).cells.2.1, (HT.out.1.below hW).cells.2.2.1⟩
   have n60 : (t.nodes.length : Int) ≤ 60 := by omega
   obtain ⟨jj, hjj⟩ : ∃ jj, (nodeAt t d).ino = jj := ⟨_, rfl⟩
   rw [hjj] at HFr
   by_cases hfull : 60 ≤ t.nodes.length ∨ 1099511627776 ≤ t.next
   · have HM : Hid (makesF t o (.ok (d, s)) = (t, noReply, 16)) := by show _ = _; simp only [makesF]; rw [if_pos hfull]
     have hfi : (t.nodes.length : Int) ≥ 60 ∨ t.next ≥ 1099511627776 := by omega
     obtain ⟨nl, hnl⟩ : ∃ nl : Int, (t.nodes.length : Int) = nl := ⟨_, rfl⟩
     obtain ⟨nx, hnx2⟩ : ∃ nx : Int, t.next = nx := ⟨_, rfl⟩
     rw [hnl, hnx2] at hfi HLN
     have TAIL : Hid (∀ w1, RBox w1 w.heap.size ∧ Below w.heap.size w w1 → Told w p b (t, noReply, 16) (.returned (.tuple #[.agg #[.int .i64 0, .int .i64 0, .int .i64 0, .int .i64 0, .int .i64 0, .slice none 0 0, .slice none 0 0, .slice none 0 0], .iface 80 (.int .i64 16)])) (outR w1 w.heap.size (.int .i64 0) (.int .i64 0) (.int .i64 0) (.int .i64 0) (.int .i64 0) (.slice none 0 0) (.slice none 0 0) (.slice none 0 0))) := fun w1 H1 => by
      have ho := outR_only w1 w.heap.size (.int .i64 0) (.int .i64 0) (.int .i64 0) (.int .i64 0) (.int .i64 0) (.slice none 0 0) (.slice none 0 0) (.slice none 0 0)
      exact ⟨_, rfl, replyAt_no' _ _ _ _ _ _, (HT.out.1.below H1.2).only ho H1.1 HNE.out.1 HNE.out.2, turn_only (turn_below H1.2) ho (Nat.le_refl _)⟩
     clear hfull hd hdk o1 o2 h0 hfr hg e00 hn60 hnx hnp n60 hnl hnx2 hjj
     rw [HM.out]
     by_cases h60 : nl ≥ 60
     · clear hfi
       go_enter Tryz.func61, Tryz.ntmps61
       go_wp2_with fail
       go_at_call 94
       refine (HFr.out _ HR0.out.2).mono ?_
       rintro e w1 ⟨rfl, hb1⟩
       have H1 : Hid (RBox w1 w.heap.size ∧ Below w.heap.size w w1) := ⟨HR0.out.1.below hb1, bel2v HR0.out.2 hb1⟩
       obtain ⟨b0, b1, b2, b3, b4, b5, b6, b7, bf, _⟩ := H1.out.1.c
       obtain ⟨hln, c0, c1, cf⟩ := HLN.out w1 H1.out.2
       clear hb1 HFr HR0 HLN
       go_wp2
       refine bodyPost_ret (v := .tuple #[.agg #[.int .i64 0, .int .i64 0, .int .i64 0, .int .i64 0, .int .i64 0, .slice none 0 0, .slice none 0 0, .slice none 0 0], .iface 80 (.int .i64 16)]) (by simp [results, Tryz.results61, go_sem, *]) rfl ?_
       exact TAIL.out w1 H1.out
     · have h40 : nx ≥ 1099511627776 := by omega
       clear hfi
       go_enter Tryz.func61, Tryz.ntmps61
       go_wp2_with fail
       go_at_call 94
       refine (HFr.out _ HR0.out.2).mono ?_
       rintro e w1 ⟨rfl, hb1⟩
       have H1 : Hid (RBox w1 w.heap.size ∧ Below w.heap.size w w1) := ⟨HR0.out.1.below hb1, bel2v HR0.out.2 hb1⟩
       obtain ⟨b0, b1, b2, b3, b4, b5, b6, b7, bf, _⟩ := H1.out.1.c
       obtain ⟨hln, c0, c1, cf⟩ := HLN.out w1 H1.out.2
       clear hb1 HFr HR0 HLN
       go_wp2
       refine bodyPost_ret (v := .tuple #[.agg #[.int .i64 0, .int .i64 0, .int .i64 0, .int .i64 0, .int .i64 0, .slice none 0 0, .slice none 0 0, .slice none 0 0], .iface 80 (.int .i64 16)]) (by simp [results, Tryz.results61, go_sem, *]) rfl ?_
       exact TAIL.out w1 H1.out
   · obtain ⟨nn, hnn⟩ : ∃ nn : NodeB, nn = ⟨t.next, kindOf o, [], [], []⟩ := ⟨_, rfl⟩
     have hok : NodeOK nn := by
      rw [hnn]
      refine ⟨List.Pairwise.nil, by simp, ?_⟩
      unfold kindOf
      split
      · exact .inl ⟨rfl, rfl, rfl⟩
      · exact .inr ⟨rfl, rfl, rfl, by simp, by intro x hx; simp at hx⟩
     have hmore := (good_more hg (by omega) (by omega) nn (by rw [hnn]) (by rw [hnn]) hok).1
     obtain ⟨t2, ht2⟩ : ∃ t2 : TreeB, t2 = ⟨t.nodes ++ [nn], t.next + 1⟩ := ⟨_, rfl⟩
     rw [← ht2] at hmore
     have hd2 : d < t2.nodes.length := by rw [ht2]; simp; omega
     have hn2 : nodeAt t2 d = nodeAt t d := by rw [ht2]; exact nodeAt_app hd nn _
     have HM : Hid (makesF t o (.ok (d, s)) = (setB t2 d (withB (nodeAt t2 d) s t.next), ⟨t.next, 0, 0, 0, 0, [], [], []⟩, 0)) := by
      show _ = _
      simp only [makesF]
      rw [if_neg hfull, hn2, ht2, hnn]
      unfold setB
      simp only
      rw [List.set_append_left _ _ hd]
      rfl
     have HN : Hid (∀ W, DTree W p b t2 → _) := fun W hW => dname_any s t.next W p b t2 d hW hmore.fair hd2 (by rw [hn2]; exact hdk) (by rw [hn2]; exact hfr) o2
     rw [hn2, hjj] at HN
     have HP1 : Hid (∀ W, DTree W p b t → DTree (W.setCell ⟨p, 1, none⟩ (.int .i64 (t.next + 1))) p b ⟨t.nodes, t.next + 1⟩) := fun W hW => hW.setNext (t.next + 1)
     have hfa1 : Fair ⟨t.nodes, t.next + 1⟩ := by
      have hf := hg.fair
      exact ⟨hf.root, hf.size, ⟨by simp only; omega, by simp only; omega⟩, hf.rise, hf.below, hf.each, hf.leads, hf.names⟩
     have HP2 : Hid (∀ W, DTree W p b ⟨t.nodes, t.next + 1⟩ → ∃ w', (Instr.mapUpdate 50 (.map (some b)) (.int .i64 t.next) (.agg #[.int .i64 (kindOf o), .slice none 0 0, .slice none 0 0])).run Tryz.prog W = .ok () w' ∧ DTree w' p b t2 ∧ Turn p b W w') := fun W hW => by
      obtain ⟨w', k1, k2, k3, _⟩ := hW.more hfa1 ⟨nn, .slice none 0 0, .slice none 0 0⟩ (fun n hn => by rw [hnn]; exact hg.below n hn) (by rw [hnn]; simp only; omega) ⟨by rw [hnn]; exact sees_nil0 _ _ rfl, by rw [hnn]; exact ⟨none, 0, rfl, by simp [pairsB], by simp, fun _ => rfl, fun h => by simp [pairsB] at h⟩⟩
      refine ⟨w', ?_, by rw [ht2]; exact k2, k3⟩
      have : (⟨nn, .slice none 0 0, .slice none 0 0⟩ : DN).val = .agg #[.int .i64 (kindOf o), .slice none 0 0, .slice none 0 0] := by unfold DN.val; simp only; rw [hnn]
      rw [this] at k1
      have e2 : (⟨nn, .slice none 0 0, .slice none 0 0⟩ : DN).n.ino = t.next := by simp only; rw [hnn]
      rw [e2] at k1
      exact k1
     have hl60 : ¬ (t.nodes.length : Int) ≥ 60 := by omega
     have hl40 : ¬ t.next ≥ 1099511627776 := by omega
     have hx1 : 0 ≤ t.next ∧ t.next ≤ 1099511627776 := by omega
     obtain ⟨nx, hnx2⟩ : ∃ nx : Int, t.next = nx := ⟨_, rfl⟩
     rw [hnx2] at HM HN HP1 HP2 hl40 hx1 HLN
     rw [HM.out]
     obtain ⟨t3, ht3⟩ : ∃ t3, setB t2 d (withB (nodeAt t2 d) s nx) = t3 := ⟨_, rfl⟩
     rw [← hn2] at HN
     rw [ht3] at HN ⊢
     obtain ⟨hx2, hx3⟩ := hx1
     obtain ⟨kd, hkd⟩ : ∃ kd, kindOf o = kd := ⟨_, rfl⟩
     rw [hkd] at HP2 ⊢
     clear hfull hd hdk o1 o2 h0 hfr hg e00 hn60 hnx hnp n60 hnx2 hjj hok hmore ht2 hd2 hn2 hfa1 hnn ht3 HM hkd
     go_enter Tryz.func61, Tryz.ntmps61
     go_wp2_with fail
     go_at_call 94
     refine (HFr.out _ HR0.out.2).mono ?_
     rintro e w1 ⟨rfl, hb1⟩
     have H1 : Hid (RBox w1 w.heap.size ∧ Below w.heap.size w w1) := ⟨HR0.out.1.below hb1, bel2v HR0.out.2 hb1⟩
     obtain ⟨hln, c0, c1, cf⟩ := HLN.out w1 H1.out.2
     have hd1 := HP1.out w1 (HT.out.1.below H1.out.2)
     obtain ⟨w2, hput, hd2, ht2⟩ := HP2.out _ hd1
     have H2 : Hid (RBox w2 w.heap.size ∧ Turn p b w w2 ∧ DTree w2 p b t2) := ⟨(H1.out.1.turn (turn_set p b w1 1 _) HNE.out.1 HNE.out.2).turn ht2 HNE.out.1 HNE.out.2, ((turn_below H1.out.2).trans (turn_set p b w1 1 _)).trans ht2, hd2⟩
     have HN2 : Hid (Calls Tryz.prog 95 _ _ _) := HN.out w2 hd2
     have c0' : (w1.setCell ⟨p, 1, none⟩ (.int .i64 (nx + 1))).cell? ⟨p, 0, none⟩ = some (.map (some b)) := hd1.cells.1
     clear hb1 HFr HR0 HLN hd1 hd2 ht2 HP1 HP2 H1 HN
     go_wp2_with fail
     go_at_call 95
     refine HN2.out.mono ?_
     rintro e w3 ⟨rfl, hd3, ht3⟩
     have H3 : Hid (RBox w3 w.heap.size ∧ Turn p b w w3 ∧ DTree w3 p b t3) := ⟨H2.out.1.turn ht3 HNE.out.1 HNE.out.2, H2.out.2.1.trans ht3, hd3⟩
     obtain ⟨b0, b1, b2, b3, b4, b5, b6, b7, bf, _⟩ := H3.out.1.c
     clear hd3 ht3 HN2 H2
     go_wp2
     refine bodyPost_ret (v := .tuple #[.agg #[.int .i64 nx, .int .i64 0, .int .i64 0, .int .i64 0, .int .i64 0, .slice none 0 0, .slice none 0 0, .slice none 0 0], .nilIface]) (by simp [results, Tryz.results61, go_sem, *]) rfl ?_
     have ho := outR_only w3 w.heap.size (.int .i64 nx) (.int .i64 0) (.int .i64 0) (.int .i64 0) (.int .i64 0) (.slice none 0 0) (.slice none 0 0) (.slice none 0 0)
     exact ⟨_, rfl, replyAt_no' _ _ _ _ _ _, H3.out.2.2.only ho H3.out.1 HNE.out.1 HNE.out.2, turn_only H3.out.2.1 ho (Nat.le_refl _)⟩
end Go.Proofs.YtbebgobboccjcaaGreatDoor
namespace Go.Proofs.YtbebgobboccjcaaGreatDoor
open Go.RowKit Kit
set_option linter.unusedVariables false

theorem strs_append (a b : List ByteArray) : strs (a ++ b) = strs a ++ strs b := by unfold strs; rw [List.map_append]
set_option maxRecDepth 4000 in
set_option maxHeartbeats 8000000 in
theorem dnames_any (n : NodeB) (kd : Int) (da sa : Option Addr) (dn dc sc : Nat) (w : World) (hs : SeesS w (.slice sa n.names.length sc) (pairsB n)) (ok : NodeOK n) (hsm : n.names.length ≤ 10000) :
 Calls Tryz.prog 60 #[.agg #[.int .i64 kd, .slice da dn dc, .slice sa n.names.length sc]] w fun e w' => ∃ r, e = .returned r ∧ RowV w' w.heap.size 9 r (strs n.names) ∧ Below w.heap.size w w' := by
 obtain ⟨ao, cap, e, h1, h2, h3, h4⟩ := hs
 injection e with e1 e2 e3
 subst e1 e3
 have hpl : (pairsB n).length = n.names.length := e2.symm
 rw [hpl] at h4
 have H4 : Hid (0 < n.names.length → _) := h4
 have HAT : Hid (∀ j (hj : j < n.names.length) (h2 : j < (pairsB n).length) (h3 : j < n.inos.length), (pairsB n)[j] = (n.names[j], n.inos[j])) := fun j hj _ _ => by simp [pairsB]
 have HPL : Hid ((pairsB n).length = n.names.length ∧ n.names.length = n.inos.length) := ⟨hpl, ok.len⟩
 have nl : (n.names.length : Int) ≤ 10000 := by omega
 clear h1 h2 h3 h4 e2 hpl ok
 go_enter Tryz.func60, Tryz.ntmps60
 go_wp2
 go_loopw [3, 9] (fun s3 s9 wr => ∃ j : Nat, j ≤ n.names.length ∧ s9 = .int .i64 (j : Int) ∧ Hid (RowV wr w.heap.size 9 s3 (strs (n.names.take j)) ∧ Below w.heap.size w wr)) (fun _ s9 _ => n.names.length - (intOf s9).toNat)
 case atStart => exact ⟨0, Nat.zero_le _, rfl, ⟨rowV_nil _ _ _, (Below.refl _ _).alloc (Nat.le_refl _) _⟩⟩
 case round =>
  obtain ⟨j, hj, rfl, HI⟩ := hrel
  by_cases hlt : j < n.names.length
  · obtain ⟨g, off, hao, hb, hc⟩ := H4.out (by omega)
    subst hao
    have hj2 : j < (pairsB n).length := by rw [HPL.out.1]; exact hlt
    have hj3 : j < n.inos.length := by rw [← HPL.out.2]; exact hlt
    have cc := at2_of hc (k := j) hj2
    have c0 := (HI.out.2.cell hb).trans cc.1
    have c1 := (HI.out.2.cell hb).trans cc.2
    rw [HAT.out j hlt hj2 hj3] at c0 c1
    simp only at c0 c1
    obtain ⟨y, hy⟩ : ∃ y, n.inos[j] = y := ⟨_, rfl⟩
    obtain ⟨x, hx⟩ : ∃ x, n.names[j] = x := ⟨_, rfl⟩
    rw [hx] at c0
    rw [hy] at c1
    have HX : Hid (n.names.take (j + 1) = n.names.take j ++ [x]) := by show _ = _; rw [List.take_succ_eq_append_getElem hlt, hx]
    have jl : (j : Int) < (n.names.length : Int) := by omega
    obtain ⟨w0, hw0⟩ : ∃ z, z = (wr.alloc (.cells #[.string x, .int .i64 y] 97)) := ⟨_, rfl⟩
    have HW0 : Hid (RowV (w0.alloc (.cells #[.string x] 9)) w.heap.size 9 u3 (strs (n.names.take j)) ∧ Below w.heap.size w (w0.alloc (.cells #[.string x] 9)) ∧ Sees (w0.alloc (.cells #[.string x] 9)) (.slice (some ⟨wr.heap.size + 1, 0, none⟩) 1 1) [.string x] ∧ w.heap.size ≤ (w0.alloc (.cells #[.string x] 9)).heap.size) := by
     have b1 : Below wr.heap.size wr w0 := by rw [hw0]; exact (Below.refl _ _).alloc (Nat.le_refl _) _
     have b2 : Below w0.heap.size w0 (w0.alloc (.cells #[.string x] 9)) := (Below.refl _ _).alloc (Nat.le_refl _) _
     have hs0 : w0.heap.size = wr.heap.size + 1 := by rw [hw0]; simp
     have b3 := bel2v (bel2v HI.out.2 b1) b2
     exact ⟨(HI.out.1.below b1).below b2, b3, sees_one w0 9 (.string x) _ hs0, b3.size⟩
    rw [hw0] at HW0
    have HLE : Hid (((strs (n.names.take j)).length + ([.string x] : List Value).length) * 16 ≤ 140737488355328) := by
     show _ ≤ _
     rw [strs_len, List.length_take]
     simp
     omega
    clear cc hc hx hy hw0 hj2 hj3
    go_wp2_with (at_builtin; refine wpList_appV Tryz.underlying37 infoSt rfl (by omega) rfl _ _ rfl w.heap.size _ (strs (n.names.take j)) rfl HW0.out.1 _ [.string x] rfl HW0.out.2.2.1 (by intro u hu; simp at hu; subst hu; rfl) HLE.out HW0.out.2.2.2 ?_; intro v' w' k1 k2)
    have HK : Hid (RowV w' w.heap.size 9 v' (strs (n.names.take (j + 1))) ∧ Below w.heap.size w w') := by
     refine ⟨?_, HW0.out.2.1.trans k2⟩
     rw [HX.out, strs_append]
     exact k1
    clear k1 k2
    go_wp2
    go_roundw
    case rel => exact ⟨j + 1, by omega, by simp, HK⟩
    case measure => simp [intOf]; omega
  · have ej : j = n.names.length := by omega
    subst ej
    have HT : Hid (n.names.take n.names.length = n.names) := List.take_length
    go_wp2
    go_ret
    refine ⟨_, rfl, ?_, HI.out.2⟩
    have := HI.out.1
    rw [HT.out] at this
    exact this
def readdirF (t : TreeB) (f : Except Int Nat) : TreeB × ReplyB × Int := match f with
 | .error e => (t, noReply, e)
 | .ok k => if (nodeAt t k).kind ≠ 2 then (t, noReply, 8) else (t, { noReply with names := (nodeAt t k).names }, 0)
def statF (t : TreeB) (f : Except Int Nat) : TreeB × ReplyB × Int := match f with
 | .error e => (t, noReply, e)
 | .ok k => (t, ⟨(nodeAt t k).ino, (nodeAt t k).kind, sizeB (nodeAt t k), linksB t (nodeAt t k).ino, 0, [], [], []⟩, 0)
theorem readdir_eq (t : TreeB) (o : OpB) (ho : o.kind = 11) : looksB t o = readdirF t (findB t o.path) := by
 unfold looksB
 cases findB t o.path with
 | error e => rfl
 | ok k => simp only [readdirF]; rw [if_neg (by omega)]
theorem stat_eq (t : TreeB) (o : OpB) (ho : o.kind = 10) : looksB t o = statF t (findB t o.path) := by
 unfold looksB
 cases findB t o.path with
 | error e => rfl
 | ok k => simp only [statF]; rw [if_pos ho]; rfl
set_option maxRecDepth 4000 in
set_option maxHeartbeats 8000000 in
theorem dreaddir_any (o : OpB) (w : World) (p b : Nat) (t : TreeB) (hT : DTree w p b t) (hG : Good t) (hs1 : o.path.size ≤ maxLen) :
 Calls Tryz.prog 67 #[.pointer (some ⟨p, 0, none⟩), .string o.path] w fun e w' => Told w p b (readdirF t (findB t o.path)) e w' := by
 have ht := hG.e.fair
 have HR0 : Hid (RBox (w.alloc (.cells #[.int .i64 0, .int .i64 0, .int .i64 0, .int .i64 0, .int .i64 0, .slice none 0 0, .slice none 0 0, .slice none 0 0] 40)) w.heap.size ∧ Below w.heap.size w (w.alloc (.cells #[.int .i64 0, .int .i64 0, .int .i64 0, .int .i64 0, .int .i64 0, .slice none 0 0, .slice none 0 0, .slice none 0 0] 40))) := ⟨rbox_new w, (Below.refl _ _).alloc (Nat.le_refl _) _⟩
 have HFd : Hid (∀ W, Below w.heap.size w W → _) := fun W hW => dfind_any o.path W p b t (hT.below hW) ht hs1
 have HT : Hid (DTree w p b t ∧ Good t) := ⟨hT, hG⟩
 obtain ⟨f, hf⟩ : ∃ h, findB t o.path = h := ⟨_, rfl⟩
 have HF0 : Hid (findB t o.path = f) := hf
 rw [hf] at HFd ⊢
 have hpb := hT.cells.2.2.2
 have HNE : Hid (w.heap.size ≠ p ∧ w.heap.size ≠ b) := ⟨by omega, by omega⟩
 clear hs1 hf hT hG ht
 cases f with
 | error x =>
   have hx := find_code' HF0.out
   have HE : Hid (errV x = .iface 80 (.int .i64 x)) := errV_ne hx
   simp only [outW2] at HFd
   rw [errV_ne hx] at HFd
   clear hx
   go_enter Tryz.func67, Tryz.ntmps67
   go_wp2_with fail
   go_at_call 22
   refine (HFd.out _ HR0.out.2).mono ?_
   rintro e w1 ⟨rfl, hb1⟩
   have H1 : Hid (RBox w1 w.heap.size ∧ Below w.heap.size w w1) := ⟨HR0.out.1.below hb1, bel2v HR0.out.2 hb1⟩
   obtain ⟨b0, b1, b2, b3, b4, b5, b6, b7, bf, _⟩ := H1.out.1.c
   clear hb1 HFd HR0
   go_wp2
   refine bodyPost_ret (v := .tuple #[.agg #[.int .i64 0, .int .i64 0, .int .i64 0, .int .i64 0, .int .i64 0, .slice none 0 0, .slice none 0 0, .slice none 0 0], .iface 80 (.int .i64 x)]) (by simp [results, Tryz.results67, go_sem, *]) rfl ?_
   have ho := outR_only w1 w.heap.size (.int .i64 0) (.int .i64 0) (.int .i64 0) (.int .i64 0) (.int .i64 0) (.slice none 0 0) (.slice none 0 0) (.slice none 0 0)
   exact ⟨_, by simp only [readdirF]; rw [HE.out], replyAt_no' _ _ _ _ _ _, (HT.out.1.below H1.out.2).only ho H1.out.1 HNE.out.1 HNE.out.2, turn_only (turn_below H1.out.2) ho (Nat.le_refl _)⟩
 | ok k =>
   have hk := find_lt HT.out.2.e.fair HF0.out
   obtain ⟨da, dc, sa, sc, hlook⟩ := HT.out.1.lookAt HT.out.2.e.fair hk
   have hkk := HT.out.2.e.fair.kind (nodeAt_mem hk)
   have hnm := HT.out.2.e.fair.names _ (nodeAt_mem hk)
   have ok := HT.out.2.e.each _ (nodeAt_mem hk)
   have HLK : Hid (∀ W, Below w.heap.size w W → _) := hlook
   have HNM : Hid (∀ W, Below w.heap.size w W → Calls Tryz.prog 60 #[.agg #[.int .i64 2, .slice da (nodeAt t k).data.length dc, .slice sa (nodeAt t k).names.length sc]] W fun e w' => ∃ ao cap, e = .returned (.slice ao (nodeAt t k).names.length cap) ∧ Hid (Sees w' (.slice ao (nodeAt t k).names.length cap) (strs (nodeAt t k).names) ∧ (∀ a, ao = some a → W.heap.size ≤ a.block) ∧ Below W.heap.size W w')) := fun W hW => by
    refine (dnames_any (nodeAt t k) 2 da sa (nodeAt t k).data.length dc sc W (hlook W hW).2.2.2 ok hnm).mono ?_
    rintro e w' ⟨r, rfl, hr, hb⟩
    obtain ⟨ao, cap, e1, _⟩ := hr.sees
    rw [strs_len] at e1
    subst e1
    exact ⟨ao, cap, rfl, ⟨hr.sees, fun a ha => hr.block a.block (by rw [ha]; rfl), hb⟩⟩
   simp only [outW2] at HFd
   have e00 : errV 0 = .nilIface := rfl
   rw [e00] at HFd
   have HRE : Hid (readdirF t (.ok k) = if (nodeAt t k).kind ≠ 2 then (t, noReply, 8) else (t, { noReply with names := (nodeAt t k).names }, 0)) := rfl
   obtain ⟨ii, hii⟩ : ∃ jj, (nodeAt t k).ino = jj := ⟨_, rfl⟩
   rw [hii] at HFd HLK
   obtain ⟨kk, hkq⟩ : ∃ jj, (nodeAt t k).kind = jj := ⟨_, rfl⟩
   rw [hkq] at HLK hkk HRE
   obtain ⟨dn, hdn⟩ : ∃ jj, (nodeAt t k).data.length = jj := ⟨_, rfl⟩
   rw [hdn] at HLK HNM
   clear hlook hnm ok e00 hii hkq hdn
   rcases hkk with rfl | rfl
   · have HR : Hid (readdirF t (.ok k) = (t, noReply, 8)) := by show _ = _; rw [HRE.out, if_pos (by omega)]
     rw [HR.out]
     clear HRE HNM
     go_enter Tryz.func67, Tryz.ntmps67
     go_wp2_with fail
     go_at_call 22
     refine (HFd.out _ HR0.out.2).mono ?_
     rintro e w1 ⟨rfl, hb1⟩
     have H1 : Hid (RBox w1 w.heap.size ∧ Below w.heap.size w w1) := ⟨HR0.out.1.below hb1, bel2v HR0.out.2 hb1⟩
     obtain ⟨hl, c0, _⟩ := HLK.out w1 H1.out.2
     have H2 : Hid (RBox (w1.alloc (.cells #[.int .i64 1, .slice da dn dc, .slice sa (nodeAt t k).names.length sc] 70)) w.heap.size ∧ Below w.heap.size w (w1.alloc (.cells #[.int .i64 1, .slice da dn dc, .slice sa (nodeAt t k).names.length sc] 70))) := ⟨H1.out.1.below ((Below.refl _ _).alloc (Nat.le_refl _) _), H1.out.2.alloc H1.out.2.size _⟩
     obtain ⟨b0, b1, b2, b3, b4, b5, b6, b7, bf, bl⟩ := H1.out.1.c
     clear hb1 HFd HR0 HLK
     go_wp2
     refine bodyPost_ret (v := .tuple #[.agg #[.int .i64 0, .int .i64 0, .int .i64 0, .int .i64 0, .int .i64 0, .slice none 0 0, .slice none 0 0, .slice none 0 0], .iface 80 (.int .i64 8)]) (by simp [results, Tryz.results67, go_sem, *]) rfl ?_
     have hf := told_fin (HT.out.1.below H1.out.2) (turn_below (p := p) (b := b) H1.out.2) H1.out.1 (Nat.le_refl _) HNE.out.1 HNE.out.2 (outR_only w1 w.heap.size (.int .i64 0) (.int .i64 0) (.int .i64 0) (.int .i64 0) (.int .i64 0) (.slice none 0 0) (.slice none 0 0) (.slice none 0 0)) ((Below.refl _ _).alloc (Nat.le_refl _) (.cells #[.int .i64 1, .slice da dn dc, .slice sa (nodeAt t k).names.length sc] 70))
     exact ⟨_, rfl, replyAt_no' _ _ _ _ _ _, hf.1, hf.2⟩
   · have HR : Hid (readdirF t (.ok k) = (t, { noReply with names := (nodeAt t k).names }, 0)) := by show _ = _; rw [HRE.out, if_neg (by omega)]
     rw [HR.out]
     clear HRE
     go_enter Tryz.func67, Tryz.ntmps67
     go_wp2_with fail
     go_at_call 22
     refine (HFd.out _ HR0.out.2).mono ?_
     rintro e w1 ⟨rfl, hb1⟩
     have H1 : Hid (RBox w1 w.heap.size ∧ Below w.heap.size w w1) := ⟨HR0.out.1.below hb1, bel2v HR0.out.2 hb1⟩
     obtain ⟨hl, c0, _⟩ := HLK.out w1 H1.out.2
     have bl := H1.out.1.c.2.2.2.2.2.2.2.2.2
     clear hb1 HFd HR0 HLK
     go_wp2_with fail
     go_at_call 60
     refine (HNM.out _ (H1.out.2.alloc H1.out.2.size _)).mono ?_
     rintro e w2 ⟨ao, cap, rfl, HS⟩
     have H2 : Hid (RBox w2 w.heap.size ∧ Below w.heap.size w w2) := ⟨(H1.out.1.below ((Below.refl _ _).alloc (Nat.le_refl _) _)).below HS.out.2.2, bel2v (H1.out.2.alloc H1.out.2.size _) HS.out.2.2⟩
     obtain ⟨b0, b1, b2, b3, b4, b5, b6, b7, bf, _⟩ := H2.out.1.c
     clear HNM
     go_wp2
     refine bodyPost_ret (v := .tuple #[.agg #[.int .i64 0, .int .i64 0, .int .i64 0, .int .i64 0, .int .i64 0, .slice none 0 0, .slice ao (nodeAt t k).names.length cap, .slice none 0 0], .nilIface]) (by simp [results, Tryz.results67, go_sem, *]) rfl ?_
     have ho := outR_only w2 w.heap.size (.int .i64 0) (.int .i64 0) (.int .i64 0) (.int .i64 0) (.int .i64 0) (.slice none 0 0) (.slice ao (nodeAt t k).names.length cap) (.slice none 0 0)
     have hf := told_fin (HT.out.1.below H2.out.2) (turn_below (p := p) (b := b) H2.out.2) H2.out.1 (Nat.le_refl _) HNE.out.1 HNE.out.2 ho (Below.refl _ _)
     exact ⟨_, rfl, ⟨_, _, _, rfl, sees_nil0 _ _ rfl, sees_only HS.out.1 ho (H2.out.1.nostr _), sees_nil0 _ _ rfl⟩, hf.1, hf.2⟩
end Go.Proofs.YtbebgobboccjcaaGreatDoor
namespace Go.Proofs.YtbebgobboccjcaaGreatDoor
open Go.RowKit Kit
set_option linter.unusedVariables false

set_option maxRecDepth 4000 in
set_option maxHeartbeats 4000000 in
theorem dmade_nil (w : World) : Calls Tryz.prog 32 #[.pointer none] w fun e w' => ∃ p b, e = .returned (.pointer (some ⟨p, 0, none⟩)) ∧ DTree w' p b newB ∧ w.heap.size ≤ p ∧ w.heap.size ≤ b ∧ Below w.heap.size w w' := by
 have HN : Hid (Calls Tryz.prog 9 _ w _) := dnew_any w
 go_enter Tryz.func32, Tryz.ntmps32
 go_wp2_with fail
 go_at_call 9
 refine HN.out.mono ?_
 rintro e w1 ⟨p, b, rfl, h1, h2, h3, h4, h5⟩
 have H1 : Hid (DTree w1 p b newB ∧ w.heap.size ≤ p ∧ w.heap.size ≤ b ∧ Below w.heap.size w w1) := ⟨h1, h2, h3, h5⟩
 clear h1 h2 h3 h4 h5 HN
 go_wp2
 go_ret
 exact ⟨p, b, rfl, H1.out⟩
set_option maxRecDepth 4000 in
set_option maxHeartbeats 4000000 in
theorem dmade_zero (w : World) (p : Nat) (hz : w.heap[p]? = some (.cells #[.map none, .int .i64 0] 52)) : Calls Tryz.prog 32 #[.pointer (some ⟨p, 0, none⟩)] w fun e w' => ∃ b, e = .returned (.pointer (some ⟨p, 0, none⟩)) ∧ DTree w' p b newB ∧ w.heap.size ≤ b ∧ Turn p b w w' := by
 have hq := Go.run_eql_map_nil (P := Tryz.prog) w 50 3 70 none Tryz.underlying50
 have hlt : p < w.heap.size := (Array.getElem?_eq_some_iff.1 hz).1
 have HZ : Hid (w.heap[p]? = some (.cells #[.map none, .int .i64 0] 52)) := hz
 have c0 : w.cell? ⟨p, 0, none⟩ = some (.map none) := by simp [World.cell?, hz]
 have c1 : w.cell? ⟨p, 1, none⟩ = some (.int .i64 0) := by simp [World.cell?, hz]
 have HN : Hid (∀ U, Calls Tryz.prog 9 #[] U _) := fun U => dnew_any U
 clear hz
 go_enter Tryz.func32, Tryz.ntmps32
 go_wp2_with fail
 go_at_call 9
 refine (HN.out w).mono ?_
 rintro e w1 ⟨p2, b, rfl, h1, h2, h3, h4, h5⟩
 obtain ⟨ds, hd, hn⟩ := h1
 have d0 : w1.cell? ⟨p2, 0, none⟩ = some (.map (some b)) := by simp [World.cell?, hd.1]
 have d1 : w1.cell? ⟨p2, 1, none⟩ = some (.int .i64 2) := by simp [World.cell?, hd.1, newB]
 have hz1 : w1.heap[p]? = some (.cells #[.map none, .int .i64 0] 52) := (h5.block p hlt).trans HZ.out
 have q0 : w1.cell? ⟨p, 0, none⟩ = some (.map none) := by simp [World.cell?, hz1]
 have q1 : w1.cell? ⟨p, 1, none⟩ = some (.int .i64 0) := by simp [World.cell?, hz1]
 have f0 : ∀ j, w1.frozen? ⟨p, j, none⟩ = false := fun j => by simp [World.frozen?, hz1]
 have hl2 : p2 < w1.heap.size := hd.lt.1
 have hl1 : p < w1.heap.size := (Array.getElem?_eq_some_iff.1 hz1).1
 have HE : Hid (DTree ((w1.setCell ⟨p, 0, none⟩ (.map (some b))).setCell ⟨p, 1, none⟩ (.int .i64 2)) p b newB ∧ w.heap.size ≤ b ∧ Turn p b w ((w1.setCell ⟨p, 0, none⟩ (.map (some b))).setCell ⟨p, 1, none⟩ (.int .i64 2))) := by
  have ho : Only p w1 ((w1.setCell ⟨p, 0, none⟩ (.map (some b))).setCell ⟨p, 1, none⟩ (.int .i64 2)) := (only_set _ _ 0 _).trans (only_set _ _ 1 _)
  have hbp : b ≠ p := by omega
  refine ⟨⟨ds, ⟨?_, hd.2.1.block (ho.block b hd.lt.2 hbp), fun f hf => ?_⟩, hn⟩, h3, ⟨ho.os.trans h5.os, ho.tape.trans h5.tape, ho.output.trans h5.output, Nat.le_trans h5.size ho.size, fun g g1 g2 g3 => (ho.block g (Nat.lt_of_lt_of_le g1 h5.size) g2).trans (h5.block g g1)⟩⟩
  · simp [World.setCell, Array.getElem?_modify, hz1, newB]
  · have hm : f.n ∈ newB.nodes := by rw [← hn]; exact List.mem_map.2 ⟨f, hf, rfl⟩
    simp [newB] at hm
    have hx := hd.2.2 f hf
    refine ⟨sees_only hx.1 ho (fun o x _ hm2 => ?_), ?_⟩
    · rw [hm] at hm2; simp [intsV] at hm2
    · obtain ⟨ao, cap, e1, e2, e3, e4, e5⟩ := hx.2
      exact ⟨ao, cap, e1, e2, e3, e4, fun h0 => by rw [hm] at h0; simp [pairsB] at h0⟩
 clear hd hn h2 h3 h4 h5 hz1 HN
 go_wp2
 go_ret
 exact ⟨b, rfl, HE.out⟩
end Go.Proofs.YtbebgobboccjcaaGreatDoor
namespace Go.Proofs.YtbebgobboccjcaaGreatDoor
open Go.RowKit Kit
set_option linter.unusedVariables false

def OBox (w : World) (B : Nat) (o : OpB) (dv : Value) : Prop := w.heap[B]? = some (.cells #[.int .i64 o.kind, .string o.path, .string o.to, .int .i64 o.off, .int .i64 o.n, dv, .int .i64 o.snap] 35)
theorem OBox.c {w : World} {B : Nat} {o : OpB} {dv : Value} (h : OBox w B o dv) : w.cell? ⟨B, 0, none⟩ = some (.int .i64 o.kind) ∧ w.cell? ⟨B, 1, none⟩ = some (.string o.path) ∧ w.cell? ⟨B, 2, none⟩ = some (.string o.to) ∧ w.cell? ⟨B, 3, none⟩ = some (.int .i64 o.off) ∧ w.cell? ⟨B, 4, none⟩ = some (.int .i64 o.n) ∧ w.cell? ⟨B, 5, none⟩ = some dv ∧ w.cell? ⟨B, 6, none⟩ = some (.int .i64 o.snap) ∧ B < w.heap.size := by
 have hl := (Array.getElem?_eq_some_iff.1 h).1
 unfold OBox at h
 refine ⟨?_, ?_, ?_, ?_, ?_, ?_, ?_, hl⟩ <;> simp [World.cell?, h]
theorem OBox.below {w w' : World} {B : Nat} {o : OpB} {dv : Value} (h : OBox w B o dv) (hb : Below w.heap.size w w') : OBox w' B o dv := (hb.block B h.c.2.2.2.2.2.2.2).trans h
theorem OBox.turn {w w' : World} {B p b : Nat} {o : OpB} {dv : Value} (h : OBox w B o dv) (ht : Turn p b w w') (hp : B ≠ p) (hb : B ≠ b) : OBox w' B o dv := (ht.block B h.c.2.2.2.2.2.2.2 hp hb).trans h
def Two (w W : World) (o : OpB) (dv : Value) : Prop := OBox W w.heap.size o dv ∧ RBox W (w.heap.size + 1) ∧ Below w.heap.size w W
theorem two_new (w : World) (o : OpB) (dv : Value) : Two w ((w.alloc (.cells #[.int .i64 o.kind, .string o.path, .string o.to, .int .i64 o.off, .int .i64 o.n, dv, .int .i64 o.snap] 35)).alloc (.cells #[.int .i64 0, .int .i64 0, .int .i64 0, .int .i64 0, .int .i64 0, .slice none 0 0, .slice none 0 0, .slice none 0 0] 40)) o dv := by
 obtain ⟨W1, hW1⟩ : ∃ z, z = w.alloc (.cells #[.int .i64 o.kind, .string o.path, .string o.to, .int .i64 o.off, .int .i64 o.n, dv, .int .i64 o.snap] 35) := ⟨_, rfl⟩
 have h1 : OBox W1 w.heap.size o dv := by rw [hW1]; exact (MapKept.heap_alloc w _).1
 have hs : W1.heap.size = w.heap.size + 1 := by rw [hW1]; simp
 have hb : Below w.heap.size w W1 := by rw [hW1]; exact (Below.refl _ _).alloc (Nat.le_refl _) _
 rw [← hW1]
 refine ⟨h1.below ((Below.refl _ _).alloc (Nat.le_refl _) _), ?_, hb.alloc hb.size _⟩
 have := rbox_new W1
 rw [hs] at this
 exact this
theorem Two.below {w W W' : World} {o : OpB} {dv : Value} (h : Two w W o dv) (hb : Below W.heap.size W W') : Two w W' o dv := ⟨h.1.below hb, h.2.1.below hb, bel2v h.2.2 hb⟩
def fileF (t : TreeB) (o : OpB) (q : Except Int Nat) : TreeB × ReplyB × Int := match q with
 | .error e => (t, noReply, e)
 | .ok k => if o.kind = 7 then (if o.off < 0 ∨ o.n < 0 then (t, noReply, 12) else (t, { noReply with data := ((nodeAt t k).data.drop o.off.toNat).take o.n.toNat }, 0)) else
   if o.kind = 8 then (if o.off < 0 ∨ o.off > 2000 - (o.data.length : Int) then (t, noReply, 12) else
    (dataB t k (if o.data.length = 0 then (nodeAt t k).data else laidB (bytesB (nodeAt t k).data (max (nodeAt t k).data.length (o.off.toNat + o.data.length))) o.off.toNat o.data), { noReply with n := o.data.length }, 0)) else
   if o.n < 0 ∨ 2000 < o.n then (t, noReply, 12) else (dataB t k (bytesB (nodeAt t k).data o.n.toNat), noReply, 0)
theorem data_same {t : TreeB} {k : Nat} (hk : k < t.nodes.length) : dataB t k (nodeAt t k).data = t := by
 unfold dataB setB
 have : ({ nodeAt t k with data := (nodeAt t k).data } : NodeB) = t.nodes[k] := by rw [nodeAt_eq t k hk]
 rw [this, List.set_getElem_self]
theorem file_eq {t : TreeB} (hG : Good t) (o : OpB) (ho : o.kind = 7 ∨ o.kind = 8 ∨ o.kind = 9) : fileB t o = fileF t o (outFile t (findB t o.path)) := by
 unfold fileB
 cases hf : findB t o.path with
 | error e => rfl
 | ok k =>
   have hk := find_lt hG.e.fair hf
   simp only [outFile]
   by_cases h2 : (nodeAt t k).kind = 2
   · rw [if_pos h2, if_pos h2]; rfl
   · rw [if_neg h2, if_neg h2]
     simp only [fileF]
     by_cases h7 : o.kind = 7
     · rw [if_pos h7, if_pos h7]
     · rw [if_neg h7, if_neg h7]
       by_cases h8 : o.kind = 8
       · rw [if_pos h8, if_pos h8]
         by_cases hr : o.off < 0 ∨ 2000 < o.off ∨ 2000 - o.off < (o.data.length : Int)
         · have hr2 : o.off < 0 ∨ o.off > 2000 - (o.data.length : Int) := by omega
           rw [if_pos hr, if_pos hr2]
         · have hr2 : ¬ (o.off < 0 ∨ o.off > 2000 - (o.data.length : Int)) := by omega
           rw [if_neg hr, if_neg hr2]
           by_cases h0 : o.data.length = 0
           · rw [if_pos h0, if_pos h0, data_same hk, h0]; rfl
           · rw [if_neg h0, if_neg h0]
       · rw [if_neg h8, if_neg h8]
theorem put_data {w W : World} {p b : Nat} {t : TreeB} {k : Nat} (hT : DTree w p b t) (ht : Fair t) (hk : k < t.nodes.length) (hk1 : (nodeAt t k).kind = 1) (hb : Below w.heap.size w W) (dv : Value) (l : List Int) (hdv : Sees W dv (intsV .u8 l)) :
 ∃ w5, (Instr.mapUpdate 50 (.map (some b)) (.int .i64 (nodeAt t k).ino) (.agg #[.int .i64 1, dv, .slice none 0 0])).run Tryz.prog W = .ok () w5 ∧ DTree w5 p b (dataB t k l) ∧ Turn p b w w5 ∧ Turn p b W w5 := by
 have ok := ht.each _ (nodeAt_mem hk)
 have hn : (nodeAt t k).names = [] := by
  rcases ok.2.2 with h | h
  · omega
  · exact h.2.1
 obtain ⟨w5, h1, h2, h3, _⟩ := (hT.below hb).put (w1 := W) ht hk ⟨{ nodeAt t k with data := l }, dv, .slice none 0 0⟩ rfl ⟨hdv, ⟨none, 0, by simp [pairsB, hn], by simp [pairsB, hn], by simp, fun _ => rfl, fun h => by simp [pairsB, hn] at h⟩⟩
 refine ⟨w5, ?_, h2, (turn_below hb).trans h3, h3⟩
 have e : (⟨{ nodeAt t k with data := l }, dv, .slice none 0 0⟩ : DN).val = .agg #[.int .i64 1, dv, .slice none 0 0] := by unfold DN.val; simp only; rw [hk1]
 rw [e] at h1
 exact h1
theorem dsized9 {W : World} {dv : Value} {l : List Int} {n : Int} (hd : Sees W dv (intsV .u8 l)) (hn : 0 ≤ n ∧ n ≤ 2000) : Calls Tryz.prog 105 #[dv, .int .i64 n] W fun e w' => ∃ r, e = .returned r ∧ Sees w' r (intsV .u8 (bytesB l n.toNat)) ∧ Below W.heap.size W w' := by
 have h9 := dsized_any dv l n.toNat W hd (by omega)
 rw [show ((n.toNat : Nat) : Int) = n by omega] at h9
 refine h9.mono ?_
 rintro e w' ⟨rfl, hg, hb⟩
 have hl3 : W.heap.size < w'.heap.size := (Array.getElem?_eq_some_iff.1 hg).1
 refine ⟨_, rfl, ⟨some ⟨W.heap.size, 0, none⟩, n.toNat, by rw [intsV_len, bytesB_len], by rw [intsV_len, bytesB_len]; exact Nat.le_refl _, by unfold maxLen; omega, by simp, fun _ => ⟨W.heap.size, 0, rfl, hl3, fun i x hx => ?_⟩⟩, hb⟩
 simp only [World.cell?, hg, Nat.zero_add]
 simpa using hx
theorem dwritten9 {W : World} {dv mv : Value} {l m : List Int} {off : Int} (hd : Sees W dv (intsV .u8 l)) (hm : Sees W mv (intsV .u8 m)) (hl : l.length ≤ 2000) (ho : 0 ≤ off ∧ off + (m.length : Int) ≤ 2000) : Calls Tryz.prog 104 #[dv, .int .i64 off, mv] W fun e w' => ∃ r, e = .returned r ∧ Sees w' r (intsV .u8 (if m.length = 0 then l else laidB (bytesB l (max l.length (off.toNat + m.length))) off.toNat m)) ∧ Below W.heap.size W w' := by
 have h9 := dwritten_any dv mv l m off.toNat W hd hm hl (by omega)
 rw [show ((off.toNat : Nat) : Int) = off by omega] at h9
 exact h9
theorem told_two {w w1 W2 : World} {p b : Nat} {t : TreeB} (hT1 : DTree w1 p b t) (ht : Turn p b w w1) (hB : RBox w1 (w.heap.size + 1)) (hp : p < w.heap.size) (hb : b < w.heap.size) (ho : Only (w.heap.size + 1) w1 W2) : DTree W2 p b t ∧ Turn p b w W2 :=
 told_fin hT1 ht hB (by omega) (by omega) (by omega) ho (Below.refl _ _)
end Go.Proofs.YtbebgobboccjcaaGreatDoor
namespace Go.Proofs.YtbebgobboccjcaaGreatDoor
open Go.RowKit Kit
set_option linter.unusedVariables false

set_option maxRecDepth 4000 in
set_option maxHeartbeats 16000000 in
theorem donFile_cut (o : OpB) (da : Option Addr) (dc : Nat) (w : World) (p b : Nat) (t : TreeB) (hT : DTree w p b t) (hG : Good t) (hs1 : o.path.size ≤ maxLen) (hdv : Sees w (.slice da o.data.length dc) (intsV .u8 o.data)) (k : Nat) (hq : outFile t (findB t o.path) = .ok k) (ho : o.kind = 9) (hr : ¬ (o.n < 0 ∨ 2000 < o.n)) :
 Calls Tryz.prog 65 #[.pointer (some ⟨p, 0, none⟩), .agg #[.int .i64 o.kind, .string o.path, .string o.to, .int .i64 o.off, .int .i64 o.n, .slice da o.data.length dc, .int .i64 o.snap]] w fun e w' => Told w p b (fileF t o (outFile t (findB t o.path))) e w' := by
 have ht := hG.e.fair
 have H0 : Hid (Two w _ o (.slice da o.data.length dc)) := two_new w o (.slice da o.data.length dc)
 have HFi : Hid (∀ W, Below w.heap.size w W → _) := fun W hW => dfile_any o.path W p b t (hT.below hW) ht hs1
 have HT : Hid (DTree w p b t ∧ Good t) := ⟨hT, hG⟩
 obtain ⟨hp, hb⟩ := hT.cells.2.2.2
 have HPB : Hid (p < w.heap.size ∧ b < w.heap.size) := ⟨hp, hb⟩
 have HDV : Hid (Sees w (.slice da o.data.length dc) (intsV .u8 o.data)) := hdv
 have dlb : (o.data.length : Int) ≤ 9223372036854775807 := by
  obtain ⟨ao, cap, e, h1, h2, h3⟩ := hdv
  rw [intsV_len] at h1
  unfold maxLen at h2
  clear h3
  omega
 rw [hq] at HFi ⊢
 obtain ⟨hfk, hkk⟩ : findB t o.path = .ok k ∧ (nodeAt t k).kind ≠ 2 := by
  cases hf : findB t o.path with
  | error y => rw [hf] at hq; simp only [outFile] at hq; cases hq
  | ok k' =>
    rw [hf] at hq
    simp only [outFile] at hq
    split at hq
    · cases hq
    · rename_i h2; injection hq with hq; subst hq; exact ⟨rfl, h2⟩
 have hk := find_lt ht hfk
 have hk1 : (nodeAt t k).kind = 1 := by
  rcases ht.kind (nodeAt_mem hk) with h | h
  · exact h
  · exact absurd h hkk
 have ok := ht.each _ (nodeAt_mem hk)
 have hdl : (nodeAt t k).data.length ≤ 2000 := by
  rcases ok.2.2 with h | h
  · omega
  · exact h.2.2.2.1
 obtain ⟨na, nc, sa, sc, hlook⟩ := hT.lookAt ht hk
 have HLK : Hid (∀ W, Below w.heap.size w W → _) := hlook
 have HND : Hid (∀ W, Below w.heap.size w W → Sees W (.slice na (nodeAt t k).data.length nc) (intsV .u8 (nodeAt t k).data)) := fun W hW => (hlook W hW).2.2.1
 have HPD : Hid (∀ W, Below w.heap.size w W → ∀ dv l, Sees W dv (intsV .u8 l) → _) := fun W hW dv l h => put_data hT ht hk hk1 hW dv l h
 have hf1 := nfield1
 simp only [outW2] at HFi
 have e00 : errV 0 = .nilIface := rfl
 rw [e00] at HFi
 have HRE : Hid (fileF t o (.ok k) = _) := rfl
 simp only [fileF] at HRE
 have HR : Hid (fileF t o (.ok k) = (dataB t k (bytesB (nodeAt t k).data o.n.toNat), ⟨0, 0, 0, 0, 0, [], [], []⟩, 0)) := by
  show _ = _
  simp only [fileF]
  rw [if_neg (by omega), if_neg (by omega), if_neg hr]
  rfl
 have HCA : Hid (∀ W, Two w W o (.slice da o.data.length dc) → Calls Tryz.prog 105 #[.slice na (nodeAt t k).data.length nc, .int .i64 o.n] W.drew fun e w' => ∃ ao m cap, e = .returned (.slice ao m cap) ∧ w'.cell? ⟨p, 0, none⟩ = some (.map (some b)) ∧ w'.cell? ⟨w.heap.size, 3, none⟩ = some (.int .i64 o.off) ∧ w'.cell? ⟨w.heap.size, 4, none⟩ = some (.int .i64 o.n) ∧ w'.cell? ⟨w.heap.size, 5, none⟩ = some (.slice da o.data.length dc) ∧ ∃ w5, (Instr.mapUpdate 50 (.map (some b)) (.int .i64 (nodeAt t k).ino) (.agg #[.int .i64 1, .slice ao m cap, .slice none 0 0])).run Tryz.prog w' = .ok () w5 ∧ Hid (DTree w5 p b (dataB t k (bytesB (nodeAt t k).data o.n.toNat)) ∧ Turn p b w w5 ∧ OBox w5 w.heap.size o (.slice da o.data.length dc) ∧ RBox w5 (w.heap.size + 1))) := fun W hW => by
  refine (dsized9 (HND.out W.drew hW.2.2.drew) (by omega)).mono ?_
  rintro e w' ⟨r, rfl, hr2, hb2⟩
  obtain ⟨ao, cap, e1, _⟩ := id hr2
  have hW2 : Two w w' o (.slice da o.data.length dc) := Two.below (W := W.drew) ⟨by exact hW.1, by exact hW.2.1, hW.2.2.drew⟩ hb2
  have hc := hW2.1.c
  obtain ⟨w5, k1, k2, k3, k4⟩ := HPD.out w' hW2.2.2 _ _ hr2
  subst e1
  exact ⟨ao, _, cap, rfl, (hT.below hW2.2.2).cells.1, hc.2.2.2.1, hc.2.2.2.2.1, hc.2.2.2.2.2.1, w5, k1, ⟨k2, k3, hW2.1.turn k4 (by omega) (by omega), hW2.2.1.turn k4 (by omega) (by omega)⟩⟩
 rw [HR.out]
 obtain ⟨kind, path, to, off, n, data, snap⟩ := o
 simp only at ho hr
 subst ho
 simp only at HCA HR ⊢
 obtain ⟨ii, hii⟩ : ∃ jj, (nodeAt t k).ino = jj := ⟨_, rfl⟩
 rw [hii] at HFi HLK HCA
 rw [hk1] at HLK
 obtain ⟨t3, ht3⟩ : ∃ jj, dataB t k (bytesB (nodeAt t k).data n.toNat) = jj := ⟨_, rfl⟩
 rw [ht3] at HCA ⊢
 obtain ⟨nd, hnd⟩ : ∃ jj, (nodeAt t k).data.length = jj := ⟨_, rfl⟩
 rw [hnd] at HLK HCA
 obtain ⟨dl, hdl2⟩ : ∃ jj, data.length = jj := ⟨_, rfl⟩
 simp only at H0 HFi ⊢
 rw [hdl2] at H0 HCA ⊢
 simp only [hdl2] at dlb
 have ha : ¬ n < 0 := by omega
 have hb2 : ¬ n > 2000 := by omega
 clear hT hG hs1 hdv ht hp hb hq hfk hkk hk hk1 ok hdl hlook HND HPD e00 HRE HR hii hnd hdl2 HDV hr ht3
 go_enter Tryz.func65, Tryz.ntmps65
 go_wp2_with fail
 go_at_call 102
 refine (HFi.out _ H0.out.2.2).mono ?_
 rintro e w1 ⟨rfl, hb1⟩
 have H1 : Hid (Two w w1 ⟨9, path, to, off, n, data, snap⟩ (.slice da dl dc)) := H0.out.below hb1
 obtain ⟨o0, o1, o2, o3, o4, o5, o6, _⟩ := H1.out.1.c
 obtain ⟨b0, b1, b2, b3, b4, b5, b6, b7, bf, _⟩ := H1.out.2.1.c
 obtain ⟨hl, c0, _⟩ := HLK.out w1 H1.out.2.2
 have HC1 : Hid (Calls Tryz.prog 105 _ _ _) := HCA.out w1 H1.out
 clear hb1 HFi H0 HLK HCA b0 b1 b2 b3 b4 b5 b6 b7 bf
 go_wp2
 go_region_with (first
  | (go_at_call 105; refine HC1.out.mono ?_; rintro e w2 ⟨ao, m, cap, rfl, d0, d3, d4, d5, w5, hput, H5⟩))
 all_goals (
  have f5 := H5.out.2.2.1.c.2.2.2.2.2.1
  obtain ⟨b0, b1, b2, b3, b4, b5, b6, b7, bf, _⟩ := H5.out.2.2.2.c
  clear HC1 hput d0 d3 d4 d5 o0 o1 o2 o3 o4 o5 o6 hl c0
  go_wp2
  refine bodyPost_ret (v := .tuple #[.agg #[.int .i64 0, .int .i64 0, .int .i64 0, .int .i64 0, .int .i64 (0), .slice none 0 0, .slice none 0 0, .slice none 0 0], .nilIface]) (by simp [results, Tryz.results65, go_sem, *]) rfl ?_
  have ho := outR_only w5 (w.heap.size + 1) (.int .i64 0) (.int .i64 0) (.int .i64 0) (.int .i64 0) (.int .i64 (0)) (.slice none 0 0) (.slice none 0 0) (.slice none 0 0)
  have hf := told_two H5.out.1 H5.out.2.1 H5.out.2.2.2 HPB.out.1 HPB.out.2 ho
  exact ⟨_, rfl, replyAt_no' _ _ _ _ _ _, hf.1, hf.2⟩)
end Go.Proofs.YtbebgobboccjcaaGreatDoor
namespace Go.Proofs.YtbebgobboccjcaaGreatDoor
open Go.RowKit Kit
set_option linter.unusedVariables false

set_option maxRecDepth 4000 in
set_option maxHeartbeats 8000000 in
theorem dunnamePath_any (path : ByteArray) (w : World) (p b : Nat) (t : TreeB) (hT : DTree w p b t) (ht : Fair t) (hs1 : path.size ≤ maxLen) (d : Nat) (s : ByteArray) (hh : homeB t path = .ok (d, s)) (hs : s ∈ (nodeAt t d).names) :
 Calls Tryz.prog 98 #[.pointer (some ⟨p, 0, none⟩), .string path] w fun e w' => e = .returned (.tuple #[]) ∧ DTree w' p b (unnameB t d s) ∧ Turn p b w w' := by
 have HX : Hid (Calls Tryz.prog 100 _ _ _) := dplace_any path w p b t hT ht hs1
 rw [hh] at HX
 simp only [outP] at HX
 have e00 : errV 0 = .nilIface := rfl
 rw [e00] at HX
 obtain ⟨hd, hdk⟩ := home_lt ht hh
 have HU : Hid (∀ W, Below w.heap.size w W → _) := fun W hW => dunname_any s W p b t d (hT.below hW) ht hd hdk hs
 obtain ⟨jj, hjj⟩ : ∃ jj, (nodeAt t d).ino = jj := ⟨_, rfl⟩
 rw [hjj] at HX HU
 clear hT ht hs1 hh hs e00 hd hdk hjj
 go_enter Tryz.func98, Tryz.ntmps98
 go_wp2_with fail
 go_at_call 100
 refine HX.out.mono ?_
 rintro e w1 ⟨rfl, hb1⟩
 have HU1 : Hid (Calls Tryz.prog 101 _ _ _) := HU.out w1 hb1
 have H1 : Hid (Below w.heap.size w w1) := hb1
 clear hb1 HX HU
 go_wp2_with fail
 go_at_call 101
 refine HU1.out.mono ?_
 rintro e w2 ⟨rfl, hd2, ht2⟩
 have H2 : Hid (DTree w2 p b (unnameB t d s) ∧ Turn p b w w2) := ⟨hd2, (turn_below H1.out).trans ht2⟩
 clear hd2 ht2 HU1
 go_wp2
 go_end0
 exact ⟨rfl, H2.out⟩
def removeK (o : OpB) : Int := if o.kind = 4 then 2 else 1
def removesF (t : TreeB) (o : OpB) (f : Except Int Nat) : TreeB × ReplyB × Int := match f with
 | .error e => (t, noReply, e)
 | .ok k => if unlikeB (removeK o) (nodeAt t k).kind (nodeAt t k).names.length ≠ 0 then (t, noReply, unlikeB (removeK o) (nodeAt t k).kind (nodeAt t k).names.length) else match homeB t o.path with
   | .error _ => (t, noReply, 0)
   | .ok (d, s) => (sweptB (setB t d (withoutB (nodeAt t d) s)), noReply, 0)
theorem removes_eq {t : TreeB} (hG : Good t) (o : OpB) (ho : o.kind = 3 ∨ o.kind = 4) (hp : (parentB o.path).2.2 = 0) : removesB t o = removesF t o (findB t o.path) := by
 unfold removesB
 rw [if_neg (by simp [hp])]
 cases hf : findB t o.path with
 | error e => rfl
 | ok k =>
   have hk := find_lt hG.e.fair hf
   have hkk := hG.e.fair.kind (nodeAt_mem hk)
   have ok := hG.e.each _ (nodeAt_mem hk)
   simp only [removesF, removeK, unlikeB]
   rcases ho with ho | ho <;> rcases hkk with hk1 | hk1
   · have hn : (nodeAt t k).names = [] := by
      rcases ok.2.2 with h | h
      · omega
      · exact h.2.1
     simp [ho, hk1, hn]
     rfl
   · simp [ho, hk1]
   · simp [ho, hk1]
   · by_cases h0 : 0 < (nodeAt t k).names.length
     · simp [ho, hk1, h0]
     · simp [ho, hk1, h0]
       rfl
set_option maxRecDepth 4000 in
set_option maxHeartbeats 8000000 in
theorem dremove_any (o : OpB) (ho : o.kind = 3 ∨ o.kind = 4) (w : World) (p b : Nat) (t : TreeB) (hT : DTree w p b t) (hG : Good t) (hs1 : o.path.size ≤ maxLen) :
 Calls Tryz.prog 62 #[.pointer (some ⟨p, 0, none⟩), .string o.path, .int .i64 (removeK o)] w fun e w' => e = .returned (errV (removesB t o).2.2) ∧ DTree w' p b (removesB t o).1 ∧ Turn p b w w' := by
 have ht := hG.e.fair
 have HX : Hid (Calls Tryz.prog 96 _ _ _) := nparent_any o.path w hs1
 have HFd : Hid (∀ W, Below w.heap.size w W → _) := fun W hW => dfind_any o.path W p b t (hT.below hW) ht hs1
 have HT : Hid (DTree w p b t ∧ Good t ∧ o.path.size ≤ maxLen) := ⟨hT, hG, hs1⟩
 have HL0 : Hid ((parentB o.path).2.2 ≠ 0 → removesB t o = (t, noReply, (parentB o.path).2.2)) := fun h => by unfold removesB; rw [if_pos h]
 have HL1 : Hid ((parentB o.path).2.2 = 0 → removesB t o = removesF t o (findB t o.path)) := fun h => removes_eq hG o ho h
 have HPP : Hid ((parentB o.path).2.2 = 0 → ∀ k, findB t o.path = .ok k → ∃ d s, homeB t o.path = .ok (d, s) ∧ s ∈ (nodeAt t d).names ∧ unnameB t d s = sweptB (setB t d (withoutB (nodeAt t d) s))) := fun h k hf => by
  obtain ⟨d, s, l, h1, _, _, h2, h3, h4, h5⟩ := find_home hG.e h hf
  exact ⟨d, s, h1, has_iff.1 ((has_name (hG.e.each _ (nodeAt_mem h2)) (ht.nz (nodeAt_mem h2)) s).2 h5), unname_swept hG h2 h3 h5⟩
 obtain ⟨⟨d0, q0, e0⟩, he⟩ : ∃ x, parentB o.path = x := ⟨_, rfl⟩
 rw [he] at HX HL0 HL1 HPP
 simp only at HX HL0 HL1 HPP
 obtain ⟨f, hf⟩ : ∃ f, findB t o.path = f := ⟨_, rfl⟩
 have HF0 : Hid (findB t o.path = f) := hf
 rw [hf] at HFd HL1 HPP
 obtain ⟨r, hr⟩ : ∃ r, removesB t o = r := ⟨_, rfl⟩
 rw [hr] at HL0 HL1 ⊢
 have hrk : removeK o = 1 ∨ removeK o = 2 := by unfold removeK; split <;> simp
 clear hs1 he hf hr hT hG ht
 by_cases hp0 : e0 = 0
 case neg =>
  have HR : Hid (r = (t, noReply, e0)) := HL0.out hp0
  have HE : Hid (errV e0 = .iface 80 (.int .i64 e0)) := errV_ne hp0
  rw [errV_ne hp0] at HX
  clear HL0 HL1 HPP hp0
  go_enter Tryz.func62, Tryz.ntmps62
  go_wp2_with fail
  go_at_call 96
  refine HX.out.mono ?_
  rintro e w1 ⟨rfl, hb1⟩
  have H1 : Hid (Below w.heap.size w w1) := hb1
  clear hb1 HX
  go_wp2
  go_ret
  rw [HR.out]
  exact ⟨by rw [HE.out]; rfl, HT.out.1.below H1.out, turn_below H1.out⟩
 subst hp0
 have e00 : errV 0 = .nilIface := rfl
 rw [e00] at HX
 have HR1 : Hid (r = removesF t o f) := HL1.out rfl
 clear HL0 HL1
 cases f with
 | error x =>
   have hx := find_code' HF0.out
   have HE : Hid (errV x = .iface 80 (.int .i64 x)) := errV_ne hx
   simp only [outW2] at HFd
   rw [errV_ne hx] at HFd
   clear HPP hx e00
   go_enter Tryz.func62, Tryz.ntmps62
   go_wp2_with fail
   go_at_call 96
   refine HX.out.mono ?_
   rintro e w1 ⟨rfl, hb1⟩
   have H1 : Hid (Below w.heap.size w w1) := hb1
   clear hb1 HX
   go_wp2_with fail
   go_at_call 22
   refine (HFd.out w1 H1.out).mono ?_
   rintro e w2 ⟨rfl, hb2⟩
   have H2 : Hid (Below w.heap.size w w2) := bel2v H1.out hb2
   clear hb2 HFd H1
   go_wp2
   go_ret
   rw [HR1.out]
   exact ⟨by simp only [removesF]; rw [HE.out]; rfl, HT.out.1.below H2.out, turn_below H2.out⟩
 | ok k =>
   have hk := find_lt HT.out.2.1.e.fair HF0.out
   obtain ⟨d, s, hh, hsm, hsw⟩ := HPP.out rfl k rfl
   obtain ⟨da, dc, sa, sc, hlook⟩ := HT.out.1.lookAt HT.out.2.1.e.fair hk
   have hkk := HT.out.2.1.e.fair.kind (nodeAt_mem hk)
   have hnm := HT.out.2.1.e.fair.names _ (nodeAt_mem hk)
   have HLK : Hid (∀ W, Below w.heap.size w W → _) := hlook
   have HUL : Hid (∀ W, _) := fun W => dunlike_any (removeK o) (nodeAt t k).kind da sa (nodeAt t k).data.length dc (nodeAt t k).names.length sc W hrk hkk (by omega)
   have HUP : Hid (∀ W, Below w.heap.size w W → _) := fun W hW => dunnamePath_any o.path W p b t (HT.out.1.below hW) HT.out.2.1.e.fair HT.out.2.2 d s hh hsm
   rw [hsw] at HUP
   have HR : Hid (r = if unlikeB (removeK o) (nodeAt t k).kind (nodeAt t k).names.length ≠ 0 then (t, noReply, unlikeB (removeK o) (nodeAt t k).kind (nodeAt t k).names.length) else (sweptB (setB t d (withoutB (nodeAt t d) s)), noReply, 0)) := by show _ = _; rw [HR1.out]; simp only [removesF]; rw [hh]
   simp only [outW2] at HFd
   rw [e00] at HFd
   obtain ⟨u, hu⟩ : ∃ u, unlikeB (removeK o) (nodeAt t k).kind (nodeAt t k).names.length = u := ⟨_, rfl⟩
   rw [hu] at HUL HR
   obtain ⟨ii, hii⟩ : ∃ jj, (nodeAt t k).ino = jj := ⟨_, rfl⟩
   rw [hii] at HFd HLK
   obtain ⟨kk, hkq⟩ : ∃ jj, (nodeAt t k).kind = jj := ⟨_, rfl⟩
   rw [hkq] at HUL HLK
   obtain ⟨rk, hrq⟩ : ∃ jj, removeK o = jj := ⟨_, rfl⟩
   rw [hrq] at HUL ⊢
   obtain ⟨t3, ht3⟩ : ∃ t3, sweptB (setB t d (withoutB (nodeAt t d) s)) = t3 := ⟨_, rfl⟩
   rw [ht3] at HUP HR
   clear HPP hh hsm hsw hlook hkk hnm e00 hu hii hkq hrq hrk ht3 HR1
   by_cases hu0 : u = 0
   · subst hu0
     have e00 : errV 0 = .nilIface := rfl
     rw [e00] at HUL
     have HR2 : Hid (r = (t3, noReply, 0)) := by show _ = _; rw [HR.out, if_neg (by simp)]
     clear HR e00
     go_enter Tryz.func62, Tryz.ntmps62
     go_wp2_with fail
     go_at_call 96
     refine HX.out.mono ?_
     rintro e w1 ⟨rfl, hb1⟩
     have H1 : Hid (Below w.heap.size w w1) := hb1
     clear hb1 HX
     go_wp2_with fail
     go_at_call 22
     refine (HFd.out w1 H1.out).mono ?_
     rintro e w2 ⟨rfl, hb2⟩
     have H2 : Hid (Below w.heap.size w w2) := bel2v H1.out hb2
     obtain ⟨hl, c0, _⟩ := HLK.out w2 H2.out
     clear hb2 HFd H1 HLK
     go_wp2_with fail
     go_at_call 97
     refine (HUL.out w2).mono ?_
     rintro e w3 ⟨rfl, hb3⟩
     have H3 : Hid (Below w.heap.size w w3) := bel2v H2.out hb3
     clear hb3 HUL H2
     go_wp2_with fail
     go_at_call 98
     refine (HUP.out w3 H3.out).mono ?_
     rintro e w4 ⟨rfl, hd4, ht4⟩
     have H4 : Hid (DTree w4 p b t3 ∧ Turn p b w w4) := ⟨hd4, (turn_below H3.out).trans ht4⟩
     clear hd4 ht4 HUP H3
     go_wp2
     go_ret
     rw [HR2.out]
     exact ⟨rfl, H4.out⟩
   · have HE : Hid (errV u = .iface 80 (.int .i64 u)) := errV_ne hu0
     have HR2 : Hid (r = (t, noReply, u)) := by show _ = _; rw [HR.out, if_pos hu0]
     rw [errV_ne hu0] at HUL
     clear HR hu0 HUP
     go_enter Tryz.func62, Tryz.ntmps62
     go_wp2_with fail
     go_at_call 96
     refine HX.out.mono ?_
     rintro e w1 ⟨rfl, hb1⟩
     have H1 : Hid (Below w.heap.size w w1) := hb1
     clear hb1 HX
     go_wp2_with fail
     go_at_call 22
     refine (HFd.out w1 H1.out).mono ?_
     rintro e w2 ⟨rfl, hb2⟩
     have H2 : Hid (Below w.heap.size w w2) := bel2v H1.out hb2
     obtain ⟨hl, c0, _⟩ := HLK.out w2 H2.out
     clear hb2 HFd H1 HLK
     go_wp2_with fail
     go_at_call 97
     refine (HUL.out w2).mono ?_
     rintro e w3 ⟨rfl, hb3⟩
     have H3 : Hid (Below w.heap.size w w3) := bel2v H2.out hb3
     clear hb3 HUL H2
     go_wp2
     go_ret
     rw [HR2.out]
     exact ⟨by rw [HE.out]; rfl, HT.out.1.below H3.out, turn_below H3.out⟩
end Go.Proofs.YtbebgobboccjcaaGreatDoor
namespace Go.Proofs.YtbebgobboccjcaaGreatDoor
open Go.RowKit Kit
set_option linter.unusedVariables false

theorem swept_good {t : TreeB} (hG : Good t) : sweptB t = t := by
 unfold sweptB
 have : t.nodes.filter (fun n => decide (0 < linksB t n.ino)) = t.nodes := by
  rw [List.filter_eq_self]
  intro n hn
  apply decide_eq_true
  rw [hG.e.fair.links hn]
  unfold linksD
  split
  · omega
  · rename_i h; exact hG.2 n hn h
 rw [this]
theorem small_names {t : TreeB} (hG : Good t) {d : Nat} (hd : d < t.nodes.length) : (nodeAt t d).names.length < 10000 := by
 have := (names_small hG.e (nodeAt_mem hd)).1
 omega
theorem ren_new {t : TreeB} (hG : Good t) {p0 d : Nat} (hp : p0 < t.nodes.length) (hd : d < t.nodes.length) (hpk : (nodeAt t p0).kind = 2) (hdk : (nodeAt t d).kind = 2) {path s old : ByteArray} {l : List ByteArray}
 (hpar : (parentB path).2.2 = 0) (hl : (splitB path).1 = l ++ [old]) (hw : walkB t 0 l = .ok p0) {I : Int} (hI : nameB (nodeAt t p0) old = I) (hI0 : I ≠ 0) (ho : okB s = true ∧ s.size ≤ 12) (hTs : nameB (nodeAt t d) s = 0) :
 ∃ p2, s ∉ (nodeAt t d).names ∧ Fair (setB t d (withB (nodeAt t d) s I)) ∧ homeB (setB t d (withB (nodeAt t d) s I)) path = .ok (p2, old) ∧ old ∈ (nodeAt (setB t d (withB (nodeAt t d) s I)) p2).names ∧ unnameB (setB t d (withB (nodeAt t d) s I)) p2 old = sweptB (movedB t p0 old d s I) := by
 have ht := hG.e.fair
 have hsn := name_free hG.e hd hdk hTs
 have hset : t = setB t d (id (nodeAt t d)) := by
  unfold setB
  rw [nodeAt_eq t d hd]
  simp only [id]
  rw [List.set_getElem_self]
 obtain ⟨x1, d1, p2, h1, h2, h3, h4, h5, h6, h7, h8, h9, h10⟩ := ren_any (X := t) (k := 0) hG hp hd hpk hdk hpar hl hw hI hI0 ho hTs hI0 (by omega) (fun n hn e => by have := ht.pos n hn; omega) id (fun _ => rfl) (fun _ => rfl) (fun q _ _ => rfl) hsn (small_names hG hd) hset ht (fun _ _ => rfl)
 rw [swept_good hG] at h1
 subst h1
 have : d1 = d := rises_inj ht.rise h3 hd h4
 subst this
 exact ⟨p2, h6, h7, h8, h9, h10⟩
theorem ren_there {t : TreeB} (hG : Good t) {p0 d m : Nat} (hp : p0 < t.nodes.length) (hd : d < t.nodes.length) (hpk : (nodeAt t p0).kind = 2) (hdk : (nodeAt t d).kind = 2) {path s old : ByteArray} {l : List ByteArray}
 (hpar : (parentB path).2.2 = 0) (hl : (splitB path).1 = l ++ [old]) (hw : walkB t 0 l = .ok p0) {I T : Int} (hI : nameB (nodeAt t p0) old = I) (hI0 : I ≠ 0) (ho : okB s = true ∧ s.size ≤ 12) (hTs : nameB (nodeAt t d) s = T) (hT0 : T ≠ 0) (hIT : I ≠ T)
 (hm : m < t.nodes.length) (hmT : (nodeAt t m).ino = T) (hmn : (nodeAt t m).names.length = 0) :
 ∃ d1 p2, Fair (unnameB t d s) ∧ d1 < (unnameB t d s).nodes.length ∧ (nodeAt (unnameB t d s) d1).ino = (nodeAt t d).ino ∧ (nodeAt (unnameB t d s) d1).kind = 2 ∧ s ∉ (nodeAt (unnameB t d s) d1).names ∧ Fair (setB (unnameB t d s) d1 (withB (nodeAt (unnameB t d s) d1) s I)) ∧
  homeB (setB (unnameB t d s) d1 (withB (nodeAt (unnameB t d s) d1) s I)) path = .ok (p2, old) ∧ old ∈ (nodeAt (setB (unnameB t d s) d1 (withB (nodeAt (unnameB t d s) d1) s I)) p2).names ∧ unnameB (setB (unnameB t d s) d1 (withB (nodeAt (unnameB t d s) d1) s I)) p2 old = sweptB (movedB (setB t d (withoutB (nodeAt t d) s)) p0 old d s I) := by
 have ht := hG.e.fair
 have okd := ht.each _ (nodeAt_mem hd)
 obtain ⟨k', q1, q2, q3, q4⟩ := ht.step hd (s := s) (by rw [hTs]; exact hT0)
 rw [hTs] at q4
 have hkid := kids_unname ht hd (s := s) (by rw [hTs]; exact hT0)
 rw [hTs] at hkid
 obtain ⟨x1, d1, p2, h1, h2, h3, h4, h5, h6, h7, h8, h9, h10⟩ := ren_any (X := setB t d (withoutB (nodeAt t d) s)) (k := 0) hG hp hd hpk hdk hpar hl hw hI hI0 ho hTs hIT q4 (fun n hn e q => by
  have e2 : n = nodeAt t m := rises_eq ht.rise hn (nodeAt_mem hm) (by rw [e, hmT])
  apply Classical.byContradiction
  intro h
  obtain ⟨_, j, hj, _⟩ := nameB_some (ht.each n hn).len h
  rw [e2] at hj
  omega) (fun n => withoutB n s) (fun _ => rfl) (fun _ => rfl) (fun q hq h0 => without_name okd hdk hq h0) (by
  rw [show (withoutB (nodeAt t d) s).names = (nodeAt t d).names.filter (fun q => decide (q ≠ s)) from names_without_keep _ _ s okd.len]
  intro h
  have := (List.mem_filter.1 h).2
  simp at this) (Nat.lt_of_le_of_lt (without_len s) (small_names hG hd)) rfl (fair_without ht hd hdk s) (fun i hi => by
  have := hkid i
  rw [if_neg (fun e => hi e.symm)] at this
  omega)
 have hu := unname_swept hG hd hdk (s := s) (by rw [hTs]; exact hT0)
 rw [h1] at hu
 rw [hu]
 exact ⟨d1, p2, h2, h3, h4, h5, h6, h7, h8, h9, h10⟩
def renT (t : TreeB) (k d : Nat) (s : ByteArray) (p : Nat) (old : ByteArray) : TreeB × ReplyB × Int :=
 if nameB (nodeAt t d) s ≠ 0 then
  if nameB (nodeAt t d) s = (nodeAt t k).ino then (t, noReply, 0) else
  if unlikeB (nodeAt t k).kind (nodeAt t ((placeO t (nameB (nodeAt t d) s)).getD 0)).kind (nodeAt t ((placeO t (nameB (nodeAt t d) s)).getD 0)).names.length ≠ 0 then (t, noReply, unlikeB (nodeAt t k).kind (nodeAt t ((placeO t (nameB (nodeAt t d) s)).getD 0)).kind (nodeAt t ((placeO t (nameB (nodeAt t d) s)).getD 0)).names.length) else
  (sweptB (movedB (setB t d (withoutB (nodeAt t d) s)) p old d s (nodeAt t k).ino), noReply, 0)
 else (sweptB (movedB t p old d s (nodeAt t k).ino), noReply, 0)
theorem rename_eq {t : TreeB} (hG : Good t) (o : OpB) {k : Nat} (h1 : (parentB o.path).2.2 = 0) (h2 : (parentB o.to).2.2 = 0) (hf : findB t o.path = .ok k) {p : Nat} {old : ByteArray} (hp : homeB t o.path = .ok (p, old)) :
 ((nodeAt t k).kind = 2 ∧ o.to ≠ o.path ∧ underB o.to o.path = true → renameB t o = (t, noReply, 10)) ∧ (¬ ((nodeAt t k).kind = 2 ∧ o.to ≠ o.path ∧ underB o.to o.path = true) → (∀ e, homeB t o.to = .error e → renameB t o = (t, noReply, e)) ∧ ∀ d s, homeB t o.to = .ok (d, s) → renameB t o = renT t k d s p old) := by
 refine ⟨fun h => ?_, fun h => ⟨fun e he => ?_, fun d s he => ?_⟩⟩
 · unfold renameB
   rw [if_neg (by simp [h1]), if_neg (by simp [h2]), hf]
   simp only
   rw [if_pos h]
 · unfold renameB
   rw [if_neg (by simp [h1]), if_neg (by simp [h2]), hf]
   simp only
   rw [if_neg h, he]
 · unfold renameB
   rw [if_neg (by simp [h1]), if_neg (by simp [h2]), hf]
   simp only
   rw [if_neg h, he, hp]
   simp only
   unfold renT
   by_cases c0 : nameB (nodeAt t d) s ≠ 0
   · rw [if_pos c0, if_pos c0]
     by_cases c1 : nameB (nodeAt t d) s = (nodeAt t k).ino
     · rw [if_pos c1, if_pos c1]
     · rw [if_neg c1, if_neg c1]
       unfold unlikeB
       by_cases c2 : (nodeAt t k).kind = 2 ∧ (nodeAt t ((placeO t (nameB (nodeAt t d) s)).getD 0)).kind = 1
       · rw [if_pos c2, if_pos c2, if_pos (by omega)]
       · rw [if_neg c2, if_neg c2]
         by_cases c3 : (nodeAt t k).kind = 1 ∧ (nodeAt t ((placeO t (nameB (nodeAt t d) s)).getD 0)).kind = 2
         · rw [if_pos c3, if_pos c3, if_pos (by omega)]
         · rw [if_neg c3, if_neg c3]
           by_cases c4 : 0 < (nodeAt t ((placeO t (nameB (nodeAt t d) s)).getD 0)).names.length
           · rw [if_pos c4, if_pos c4, if_pos (by omega)]
           · rw [if_neg c4, if_neg c4, if_neg (by omega)]
   · rw [if_neg c0, if_neg c0]
end Go.Proofs.YtbebgobboccjcaaGreatDoor
namespace Go.Proofs.YtbebgobboccjcaaGreatDoor
open Go.RowKit Kit
set_option linter.unusedVariables false

theorem unlike_none {a b : Int} {n : Nat} (h : unlikeB a b n = 0) : n = 0 := by
 unfold unlikeB at h
 split at h
 · omega
 · split at h
   · omega
   · split at h
     · omega
     · omega
set_option maxRecDepth 4000 in
set_option maxHeartbeats 16000000 in
theorem drename_any (o : OpB) (w : World) (p b : Nat) (t : TreeB) (hT : DTree w p b t) (hG : Good t) (hs1 : o.path.size ≤ maxLen) (hs2 : o.to.size ≤ maxLen) :
 Calls Tryz.prog 63 #[.pointer (some ⟨p, 0, none⟩), .string o.path, .string o.to] w fun e w' => e = .returned (errV (renameB t o).2.2) ∧ DTree w' p b (renameB t o).1 ∧ Turn p b w w' := by
 have ht := hG.e.fair
 have e00 : errV 0 = .nilIface := rfl
 have HX1 : Hid (Calls Tryz.prog 96 _ _ _) := nparent_any o.path w hs1
 have HX2 : Hid (∀ W, _) := fun W => nparent_any o.to W hs2
 have HFd : Hid (∀ W, Below w.heap.size w W → _) := fun W hW => dfind_any o.path W p b t (hT.below hW) ht hs1
 have HUn : Hid (∀ W, _) := fun W => nunder_any o.to o.path W hs2 hs1
 have HPl : Hid (∀ W, Below w.heap.size w W → _) := fun W hW => dplace_any o.to W p b t (hT.below hW) ht hs2
 have HT : Hid (DTree w p b t ∧ Good t ∧ o.path.size ≤ maxLen ∧ o.to.size ≤ maxLen) := ⟨hT, hG, hs1, hs2⟩
 have R1 : Hid ((parentB o.path).2.2 ≠ 0 → renameB t o = (t, noReply, (parentB o.path).2.2)) := fun h => by unfold renameB; rw [if_pos h]
 have R2 : Hid ((parentB o.path).2.2 = 0 → (parentB o.to).2.2 ≠ 0 → renameB t o = (t, noReply, (parentB o.to).2.2)) := fun h h2 => by unfold renameB; rw [if_neg (by simp [h]), if_pos h2]
 have R3 : Hid ((parentB o.path).2.2 = 0 → (parentB o.to).2.2 = 0 → ∀ e, findB t o.path = .error e → renameB t o = (t, noReply, e)) := fun h h2 e he => by unfold renameB; rw [if_neg (by simp [h]), if_neg (by simp [h2]), he]
 obtain ⟨r, hr⟩ : ∃ r, renameB t o = r := ⟨_, rfl⟩
 have HRR : Hid (renameB t o = r) := hr
 rw [hr] at R1 R2 R3 ⊢
 obtain ⟨⟨d1, q1, c1⟩, hc1⟩ : ∃ x, parentB o.path = x := ⟨_, rfl⟩
 obtain ⟨⟨d2, q2, c2⟩, hc2⟩ : ∃ x, parentB o.to = x := ⟨_, rfl⟩
 have HC1 : Hid (parentB o.path = (d1, q1, c1)) := hc1
 have HC2 : Hid (parentB o.to = (d2, q2, c2)) := hc2
 rw [hc1] at HX1 R1 R2 R3
 rw [hc2] at HX2 R2 R3
 simp only at HX1 HX2 R1 R2 R3
 obtain ⟨path, hpath⟩ : ∃ z, o.path = z := ⟨_, rfl⟩
 obtain ⟨to, hto⟩ : ∃ z, o.to = z := ⟨_, rfl⟩
 have HPT : Hid (o.path = path ∧ o.to = to) := ⟨hpath, hto⟩
 rw [hpath] at HX1 HFd HUn HT R3 HC1 ⊢
 rw [hto] at HX2 HUn HPl HT HC2 ⊢
 clear hT hG hs1 hs2 ht hr hc1 hc2 hpath hto
 go_enter Tryz.func63, Tryz.ntmps63
 go_wp2_with fail
 go_at_call 96
 refine HX1.out.mono ?_
 rintro e w1 ⟨rfl, hb1⟩
 have H1 : Hid (Below w.heap.size w w1) := hb1
 clear hb1 HX1
 by_cases hp1 : c1 = 0
 case neg =>
  have HR : Hid (r = (t, noReply, c1)) := R1.out hp1
  have HE : Hid (errV c1 = .iface 80 (.int .i64 c1)) := errV_ne hp1
  rw [errV_ne hp1]
  clear R1 R2 R3 hp1 HFd HUn HPl HX2 e00
  go_wp2
  go_ret
  rw [HR.out]
  exact ⟨by rw [HE.out]; rfl, HT.out.1.below H1.out, turn_below H1.out⟩
 subst hp1
 rw [e00]
 go_wp2_with fail
 go_at_call 96
 refine (HX2.out w1).mono ?_
 rintro e w2 ⟨rfl, hb2⟩
 have H2 : Hid (Below w.heap.size w w2) := bel2v H1.out hb2
 clear hb2 HX2 H1
 by_cases hp2 : c2 = 0
 case neg =>
  have HR : Hid (r = (t, noReply, c2)) := R2.out (by first | rfl | trivial) hp2
  have HE : Hid (errV c2 = .iface 80 (.int .i64 c2)) := errV_ne hp2
  rw [errV_ne hp2]
  clear R1 R2 R3 hp2 HFd HUn HPl e00
  go_wp2
  go_ret
  rw [HR.out]
  exact ⟨by rw [HE.out]; rfl, HT.out.1.below H2.out, turn_below H2.out⟩
 subst hp2
 rw [e00]
 obtain ⟨f, hf⟩ : ∃ f, findB t path = f := ⟨_, rfl⟩
 have HF0 : Hid (findB t path = f) := hf
 rw [hf] at HFd
 clear hf
 go_wp2_with fail
 go_at_call 22
 refine (HFd.out w2 H2.out).mono ?_
 rintro e w3 ⟨rfl, hb3⟩
 have H3 : Hid (Below w.heap.size w w3) := bel2v H2.out hb3
 clear hb3 HFd H2
 cases f with
 | error x =>
   have hx := find_code' HF0.out
   have HR : Hid (r = (t, noReply, x)) := R3.out (by first | rfl | trivial) (by first | rfl | trivial) x HF0.out
   have HE : Hid (errV x = .iface 80 (.int .i64 x)) := errV_ne hx
   simp only [outW2]
   rw [errV_ne hx]
   clear R1 R2 R3 hx HUn HPl e00
   go_wp2
   go_ret
   rw [HR.out]
   exact ⟨by rw [HE.out]; rfl, HT.out.1.below H3.out, turn_below H3.out⟩
 | ok k =>
   simp only [outW2]
   rw [e00]
   have hk := find_lt HT.out.2.1.e.fair HF0.out
   have hpar : (parentB path).2.2 = 0 := by rw [HC1.out]
   obtain ⟨p0, old, l, hhp, hspl, hwk, hp0, hp0k, hnm, hnm0⟩ := find_home HT.out.2.1.e hpar HF0.out
   have HEQ := rename_eq HT.out.2.1 o (k := k) (p := p0) (old := old) (by rw [HPT.out.1]; exact hpar) (by rw [HPT.out.2, HC2.out]) (by rw [HPT.out.1]; exact HF0.out) (by rw [HPT.out.1]; exact hhp)
   rw [HRR.out, HPT.out.1, HPT.out.2] at HEQ
   have HEQ2 : Hid _ := HEQ
   have HOLD : Hid (homeB t path = .ok (p0, old) ∧ (splitB path).1 = l ++ [old] ∧ walkB t 0 l = .ok p0 ∧ p0 < t.nodes.length ∧ (nodeAt t p0).kind = 2 ∧ nameB (nodeAt t p0) old = (nodeAt t k).ino ∧ (nodeAt t k).ino ≠ 0 ∧ (parentB path).2.2 = 0) := ⟨hhp, hspl, hwk, hp0, hp0k, hnm, by rw [← hnm]; exact hnm0, hpar⟩
   obtain ⟨ka, kc, ksa, ksc, hlook⟩ := HT.out.1.lookAt HT.out.2.1.e.fair hk
   have HLK : Hid (∀ W, Below w.heap.size w W → _) := hlook
   obtain ⟨hl3, m3, _⟩ := hlook w3 H3.out
   have hkk := HT.out.2.1.e.fair.kind (nodeAt_mem hk)
   have hf0 := nfield0
   obtain ⟨I, hI⟩ : ∃ I, (nodeAt t k).ino = I := ⟨_, rfl⟩
   have HI : Hid ((nodeAt t k).ino = I) := hI
   obtain ⟨kd, hkd⟩ : ∃ I, (nodeAt t k).kind = I := ⟨_, rfl⟩
   have HKD : Hid ((nodeAt t k).kind = kd) := hkd
   rw [hI, hkd] at hl3
   rw [hkd] at hkk HEQ2
   rw [hI]
   obtain ⟨u, hu⟩ : ∃ u, underB to path = u := ⟨_, rfl⟩
   rw [hu] at HEQ2 HUn
   clear hlook hI hkd hu HEQ hhp hspl hwk hp0 hp0k hnm hnm0 hpar R1 R2 R3
   rcases hkk with hk1 | hk2
   · subst hk1
     have hnl : ¬ ((1 : Int) = 2 ∧ to ≠ path ∧ u = true) := by omega
     have HQ : Hid (Below w.heap.size w w3) := H3.out
     obtain ⟨wq, hwq⟩ : ∃ z, z = w3 := ⟨_, rfl⟩
     subst hwq
     clear H3
     obtain ⟨h, hh⟩ : ∃ h, homeB t to = h := ⟨_, rfl⟩
     have HH0 : Hid (homeB t to = h) := hh
     rw [hh] at HPl
     have HEQ3 : Hid _ := HEQ2.out.2 hnl
     clear HEQ2 hnl hh HUn
     go_wp2_with fail
     go_at_call 100
     refine (HPl.out wq HQ.out).mono ?_
     rintro e w4 ⟨rfl, hb4⟩
     have H4 : Hid (Below w.heap.size w w4) := bel2v HQ.out hb4
     clear hb4 HPl HQ
     cases h with
     | error x =>
       have hx := home_code' HH0.out
       have HR : Hid (r = (t, noReply, x)) := HEQ3.out.1 x HH0.out
       have HE : Hid (errV x = .iface 80 (.int .i64 x)) := errV_ne hx
       simp only [outP]
       rw [errV_ne hx]
       clear HEQ3 hx e00
       go_wp2
       go_ret
       rw [HR.out]
       exact ⟨by rw [HE.out]; rfl, HT.out.1.below H4.out, turn_below H4.out⟩
     | ok ds =>
       obtain ⟨d, s⟩ := ds
       simp only [outP]
       rw [e00]
       obtain ⟨hd, hdk, o1, o2, _⟩ := home_ok HT.out.2.1.e HH0.out
       have HR0 : Hid (r = renT t k d s p0 old) := HEQ3.out.2 d s HH0.out
       obtain ⟨na, nc, nsa, nsc, hlk⟩ := HT.out.1.lookAt HT.out.2.1.e.fair hd
       obtain ⟨hl4, m4, his4⟩ := hlk w4 H4.out
       have okd := HT.out.2.1.e.each _ (nodeAt_mem hd)
       have hzd := HT.out.2.1.e.fair.nz (nodeAt_mem hd)
       have HLE : Hid (Calls Tryz.prog 78 _ _ _) := leads_of okd hdk (HT.out.2.1.e.fair.names _ (nodeAt_mem hd)) his4 s
       have HNM := has_name okd hzd s
       have HDD : Hid (d < t.nodes.length ∧ (nodeAt t d).kind = 2 ∧ okB s = true ∧ s.size ≤ 12) := ⟨hd, hdk, o1, o2⟩
       obtain ⟨D, hD⟩ : ∃ D, (nodeAt t d).ino = D := ⟨_, rfl⟩
       have HD : Hid ((nodeAt t d).ino = D) := hD
       obtain ⟨T, hTe⟩ : ∃ T, nameB (nodeAt t d) s = T := ⟨_, rfl⟩
       have HTE : Hid (nameB (nodeAt t d) s = T) := hTe
       rw [hdk, hD] at hl4
       rw [hTe] at HLE HNM
       rw [hD]
       obtain ⟨hb, hbe⟩ : ∃ z, hasB (nodeAt t d).names s = z := ⟨_, rfl⟩
       have HBE : Hid (hasB (nodeAt t d).names s = hb) := hbe
       rw [hbe] at HLE HNM
       clear hlk okd hzd hd hdk o1 o2 his4 hD hTe hbe HEQ3
       go_wp2_with fail
       go_at_call 78
       refine HLE.out.mono ?_
       rintro e w5 ⟨rfl, hb5⟩
       have H5 : Hid (Below w.heap.size w w5) := bel2v H4.out hb5
       clear hb5 HLE H4 hl4 m4
       by_cases hT0 : T = 0
       · subst hT0
         have hbf : hb = false := by
          cases hb with
          | false => rfl
          | true => exact absurd rfl (HNM.1 rfl)
         subst hbf
         obtain ⟨p2, n1, n2, n3, n4, n5⟩ := ren_new HT.out.2.1 HOLD.out.2.2.2.1 HDD.out.1 HOLD.out.2.2.2.2.1 HDD.out.2.1 (path := path) (s := s) HOLD.out.2.2.2.2.2.2.2 HOLD.out.2.1 HOLD.out.2.2.1 HOLD.out.2.2.2.2.2.1 HOLD.out.2.2.2.2.2.2.1 HDD.out.2.2 HTE.out
         rw [HI.out] at n2 n3 n4 n5
         have HNC : Hid (Calls Tryz.prog 95 _ _ _) := dname_any s I w5 p b t d (HT.out.1.below H5.out) HT.out.2.1.e.fair HDD.out.1 HDD.out.2.1 n1 HDD.out.2.2.2
         rw [HD.out] at HNC
         have HUP : Hid (∀ W, DTree W p b (setB t d (withB (nodeAt t d) s I)) → _) := fun W hW => dunnamePath_any path W p b _ hW n2 HT.out.2.2.1 p2 old n3 n4
         rw [n5] at HUP
         have HR : Hid (r = (sweptB (movedB t p0 old d s I), noReply, 0)) := by
          show _ = _
          rw [HR0.out]
          unfold renT
          rw [if_neg (by rw [HTE.out]; simp), HI.out]
         clear n1 n2 n3 n4 n5 HNM HR0 HBE e00
         go_wp2_with fail
         go_at_call 95
         refine HNC.out.mono ?_
         rintro e w6 ⟨rfl, hd6, ht6⟩
         have HU6 : Hid (Calls Tryz.prog 98 _ _ _) := HUP.out w6 hd6
         have H6 : Hid (Turn p b w w6) := (turn_below H5.out).trans ht6
         clear hd6 ht6 HNC HUP H5
         go_wp2_with fail
         go_at_call 98
         refine HU6.out.mono ?_
         rintro e w7 ⟨rfl, hd7, ht7⟩
         have H7 : Hid (DTree w7 p b (sweptB (movedB t p0 old d s I)) ∧ Turn p b w w7) := ⟨hd7, H6.out.trans ht7⟩
         clear hd7 ht7 HU6 H6
         go_wp2
         go_ret
         rw [HR.out]
         exact ⟨rfl, H7.out⟩
       · have hbt : hb = true := HNM.2 hT0
         subst hbt
         by_cases hTI : T = I
         · have HR : Hid (r = (t, noReply, 0)) := by
            show _ = _
            rw [HR0.out]
            unfold renT
            rw [if_pos (by rw [HTE.out]; exact hT0), if_pos (by rw [HTE.out, HI.out]; exact hTI)]
           subst hTI
           clear HR0 HNM HBE e00 hT0
           go_wp2
           go_ret
           rw [HR.out]
           exact ⟨rfl, HT.out.1.below H5.out, turn_below H5.out⟩
         · have hTIb : (T == I) = false := beq_eq_false_iff_ne.2 hTI
           obtain ⟨m, m1, m2, m3, _⟩ := HT.out.2.1.e.fair.step HDD.out.1 (s := s) (by rw [HTE.out]; exact hT0)
           rw [HTE.out] at m1 m3
           obtain ⟨ta, tc, tsa, tsc, hlk⟩ := HT.out.1.lookAt HT.out.2.1.e.fair m2
           obtain ⟨hl5, n5, _⟩ := hlk w5 H5.out
           rw [m3] at hl5
           have hkT := HT.out.2.1.e.fair.kind (nodeAt_mem m2)
           have hnT := HT.out.2.1.e.fair.names _ (nodeAt_mem m2)
           have HUL : Hid (Calls Tryz.prog 97 _ _ _) := dunlike_any 1 (nodeAt t m).kind ta tsa (nodeAt t m).data.length tc (nodeAt t m).names.length tsc w5 (by omega) hkT (by omega)
           have HR1 : Hid (r = if unlikeB 1 (nodeAt t m).kind (nodeAt t m).names.length ≠ 0 then (t, noReply, unlikeB 1 (nodeAt t m).kind (nodeAt t m).names.length) else (sweptB (movedB (setB t d (withoutB (nodeAt t d) s)) p0 old d s I), noReply, 0)) := by
            show _ = _
            rw [HR0.out]
            unfold renT
            rw [if_pos (by rw [HTE.out]; exact hT0), if_neg (by rw [HTE.out, HI.out]; exact hTI), HTE.out, m1, HKD.out, HI.out]
            rfl
           have HMT : Hid (m < t.nodes.length ∧ (nodeAt t m).ino = T) := ⟨m2, m3⟩
           obtain ⟨u2, hu2⟩ : ∃ z, unlikeB 1 (nodeAt t m).kind (nodeAt t m).names.length = z := ⟨_, rfl⟩
           have HU2 : Hid (unlikeB 1 (nodeAt t m).kind (nodeAt t m).names.length = u2) := hu2
           rw [hu2] at HUL HR1
           obtain ⟨kT, hkTe⟩ : ∃ z, (nodeAt t m).kind = z := ⟨_, rfl⟩
           rw [hkTe] at HUL hl5
           clear hlk m1 m2 m3 hkT hnT hu2 hkTe HNM HR0
           go_wp2_with fail
           go_at_call 97
           refine HUL.out.mono ?_
           rintro e w6 ⟨rfl, hb6⟩
           have H6 : Hid (Below w.heap.size w w6) := bel2v H5.out hb6
           clear hb6 HUL H5 hl5 n5
           by_cases hu0 : u2 = 0
           · subst hu0
             rw [e00]
             have HR : Hid (r = (sweptB (movedB (setB t d (withoutB (nodeAt t d) s)) p0 old d s I), noReply, 0)) := by show _ = _; rw [HR1.out, if_neg (by simp)]
             obtain ⟨d1, p2, n1, n2, n3, n4, n5, n6, n7, n8, n9⟩ := ren_there HT.out.2.1 (m := m) HOLD.out.2.2.2.1 HDD.out.1 HOLD.out.2.2.2.2.1 HDD.out.2.1 (path := path) (s := s) HOLD.out.2.2.2.2.2.2.2 HOLD.out.2.1 HOLD.out.2.2.1 HOLD.out.2.2.2.2.2.1 HOLD.out.2.2.2.2.2.2.1 HDD.out.2.2 HTE.out hT0 (by rw [HI.out]; exact fun e => hTI e.symm) HMT.out.1 HMT.out.2 (unlike_none HU2.out)
             rw [HI.out] at n6 n7 n8 n9
             have hsm : s ∈ (nodeAt t d).names := has_iff.1 HBE.out
             have HUN : Hid (Calls Tryz.prog 101 _ _ _) := dunname_any s w6 p b t d (HT.out.1.below H6.out) HT.out.2.1.e.fair HDD.out.1 HDD.out.2.1 hsm
             rw [HD.out] at HUN
             obtain ⟨x1, hx1⟩ : ∃ z, unnameB t d s = z := ⟨_, rfl⟩
             rw [hx1] at n1 n2 n3 n4 n5 n6 n7 n8 n9 HUN
             have HNC : Hid (∀ W, DTree W p b x1 → _) := fun W hW => dname_any s I W p b x1 d1 hW n1 n2 n4 n5 HDD.out.2.2.2
             rw [n3, HD.out] at HNC
             have HUP : Hid (∀ W, DTree W p b (setB x1 d1 (withB (nodeAt x1 d1) s I)) → _) := fun W hW => dunnamePath_any path W p b _ hW n6 HT.out.2.2.1 p2 old n7 n8
             rw [n9] at HUP
             clear n1 n2 n3 n4 n5 n6 n7 n8 n9 hx1 hsm HR1 HU2 HMT HBE e00
             go_wp2_with fail
             go_at_call 101
             refine HUN.out.mono ?_
             rintro e w7 ⟨rfl, hd7, ht7⟩
             have HN7 : Hid (Calls Tryz.prog 95 _ _ _) := HNC.out w7 hd7
             have H7 : Hid (Turn p b w w7) := (turn_below H6.out).trans ht7
             clear hd7 ht7 HUN HNC H6
             go_wp2_with fail
             go_at_call 95
             refine HN7.out.mono ?_
             rintro e w8 ⟨rfl, hd8, ht8⟩
             have HU8 : Hid (Calls Tryz.prog 98 _ _ _) := HUP.out w8 hd8
             have H8 : Hid (Turn p b w w8) := H7.out.trans ht8
             clear hd8 ht8 HN7 HUP H7
             go_wp2_with fail
             go_at_call 98
             refine HU8.out.mono ?_
             rintro e w9 ⟨rfl, hd9, ht9⟩
             have H9 : Hid (DTree w9 p b (sweptB (movedB (setB t d (withoutB (nodeAt t d) s)) p0 old d s I)) ∧ Turn p b w w9) := ⟨hd9, H8.out.trans ht9⟩
             clear hd9 ht9 HU8 H8
             go_wp2
             go_ret
             rw [HR.out]
             exact ⟨rfl, H9.out⟩
           · have HR : Hid (r = (t, noReply, u2)) := by show _ = _; rw [HR1.out, if_pos hu0]
             have HE : Hid (errV u2 = .iface 80 (.int .i64 u2)) := errV_ne hu0
             rw [errV_ne hu0]
             clear HR1 hu0 e00
             go_wp2
             go_ret
             rw [HR.out]
             exact ⟨by rw [HE.out]; rfl, HT.out.1.below H6.out, turn_below H6.out⟩
   · subst hk2
     by_cases htp : to = path
     · have hnl : ¬ ((2 : Int) = 2 ∧ to ≠ path ∧ u = true) := fun h => h.2.1 htp
       have HTP : Hid (to = path) := htp
       have hteq : (to.toList == path.toList) = true := by rw [htp]; exact beq_self_eq_true _
       have HQ : Hid (Below w.heap.size w w3) := H3.out
       obtain ⟨wq, hwq⟩ : ∃ z, z = w3 := ⟨_, rfl⟩
       subst hwq
       clear H3 htp
       obtain ⟨h, hh⟩ : ∃ h, homeB t to = h := ⟨_, rfl⟩
       have HH0 : Hid (homeB t to = h) := hh
       rw [hh] at HPl
       have HEQ3 : Hid _ := HEQ2.out.2 hnl
       clear HEQ2 hnl hh HUn
       go_wp2_with fail
       go_at_call 100
       refine (HPl.out wq HQ.out).mono ?_
       rintro e w4 ⟨rfl, hb4⟩
       have H4 : Hid (Below w.heap.size w w4) := bel2v HQ.out hb4
       clear hb4 HPl HQ
       cases h with
       | error x =>
         have hx := home_code' HH0.out
         have HR : Hid (r = (t, noReply, x)) := HEQ3.out.1 x HH0.out
         have HE : Hid (errV x = .iface 80 (.int .i64 x)) := errV_ne hx
         simp only [outP]
         rw [errV_ne hx]
         clear HEQ3 hx e00
         go_wp2
         go_ret
         rw [HR.out]
         exact ⟨by rw [HE.out]; rfl, HT.out.1.below H4.out, turn_below H4.out⟩
       | ok ds =>
         obtain ⟨d, s⟩ := ds
         simp only [outP]
         rw [e00]
         obtain ⟨hd, hdk, o1, o2, _⟩ := home_ok HT.out.2.1.e HH0.out
         have HR0 : Hid (r = renT t k d s p0 old) := HEQ3.out.2 d s HH0.out
         obtain ⟨na, nc, nsa, nsc, hlk⟩ := HT.out.1.lookAt HT.out.2.1.e.fair hd
         obtain ⟨hl4, m4, his4⟩ := hlk w4 H4.out
         have okd := HT.out.2.1.e.each _ (nodeAt_mem hd)
         have hzd := HT.out.2.1.e.fair.nz (nodeAt_mem hd)
         have HLE : Hid (Calls Tryz.prog 78 _ _ _) := leads_of okd hdk (HT.out.2.1.e.fair.names _ (nodeAt_mem hd)) his4 s
         have HNM := has_name okd hzd s
         have HDD : Hid (d < t.nodes.length ∧ (nodeAt t d).kind = 2 ∧ okB s = true ∧ s.size ≤ 12) := ⟨hd, hdk, o1, o2⟩
         obtain ⟨D, hD⟩ : ∃ D, (nodeAt t d).ino = D := ⟨_, rfl⟩
         have HD : Hid ((nodeAt t d).ino = D) := hD
         obtain ⟨T, hTe⟩ : ∃ T, nameB (nodeAt t d) s = T := ⟨_, rfl⟩
         have HTE : Hid (nameB (nodeAt t d) s = T) := hTe
         rw [hdk, hD] at hl4
         rw [hTe] at HLE HNM
         rw [hD]
         obtain ⟨hb, hbe⟩ : ∃ z, hasB (nodeAt t d).names s = z := ⟨_, rfl⟩
         have HBE : Hid (hasB (nodeAt t d).names s = hb) := hbe
         rw [hbe] at HLE HNM
         clear hlk okd hzd hd hdk o1 o2 his4 hD hTe hbe HEQ3
         go_wp2_with fail
         go_at_call 78
         refine HLE.out.mono ?_
         rintro e w5 ⟨rfl, hb5⟩
         have H5 : Hid (Below w.heap.size w w5) := bel2v H4.out hb5
         clear hb5 HLE H4 hl4 m4
         by_cases hT0 : T = 0
         · subst hT0
           have hbf : hb = false := by
            cases hb with
            | false => rfl
            | true => exact absurd rfl (HNM.1 rfl)
           subst hbf
           obtain ⟨p2, n1, n2, n3, n4, n5⟩ := ren_new HT.out.2.1 HOLD.out.2.2.2.1 HDD.out.1 HOLD.out.2.2.2.2.1 HDD.out.2.1 (path := path) (s := s) HOLD.out.2.2.2.2.2.2.2 HOLD.out.2.1 HOLD.out.2.2.1 HOLD.out.2.2.2.2.2.1 HOLD.out.2.2.2.2.2.2.1 HDD.out.2.2 HTE.out
           rw [HI.out] at n2 n3 n4 n5
           have HNC : Hid (Calls Tryz.prog 95 _ _ _) := dname_any s I w5 p b t d (HT.out.1.below H5.out) HT.out.2.1.e.fair HDD.out.1 HDD.out.2.1 n1 HDD.out.2.2.2
           rw [HD.out] at HNC
           have HUP : Hid (∀ W, DTree W p b (setB t d (withB (nodeAt t d) s I)) → _) := fun W hW => dunnamePath_any path W p b _ hW n2 HT.out.2.2.1 p2 old n3 n4
           rw [n5] at HUP
           have HR : Hid (r = (sweptB (movedB t p0 old d s I), noReply, 0)) := by
            show _ = _
            rw [HR0.out]
            unfold renT
            rw [if_neg (by rw [HTE.out]; simp), HI.out]
           clear n1 n2 n3 n4 n5 HNM HR0 HBE e00
           go_wp2_with fail
           go_at_call 95
           refine HNC.out.mono ?_
           rintro e w6 ⟨rfl, hd6, ht6⟩
           have HU6 : Hid (Calls Tryz.prog 98 _ _ _) := HUP.out w6 hd6
           have H6 : Hid (Turn p b w w6) := (turn_below H5.out).trans ht6
           clear hd6 ht6 HNC HUP H5
           go_wp2_with fail
           go_at_call 98
           refine HU6.out.mono ?_
           rintro e w7 ⟨rfl, hd7, ht7⟩
           have H7 : Hid (DTree w7 p b (sweptB (movedB t p0 old d s I)) ∧ Turn p b w w7) := ⟨hd7, H6.out.trans ht7⟩
           clear hd7 ht7 HU6 H6
           go_wp2
           go_ret
           rw [HR.out]
           exact ⟨rfl, H7.out⟩
         · have hbt : hb = true := HNM.2 hT0
           subst hbt
           by_cases hTI : T = I
           · have HR : Hid (r = (t, noReply, 0)) := by
              show _ = _
              rw [HR0.out]
              unfold renT
              rw [if_pos (by rw [HTE.out]; exact hT0), if_pos (by rw [HTE.out, HI.out]; exact hTI)]
             subst hTI
             clear HR0 HNM HBE e00 hT0
             go_wp2
             go_ret
             rw [HR.out]
             exact ⟨rfl, HT.out.1.below H5.out, turn_below H5.out⟩
           · have hTIb : (T == I) = false := beq_eq_false_iff_ne.2 hTI
             obtain ⟨m, m1, m2, m3, _⟩ := HT.out.2.1.e.fair.step HDD.out.1 (s := s) (by rw [HTE.out]; exact hT0)
             rw [HTE.out] at m1 m3
             obtain ⟨ta, tc, tsa, tsc, hlk⟩ := HT.out.1.lookAt HT.out.2.1.e.fair m2
             obtain ⟨hl5, n5, _⟩ := hlk w5 H5.out
             rw [m3] at hl5
             have hkT := HT.out.2.1.e.fair.kind (nodeAt_mem m2)
             have hnT := HT.out.2.1.e.fair.names _ (nodeAt_mem m2)
             have HUL : Hid (Calls Tryz.prog 97 _ _ _) := dunlike_any 2 (nodeAt t m).kind ta tsa (nodeAt t m).data.length tc (nodeAt t m).names.length tsc w5 (by omega) hkT (by omega)
             have HR1 : Hid (r = if unlikeB 2 (nodeAt t m).kind (nodeAt t m).names.length ≠ 0 then (t, noReply, unlikeB 2 (nodeAt t m).kind (nodeAt t m).names.length) else (sweptB (movedB (setB t d (withoutB (nodeAt t d) s)) p0 old d s I), noReply, 0)) := by
              show _ = _
              rw [HR0.out]
              unfold renT
              rw [if_pos (by rw [HTE.out]; exact hT0), if_neg (by rw [HTE.out, HI.out]; exact hTI), HTE.out, m1, HKD.out, HI.out]
              rfl
             have HMT : Hid (m < t.nodes.length ∧ (nodeAt t m).ino = T) := ⟨m2, m3⟩
             obtain ⟨u2, hu2⟩ : ∃ z, unlikeB 2 (nodeAt t m).kind (nodeAt t m).names.length = z := ⟨_, rfl⟩
             have HU2 : Hid (unlikeB 2 (nodeAt t m).kind (nodeAt t m).names.length = u2) := hu2
             rw [hu2] at HUL HR1
             obtain ⟨kT, hkTe⟩ : ∃ z, (nodeAt t m).kind = z := ⟨_, rfl⟩
             rw [hkTe] at HUL hl5
             clear hlk m1 m2 m3 hkT hnT hu2 hkTe HNM HR0
             go_wp2_with fail
             go_at_call 97
             refine HUL.out.mono ?_
             rintro e w6 ⟨rfl, hb6⟩
             have H6 : Hid (Below w.heap.size w w6) := bel2v H5.out hb6
             clear hb6 HUL H5 hl5 n5
             by_cases hu0 : u2 = 0
             · subst hu0
               rw [e00]
               have HR : Hid (r = (sweptB (movedB (setB t d (withoutB (nodeAt t d) s)) p0 old d s I), noReply, 0)) := by show _ = _; rw [HR1.out, if_neg (by simp)]
               obtain ⟨d1, p2, n1, n2, n3, n4, n5, n6, n7, n8, n9⟩ := ren_there HT.out.2.1 (m := m) HOLD.out.2.2.2.1 HDD.out.1 HOLD.out.2.2.2.2.1 HDD.out.2.1 (path := path) (s := s) HOLD.out.2.2.2.2.2.2.2 HOLD.out.2.1 HOLD.out.2.2.1 HOLD.out.2.2.2.2.2.1 HOLD.out.2.2.2.2.2.2.1 HDD.out.2.2 HTE.out hT0 (by rw [HI.out]; exact fun e => hTI e.symm) HMT.out.1 HMT.out.2 (unlike_none HU2.out)
               rw [HI.out] at n6 n7 n8 n9
               have hsm : s ∈ (nodeAt t d).names := has_iff.1 HBE.out
               have HUN : Hid (Calls Tryz.prog 101 _ _ _) := dunname_any s w6 p b t d (HT.out.1.below H6.out) HT.out.2.1.e.fair HDD.out.1 HDD.out.2.1 hsm
               rw [HD.out] at HUN
               obtain ⟨x1, hx1⟩ : ∃ z, unnameB t d s = z := ⟨_, rfl⟩
               rw [hx1] at n1 n2 n3 n4 n5 n6 n7 n8 n9 HUN
               have HNC : Hid (∀ W, DTree W p b x1 → _) := fun W hW => dname_any s I W p b x1 d1 hW n1 n2 n4 n5 HDD.out.2.2.2
               rw [n3, HD.out] at HNC
               have HUP : Hid (∀ W, DTree W p b (setB x1 d1 (withB (nodeAt x1 d1) s I)) → _) := fun W hW => dunnamePath_any path W p b _ hW n6 HT.out.2.2.1 p2 old n7 n8
               rw [n9] at HUP
               clear n1 n2 n3 n4 n5 n6 n7 n8 n9 hx1 hsm HR1 HU2 HMT HBE e00
               go_wp2_with fail
               go_at_call 101
               refine HUN.out.mono ?_
               rintro e w7 ⟨rfl, hd7, ht7⟩
               have HN7 : Hid (Calls Tryz.prog 95 _ _ _) := HNC.out w7 hd7
               have H7 : Hid (Turn p b w w7) := (turn_below H6.out).trans ht7
               clear hd7 ht7 HUN HNC H6
               go_wp2_with fail
               go_at_call 95
               refine HN7.out.mono ?_
               rintro e w8 ⟨rfl, hd8, ht8⟩
               have HU8 : Hid (Calls Tryz.prog 98 _ _ _) := HUP.out w8 hd8
               have H8 : Hid (Turn p b w w8) := H7.out.trans ht8
               clear hd8 ht8 HN7 HUP H7
               go_wp2_with fail
               go_at_call 98
               refine HU8.out.mono ?_
               rintro e w9 ⟨rfl, hd9, ht9⟩
               have H9 : Hid (DTree w9 p b (sweptB (movedB (setB t d (withoutB (nodeAt t d) s)) p0 old d s I)) ∧ Turn p b w w9) := ⟨hd9, H8.out.trans ht9⟩
               clear hd9 ht9 HU8 H8
               go_wp2
               go_ret
               rw [HR.out]
               exact ⟨rfl, H9.out⟩
             · have HR : Hid (r = (t, noReply, u2)) := by show _ = _; rw [HR1.out, if_pos hu0]
               have HE : Hid (errV u2 = .iface 80 (.int .i64 u2)) := errV_ne hu0
               rw [errV_ne hu0]
               clear HR1 hu0 e00
               go_wp2
               go_ret
               rw [HR.out]
               exact ⟨by rw [HE.out]; rfl, HT.out.1.below H6.out, turn_below H6.out⟩
     · have htb : decide (to = path) = false := decide_eq_false htp
       have hteq : (to.toList == path.toList) = false := beq_eq_false_iff_ne.2 (fun h => htp (toList_inj h))
       cases u with
       | true =>
         have HR : Hid (r = (t, noReply, 10)) := HEQ2.out.1 ⟨rfl, htp, rfl⟩
         clear HEQ2 HPl
         go_wp2_with fail
         go_at_call 99
         refine (HUn.out w3).mono ?_
         rintro e w4 ⟨rfl, hb4⟩
         have H4 : Hid (Below w.heap.size w w4) := bel2v H3.out hb4
         clear hb4 HUn
         go_wp2
         go_ret
         rw [HR.out]
         exact ⟨rfl, HT.out.1.below H4.out, turn_below H4.out⟩
       | false =>
         have hnl : ¬ ((2 : Int) = 2 ∧ to ≠ path ∧ false = true) := by simp
         have HTP : Hid (¬ to = path) := htp
         go_wp2_with fail
         go_at_call 99
         refine (HUn.out w3).mono ?_
         rintro e wq ⟨rfl, hbq⟩
         have HQ : Hid (Below w.heap.size w wq) := bel2v H3.out hbq
         clear hbq H3
         obtain ⟨h, hh⟩ : ∃ h, homeB t to = h := ⟨_, rfl⟩
         have HH0 : Hid (homeB t to = h) := hh
         rw [hh] at HPl
         have HEQ3 : Hid _ := HEQ2.out.2 hnl
         clear HEQ2 hnl hh HUn
         go_wp2_with fail
         go_at_call 100
         refine (HPl.out wq HQ.out).mono ?_
         rintro e w4 ⟨rfl, hb4⟩
         have H4 : Hid (Below w.heap.size w w4) := bel2v HQ.out hb4
         clear hb4 HPl HQ
         cases h with
         | error x =>
           have hx := home_code' HH0.out
           have HR : Hid (r = (t, noReply, x)) := HEQ3.out.1 x HH0.out
           have HE : Hid (errV x = .iface 80 (.int .i64 x)) := errV_ne hx
           simp only [outP]
           rw [errV_ne hx]
           clear HEQ3 hx e00
           go_wp2
           go_ret
           rw [HR.out]
           exact ⟨by rw [HE.out]; rfl, HT.out.1.below H4.out, turn_below H4.out⟩
         | ok ds =>
           obtain ⟨d, s⟩ := ds
           simp only [outP]
           rw [e00]
           obtain ⟨hd, hdk, o1, o2, _⟩ := home_ok HT.out.2.1.e HH0.out
           have HR0 : Hid (r = renT t k d s p0 old) := HEQ3.out.2 d s HH0.out
           obtain ⟨na, nc, nsa, nsc, hlk⟩ := HT.out.1.lookAt HT.out.2.1.e.fair hd
           obtain ⟨hl4, m4, his4⟩ := hlk w4 H4.out
           have okd := HT.out.2.1.e.each _ (nodeAt_mem hd)
           have hzd := HT.out.2.1.e.fair.nz (nodeAt_mem hd)
           have HLE : Hid (Calls Tryz.prog 78 _ _ _) := leads_of okd hdk (HT.out.2.1.e.fair.names _ (nodeAt_mem hd)) his4 s
           have HNM := has_name okd hzd s
           have HDD : Hid (d < t.nodes.length ∧ (nodeAt t d).kind = 2 ∧ okB s = true ∧ s.size ≤ 12) := ⟨hd, hdk, o1, o2⟩
           obtain ⟨D, hD⟩ : ∃ D, (nodeAt t d).ino = D := ⟨_, rfl⟩
           have HD : Hid ((nodeAt t d).ino = D) := hD
           obtain ⟨T, hTe⟩ : ∃ T, nameB (nodeAt t d) s = T := ⟨_, rfl⟩
           have HTE : Hid (nameB (nodeAt t d) s = T) := hTe
           rw [hdk, hD] at hl4
           rw [hTe] at HLE HNM
           rw [hD]
           obtain ⟨hb, hbe⟩ : ∃ z, hasB (nodeAt t d).names s = z := ⟨_, rfl⟩
           have HBE : Hid (hasB (nodeAt t d).names s = hb) := hbe
           rw [hbe] at HLE HNM
           clear hlk okd hzd hd hdk o1 o2 his4 hD hTe hbe HEQ3
           go_wp2_with fail
           go_at_call 78
           refine HLE.out.mono ?_
           rintro e w5 ⟨rfl, hb5⟩
           have H5 : Hid (Below w.heap.size w w5) := bel2v H4.out hb5
           clear hb5 HLE H4 hl4 m4
           by_cases hT0 : T = 0
           · subst hT0
             have hbf : hb = false := by
              cases hb with
              | false => rfl
              | true => exact absurd rfl (HNM.1 rfl)
             subst hbf
             obtain ⟨p2, n1, n2, n3, n4, n5⟩ := ren_new HT.out.2.1 HOLD.out.2.2.2.1 HDD.out.1 HOLD.out.2.2.2.2.1 HDD.out.2.1 (path := path) (s := s) HOLD.out.2.2.2.2.2.2.2 HOLD.out.2.1 HOLD.out.2.2.1 HOLD.out.2.2.2.2.2.1 HOLD.out.2.2.2.2.2.2.1 HDD.out.2.2 HTE.out
             rw [HI.out] at n2 n3 n4 n5
             have HNC : Hid (Calls Tryz.prog 95 _ _ _) := dname_any s I w5 p b t d (HT.out.1.below H5.out) HT.out.2.1.e.fair HDD.out.1 HDD.out.2.1 n1 HDD.out.2.2.2
             rw [HD.out] at HNC
             have HUP : Hid (∀ W, DTree W p b (setB t d (withB (nodeAt t d) s I)) → _) := fun W hW => dunnamePath_any path W p b _ hW n2 HT.out.2.2.1 p2 old n3 n4
             rw [n5] at HUP
             have HR : Hid (r = (sweptB (movedB t p0 old d s I), noReply, 0)) := by
              show _ = _
              rw [HR0.out]
              unfold renT
              rw [if_neg (by rw [HTE.out]; simp), HI.out]
             clear n1 n2 n3 n4 n5 HNM HR0 HBE e00
             go_wp2_with fail
             go_at_call 95
             refine HNC.out.mono ?_
             rintro e w6 ⟨rfl, hd6, ht6⟩
             have HU6 : Hid (Calls Tryz.prog 98 _ _ _) := HUP.out w6 hd6
             have H6 : Hid (Turn p b w w6) := (turn_below H5.out).trans ht6
             clear hd6 ht6 HNC HUP H5
             go_wp2_with fail
             go_at_call 98
             refine HU6.out.mono ?_
             rintro e w7 ⟨rfl, hd7, ht7⟩
             have H7 : Hid (DTree w7 p b (sweptB (movedB t p0 old d s I)) ∧ Turn p b w w7) := ⟨hd7, H6.out.trans ht7⟩
             clear hd7 ht7 HU6 H6
             go_wp2
             go_ret
             rw [HR.out]
             exact ⟨rfl, H7.out⟩
           · have hbt : hb = true := HNM.2 hT0
             subst hbt
             by_cases hTI : T = I
             · have HR : Hid (r = (t, noReply, 0)) := by
                show _ = _
                rw [HR0.out]
                unfold renT
                rw [if_pos (by rw [HTE.out]; exact hT0), if_pos (by rw [HTE.out, HI.out]; exact hTI)]
               subst hTI
               clear HR0 HNM HBE e00 hT0
               go_wp2
               go_ret
               rw [HR.out]
               exact ⟨rfl, HT.out.1.below H5.out, turn_below H5.out⟩
             · have hTIb : (T == I) = false := beq_eq_false_iff_ne.2 hTI
               obtain ⟨m, m1, m2, m3, _⟩ := HT.out.2.1.e.fair.step HDD.out.1 (s := s) (by rw [HTE.out]; exact hT0)
               rw [HTE.out] at m1 m3
               obtain ⟨ta, tc, tsa, tsc, hlk⟩ := HT.out.1.lookAt HT.out.2.1.e.fair m2
               obtain ⟨hl5, n5, _⟩ := hlk w5 H5.out
               rw [m3] at hl5
               have hkT := HT.out.2.1.e.fair.kind (nodeAt_mem m2)
               have hnT := HT.out.2.1.e.fair.names _ (nodeAt_mem m2)
               have HUL : Hid (Calls Tryz.prog 97 _ _ _) := dunlike_any 2 (nodeAt t m).kind ta tsa (nodeAt t m).data.length tc (nodeAt t m).names.length tsc w5 (by omega) hkT (by omega)
               have HR1 : Hid (r = if unlikeB 2 (nodeAt t m).kind (nodeAt t m).names.length ≠ 0 then (t, noReply, unlikeB 2 (nodeAt t m).kind (nodeAt t m).names.length) else (sweptB (movedB (setB t d (withoutB (nodeAt t d) s)) p0 old d s I), noReply, 0)) := by
                show _ = _
                rw [HR0.out]
                unfold renT
                rw [if_pos (by rw [HTE.out]; exact hT0), if_neg (by rw [HTE.out, HI.out]; exact hTI), HTE.out, m1, HKD.out, HI.out]
                rfl
               have HMT : Hid (m < t.nodes.length ∧ (nodeAt t m).ino = T) := ⟨m2, m3⟩
               obtain ⟨u2, hu2⟩ : ∃ z, unlikeB 2 (nodeAt t m).kind (nodeAt t m).names.length = z := ⟨_, rfl⟩
               have HU2 : Hid (unlikeB 2 (nodeAt t m).kind (nodeAt t m).names.length = u2) := hu2
               rw [hu2] at HUL HR1
               obtain ⟨kT, hkTe⟩ : ∃ z, (nodeAt t m).kind = z := ⟨_, rfl⟩
               rw [hkTe] at HUL hl5
               clear hlk m1 m2 m3 hkT hnT hu2 hkTe HNM HR0
               go_wp2_with fail
               go_at_call 97
               refine HUL.out.mono ?_
               rintro e w6 ⟨rfl, hb6⟩
               have H6 : Hid (Below w.heap.size w w6) := bel2v H5.out hb6
               clear hb6 HUL H5 hl5 n5
               by_cases hu0 : u2 = 0
               · subst hu0
                 rw [e00]
                 have HR : Hid (r = (sweptB (movedB (setB t d (withoutB (nodeAt t d) s)) p0 old d s I), noReply, 0)) := by show _ = _; rw [HR1.out, if_neg (by simp)]
                 obtain ⟨d1, p2, n1, n2, n3, n4, n5, n6, n7, n8, n9⟩ := ren_there HT.out.2.1 (m := m) HOLD.out.2.2.2.1 HDD.out.1 HOLD.out.2.2.2.2.1 HDD.out.2.1 (path := path) (s := s) HOLD.out.2.2.2.2.2.2.2 HOLD.out.2.1 HOLD.out.2.2.1 HOLD.out.2.2.2.2.2.1 HOLD.out.2.2.2.2.2.2.1 HDD.out.2.2 HTE.out hT0 (by rw [HI.out]; exact fun e => hTI e.symm) HMT.out.1 HMT.out.2 (unlike_none HU2.out)
                 rw [HI.out] at n6 n7 n8 n9
                 have hsm : s ∈ (nodeAt t d).names := has_iff.1 HBE.out
                 have HUN : Hid (Calls Tryz.prog 101 _ _ _) := dunname_any s w6 p b t d (HT.out.1.below H6.out) HT.out.2.1.e.fair HDD.out.1 HDD.out.2.1 hsm
                 rw [HD.out] at HUN
                 obtain ⟨x1, hx1⟩ : ∃ z, unnameB t d s = z := ⟨_, rfl⟩
                 rw [hx1] at n1 n2 n3 n4 n5 n6 n7 n8 n9 HUN
                 have HNC : Hid (∀ W, DTree W p b x1 → _) := fun W hW => dname_any s I W p b x1 d1 hW n1 n2 n4 n5 HDD.out.2.2.2
                 rw [n3, HD.out] at HNC
                 have HUP : Hid (∀ W, DTree W p b (setB x1 d1 (withB (nodeAt x1 d1) s I)) → _) := fun W hW => dunnamePath_any path W p b _ hW n6 HT.out.2.2.1 p2 old n7 n8
                 rw [n9] at HUP
                 clear n1 n2 n3 n4 n5 n6 n7 n8 n9 hx1 hsm HR1 HU2 HMT HBE e00
                 go_wp2_with fail
                 go_at_call 101
                 refine HUN.out.mono ?_
                 rintro e w7 ⟨rfl, hd7, ht7⟩
                 have HN7 : Hid (Calls Tryz.prog 95 _ _ _) := HNC.out w7 hd7
                 have H7 : Hid (Turn p b w w7) := (turn_below H6.out).trans ht7
                 clear hd7 ht7 HUN HNC H6
                 go_wp2_with fail
                 go_at_call 95
                 refine HN7.out.mono ?_
                 rintro e w8 ⟨rfl, hd8, ht8⟩
                 have HU8 : Hid (Calls Tryz.prog 98 _ _ _) := HUP.out w8 hd8
                 have H8 : Hid (Turn p b w w8) := H7.out.trans ht8
                 clear hd8 ht8 HN7 HUP H7
                 go_wp2_with fail
                 go_at_call 98
                 refine HU8.out.mono ?_
                 rintro e w9 ⟨rfl, hd9, ht9⟩
                 have H9 : Hid (DTree w9 p b (sweptB (movedB (setB t d (withoutB (nodeAt t d) s)) p0 old d s I)) ∧ Turn p b w w9) := ⟨hd9, H8.out.trans ht9⟩
                 clear hd9 ht9 HU8 H8
                 go_wp2
                 go_ret
                 rw [HR.out]
                 exact ⟨rfl, H9.out⟩
               · have HR : Hid (r = (t, noReply, u2)) := by show _ = _; rw [HR1.out, if_pos hu0]
                 have HE : Hid (errV u2 = .iface 80 (.int .i64 u2)) := errV_ne hu0
                 rw [errV_ne hu0]
                 clear HR1 hu0 e00
                 go_wp2
                 go_ret
                 rw [HR.out]
                 exact ⟨by rw [HE.out]; rfl, HT.out.1.below H6.out, turn_below H6.out⟩
end Go.Proofs.YtbebgobboccjcaaGreatDoor
namespace Go.Proofs.YtbebgobboccjcaaGreatDoor
open Go.RowKit Kit
set_option linter.unusedVariables false

def Cd (x : Int) : Prop := 0 ≤ x ∧ x ≤ 19
theorem split_cd (s : ByteArray) : Cd (splitB s).2 := by
 unfold splitB Cd
 repeat' split
 all_goals simp
theorem parent_cd (s : ByteArray) : Cd (parentB s).2.2 := by
 unfold parentB
 split
 · exact split_cd s
 · split <;> (unfold Cd; simp)
theorem find_cd {t : TreeB} {p : ByteArray} {x : Int} (h : findB t p = .error x) : Cd x := by
 unfold Cd
 rcases find_code h with h | h | h | h | h <;> omega
theorem home_cd {t : TreeB} {p : ByteArray} {x : Int} (h : homeB t p = .error x) : Cd x := by
 unfold homeB at h
 split at h
 · injection h with h
   rw [← h]; exact parent_cd p
 · split at h
   · rename_i y hy
     injection h with h
     rw [← h]; exact find_cd hy
   · split at h
     · injection h with h
       rw [← h]; unfold Cd; omega
     · cases h
theorem cd0 : Cd 0 := by unfold Cd; omega
theorem do_cd (t : TreeB) (o : OpB) : Cd (doB t o).2.2 := by
 unfold doB
 split
 · unfold makesB
   split
   · rename_i h; exact home_cd h
   · repeat' split
     all_goals (unfold Cd; simp)
 split
 · unfold removesB
   split
   · exact parent_cd _
   split
   · rename_i h; exact find_cd h
   · repeat' split
     all_goals (unfold Cd; simp)
 split
 · unfold renameB
   split
   · exact parent_cd _
   split
   · exact parent_cd _
   split
   · rename_i h; exact find_cd h
   split
   · unfold Cd; simp
   split
   · rename_i h; exact home_cd h
   · repeat' split
     all_goals (unfold Cd; simp)
 split
 · unfold linkB
   split
   · exact parent_cd _
   split
   · rename_i h; exact find_cd h
   split
   · unfold Cd; simp
   split
   · rename_i h; exact home_cd h
   · repeat' split
     all_goals (unfold Cd; simp)
 split
 · unfold fileB
   split
   · rename_i h; exact find_cd h
   · repeat' split
     all_goals (unfold Cd; simp)
 split
 · unfold looksB
   split
   · rename_i h; exact find_cd h
   · repeat' split
     all_goals (unfold Cd; simp)
 · unfold Cd; simp
end Go.Proofs.YtbebgobboccjcaaGreatDoor
namespace Go.Proofs.YtbebgobboccjcaaGreatDoor
open Go.RowKit Kit
set_option linter.unusedVariables false

theorem sum_take_le {α : Type} (f : α → Nat) (l : List α) (k : Nat) : ((l.take k).map f).sum ≤ (l.map f).sum := by
 conv => rhs; rw [← List.take_append_drop k l, List.map_append, List.sum_append]
 omega
theorem sum_take_next {α : Type} (f : α → Nat) (l : List α) (k : Nat) (h : k < l.length) : ((l.take (k + 1)).map f).sum = ((l.take k).map f).sum + f l[k] := by
 rw [List.take_add_one, List.getElem?_eq_getElem h, Option.toList_some, List.map_append, List.sum_append]
 simp
theorem count_take_next (l : List Int) (k : Nat) (h : k < l.length) (i : Int) : (l.take (k + 1)).count i = (l.take k).count i + if l.getD k 0 = i then 1 else 0 := by
 rw [List.take_add_one, List.getElem?_eq_getElem h, Option.toList_some, List.count_append]
 simp [List.getD, h, List.count_cons]
theorem count_take_le (l : List Int) (k : Nat) (i : Int) : (l.take k).count i ≤ l.count i := by
 conv => rhs; rw [← List.take_append_drop k l, List.count_append]
 omega
set_option maxRecDepth 4000 in
set_option maxHeartbeats 8000000 in
theorem links_any (v : Value) (t : TreeB) (i : Int) (w : World) (hT : TreeAt w v t) (hs : t.nodes.length ≤ 100) (hk : (t.nodes.map fun n => countB n i).sum ≤ 100000) :
 Calls Tryz.prog 55 #[v, .int .i64 i] w fun e w' => e = .returned (.int .i64 (linksB t i : Int)) ∧ Below w.heap.size w w' := by
 have HT : Hid (TreeAt w v t) := hT
 obtain ⟨ao, cap, fs, rfl, h1, h2, h3, h4, h5⟩ := hT.opened
 have hl := fs_len h3
 have lm : (t.nodes.length : Int) ≤ 100 := by omega
 have HKB : Hid ((t.nodes.map fun n => countB n i).sum ≤ 100000) := hk
 have H5 : Hid (_ → _) := h5
 have H3 : Hid (fs.map FN.n = t.nodes ∧ ∀ f ∈ fs, f.is w) := ⟨h3, h4⟩
 obtain ⟨w0, hw0⟩ : ∃ w0, w0 = w.alloc (.cells #[.slice ao t.nodes.length cap, .int .i64 t.next] 29) := ⟨_, rfl⟩
 have HW0 : Hid (Below w.heap.size w w0 ∧ w.heap.size < w0.heap.size ∧ w0.cell? ⟨w.heap.size, 0, none⟩ = some (.slice ao t.nodes.length cap)) := by
  subst hw0
  exact ⟨(Below.refl _ _).alloc (Nat.le_refl _) _, by simp, by simp⟩
 have HP : Hid (Calls Tryz.prog 23 _ _ _) := place_any _ t i w0 (HT.out.below HW0.out.1)
 clear h1 h2 h3 h4 h5 hT hk hs
 go_enter Tryz.func55, Tryz.ntmps55
 go_wp2_with fail
 go_at_call 23
 rw [← hw0]
 refine HP.out.mono ?_
 rintro e1 w1 ⟨rfl, hb1⟩
 have H1 : Hid (Below w.heap.size w w1 ∧ w.heap.size < w1.heap.size ∧ w1.cell? ⟨w.heap.size, 0, none⟩ = some (.slice ao t.nodes.length cap)) := ⟨bel2v HW0.out.1 hb1, Nat.lt_of_lt_of_le HW0.out.2.1 hb1.size, (hb1.cell (by exact HW0.out.2.1)).trans HW0.out.2.2⟩
 have HL : Hid (linksB t i = if (placeO t i).isNone then 0 else if i = 1 then 1 else (t.nodes.map fun n => countB n i).sum) := rfl
 clear HP HW0 hw0 hb1
 unfold placeB
 cases hpo : placeO t i with
 | none =>
   have HR : Hid (linksB t i = 0) := by show _ = _; rw [HL.out, hpo]; rfl
   clear HL hpo
   go_wp2
   go_ret
   exact ⟨by rw [HR.out]; rfl, H1.out.1⟩
 | some pk =>
   have hpk : ¬ (pk : Int) < 0 := by omega
   by_cases hi1 : i = 1
   · subst hi1
     have HR : Hid (linksB t 1 = 1) := by show _ = _; rw [HL.out, hpo]; rfl
     clear HL hpo
     go_wp2
     go_ret
     exact ⟨by rw [HR.out]; rfl, H1.out.1⟩
   · have hie : (i == 1) = false := beq_eq_false_iff_ne.2 hi1
     have HR : Hid (linksB t i = (t.nodes.map fun n => countB n i).sum) := by show _ = _; rw [HL.out, hpo, if_neg (by simp), if_neg hi1]
     have c0 := H1.out.2.2
     clear HL hpo hi1
     go_wp2
     go_loopw [5, 6, 7] (fun n a _ wr => ∃ k c : Nat, k ≤ t.nodes.length ∧ n = .int .i64 (c : Int) ∧ a = .int .i64 (k : Int) ∧ wr = w1 ∧ Hid (c = ((t.nodes.take k).map fun n => countB n i).sum)) (fun _ a _ _ => t.nodes.length - (intOf a).toNat)
     case atStart => exact ⟨0, 0, Nat.zero_le _, rfl, rfl, rfl, rfl⟩
     case round =>
      obtain ⟨k, c, hk, rfl, rfl, rfl, HS⟩ := hrel
      by_cases hlt : k < t.nodes.length
      · obtain ⟨b, off, hao, hb, hc⟩ := H5.out (by omega)
        subst hao
        have hfk : k < fs.length := by omega
        have a5 := At5.below (hc k hfk) hb H1.out.1
        have hn : nodeAt t k = fs[k].n := fs_at H3.out.1 hfk
        have hfis : fs[k].is wr := (H3.out.2 _ (List.getElem_mem hfk)).below H1.out.1
        obtain ⟨f, hf⟩ : ∃ f, fs[k] = f := ⟨_, rfl⟩
        rw [hf] at a5 hn hfis
        have hbound : c + countB f.n i ≤ 100000 := by
         have h6 := sum_take_next (fun n => countB n i) t.nodes k hlt
         have h7 := sum_take_le (fun n => countB n i) t.nodes (k + 1)
         rw [← nodeAt_eq t k hlt, hn] at h6
         have := HS.out
         have := HKB.out
         omega
        have HS2 : Hid (c + countB f.n i = ((t.nodes.take (k + 1)).map fun n => countB n i).sum) := by
         show _ = _
         rw [sum_take_next (fun n => countB n i) t.nodes k hlt, ← HS.out, ← nodeAt_eq t k hlt, hn]
        have HBD : Hid (c + countB f.n i ≤ 100000) := hbound
        obtain ⟨⟨ino, kind, data, names, inos⟩, d, m, iv⟩ := f
        obtain ⟨_, _, hi⟩ := hfis
        obtain ⟨_, a1, _, _, a4⟩ := a5
        simp only at hi a1 a4 HBD HS2
        obtain ⟨io, ic, rfl, q1, q2, q3, q4⟩ := hi
        rw [intsV_len] at q1 q4 a4
        have qm : (inos.length : Int) ≤ 9223372036854775807 := by unfold maxLen at q2; omega
        have Q4 : Hid (_ → _) := q4
        have j0 : (k : Int) < (t.nodes.length : Int) := by omega
        have j1 : (0 : Int) ≤ (k : Int) := by omega
        obtain ⟨w1, hw1⟩ : ∃ z, z = wr := ⟨_, rfl⟩
        subst hw1
        clear hc hb hn hf q1 q2 q3 q4 hbound HS
        go_wp2
        go_loopw [5, 7] (fun n a wr => ∃ g c2 : Nat, g ≤ inos.length ∧ (0 < g → kind = 2) ∧ n = .int .i64 (c2 : Int) ∧ a = .int .i64 (g : Int) ∧ wr = w1 ∧ Hid (c2 = c + (inos.take g).count i)) (fun _ a _ => inos.length - (intOf a).toNat)
        case atStart => exact ⟨0, c, Nat.zero_le _, fun h => by omega, rfl, rfl, rfl, (show _ = _ by simp)⟩
        case round =>
         obtain ⟨g, c2, hg, hgk, rfl, rfl, rfl, HC⟩ := hrel
         by_cases hgl : g < inos.length
         · have l0 : (g : Int) < (inos.length : Int) := by omega
           have l1 : (0 : Int) ≤ (g : Int) := by omega
           by_cases hkd : kind = 2
           · subst hkd
             obtain ⟨ib, jf, hio, hib, hicell⟩ := Q4.out (by omega)
             subst hio
             have ci := hicell g _ (intsV_at .i64 inos g hgl)
             obtain ⟨x, hx⟩ : ∃ x, inos.getD g 0 = x := ⟨_, rfl⟩
             rw [hx] at ci
             have hnext := count_take_next inos g hgl i
             rw [hx] at hnext
             have hle := count_take_le inos (g + 1) i
             have hcb : countB ⟨ino, 2, data, names, inos⟩ i = inos.count i := by unfold countB; rw [if_pos rfl]
             have hB := HBD.out
             rw [hcb] at hB
             have hC := HC.out
             clear hicell hib hx hcb
             by_cases hxi : x = i
             · subst hxi
               rw [if_pos rfl] at hnext
               have HC2 : Hid (c2 + 1 = c + (inos.take (g + 1)).count x) := by show _ = _; omega
               have m0 : (c2 : Int) ≤ 100000 := by omega
               clear hnext hle hB hC HC
               go_wp2
               go_roundw
               case rel => exact ⟨g + 1, c2 + 1, by omega, fun _ => trivial, by simp, by simp, trivial, HC2⟩
               case measure => simp [intOf]; omega
             · have hxe : (x == i) = false := beq_eq_false_iff_ne.2 hxi
               rw [if_neg hxi] at hnext
               have HC2 : Hid (c2 = c + (inos.take (g + 1)).count i) := by show _ = _; omega
               clear hnext hle hB hC HC hxi
               go_wp2
               go_roundw
               case rel => exact ⟨g + 1, c2, by omega, fun _ => trivial, rfl, by simp, trivial, HC2⟩
               case measure => simp [intOf]; omega
           · have hke : (kind == 2) = false := beq_eq_false_iff_ne.2 hkd
             have hg0 : g = 0 := by
              rcases Nat.eq_zero_or_pos g with h0 | h0
              · exact h0
              · exact absurd (hgk h0) hkd
             have HE : Hid (c2 = ((t.nodes.take (k + 1)).map fun n => countB n i).sum) := by
              show _ = _
              rw [← HS2.out, HC.out, hg0]
              unfold countB
              simp [hkd]
             clear HC hkd hgk
             go_wp2
             go_roundw
             case rel => exact ⟨k + 1, c2, by omega, rfl, by simp, trivial, HE⟩
             case measure => simp [intOf]; omega
         · obtain rfl : g = inos.length := by omega
           have HE : Hid (c2 = ((t.nodes.take (k + 1)).map fun n => countB n i).sum) := by
            show _ = _
            rw [← HS2.out, HC.out, List.take_length]
            unfold countB
            by_cases hkd : kind = 2
            · simp [hkd]
            · have : inos.length = 0 := by
               rcases Nat.eq_zero_or_pos inos.length with h0 | h0
               · exact h0
               · exact absurd (hgk h0) hkd
              have : inos = [] := List.eq_nil_of_length_eq_zero this
              subst this
              simp
           have l0 : ¬ (inos.length : Int) < (inos.length : Int) := by omega
           clear HC hgk hgl
           go_wp2
           go_roundw
           case rel => exact ⟨k + 1, c2, by omega, rfl, by simp, trivial, HE⟩
           case measure => simp [intOf]; omega
      · obtain rfl : k = t.nodes.length := by omega
        have HE : Hid (linksB t i = c) := by show _ = _; rw [HR.out, HS.out, List.take_length]
        clear HS HR
        go_wp2
        go_ret
        exact ⟨by rw [HE.out]; rfl, H1.out.1⟩
end Go.Proofs.YtbebgobboccjcaaGreatDoor
namespace Go.Proofs.YtbebgobboccjcaaGreatDoor
open Go.RowKit Kit
set_option linter.unusedVariables false

def resH (r : Except Int (Nat × ByteArray)) : Value := match r with
 | .ok (d, s) => .tuple #[.int .i64 (d : Int), .string s, .int .i64 0]
 | .error e => .tuple #[.int .i64 (-1), .string ⟨#[]⟩, .int .i64 e]
set_option maxRecDepth 4000 in
set_option maxHeartbeats 8000000 in
theorem home_any (v : Value) (t : TreeB) (p : ByteArray) (w : World) (hT : TreeAt w v t) (hg : Good t) (hp : p.size ≤ maxLen) :
 Calls Tryz.prog 83 #[v, .string p] w fun e w' => e = .returned (resH (homeB t p)) ∧ Below w.heap.size w w' := by
 have HT : Hid (TreeAt w v t) := hT
 obtain ⟨ao, cap, fs, rfl, h1, h2, h3, h4, h5⟩ := hT.opened
 have hl := fs_len h3
 have lm : (t.nodes.length : Int) ≤ 60 := by have := hg.e.size; omega
 obtain ⟨b, off, hao, hb, hc⟩ := h5 hg.e.root0.1
 subst hao
 have HC : Hid (b < w.heap.size ∧ (∀ k (hk : k < fs.length), At5 w b (off + k * 5) fs[k]) ∧ fs.map FN.n = t.nodes) := ⟨hb, hc, h3⟩
 have HG : Hid (Good t) := hg
 obtain ⟨w0, hw0⟩ : ∃ w0, w0 = w.alloc (.cells #[.slice (some ⟨b, off, none⟩) t.nodes.length cap, .int .i64 t.next] 29) := ⟨_, rfl⟩
 have HW0 : Hid (Below w.heap.size w w0 ∧ w.heap.size < w0.heap.size ∧ w0.cell? ⟨w.heap.size, 0, none⟩ = some (.slice (some ⟨b, off, none⟩) t.nodes.length cap) ∧ w0.cell? ⟨w.heap.size, 1, none⟩ = some (.int .i64 t.next)) := by
  subst hw0
  exact ⟨(Below.refl _ _).alloc (Nat.le_refl _) _, by simp, by simp, by simp⟩
 have HX : Hid (Calls Tryz.prog 87 _ _ _) := parent_any p w0 hp
 have HH : Hid (homeB t p = if (parentB p).2.2 ≠ 0 then .error (parentB p).2.2 else match findB t (parentB p).1 with
  | .error e => .error e
  | .ok d => if (nodeAt t d).kind ≠ 2 then .error 8 else .ok (d, (parentB p).2.1)) := rfl
 have hsz : (parentB p).2.2 = 0 → (parentB p).1.size ≤ maxLen := fun h0 => by
  obtain ⟨h2, l, s, e1, e2, e3, _, _⟩ := parent_ok h0
  rw [e2]
  have h6 : (splitB (joinB l)).2 = 0 := by rw [e3]
  rcases split_ok h6 with ⟨h7, _⟩ | ⟨_, h7, _⟩
  · simp only [h7]; decide
  · unfold maxLen; simp only; omega
 obtain ⟨⟨dir, name, c⟩, he⟩ : ∃ x, parentB p = x := ⟨_, rfl⟩
 rw [he] at HX HH hsz
 simp only at HX HH hsz
 have HSZ : Hid (c = 0 → dir.size ≤ maxLen) := hsz
 clear h1 h2 h3 h4 h5 hT hb hc hp he hg hsz
 go_enter Tryz.func83, Tryz.ntmps83
 go_wp2_with fail
 go_at_call 87
 rw [← hw0]
 refine HX.out.mono ?_
 rintro e1 w1 ⟨rfl, hb1⟩
 have H1 : Hid (Below w.heap.size w w1 ∧ w.heap.size < w1.heap.size ∧ w1.cell? ⟨w.heap.size, 0, none⟩ = some (.slice (some ⟨b, off, none⟩) t.nodes.length cap) ∧ w1.cell? ⟨w.heap.size, 1, none⟩ = some (.int .i64 t.next)) :=
  ⟨bel2v HW0.out.1 hb1, Nat.lt_of_lt_of_le HW0.out.2.1 hb1.size, (hb1.cell (by exact HW0.out.2.1)).trans HW0.out.2.2.1, (hb1.cell (by exact HW0.out.2.1)).trans HW0.out.2.2.2⟩
 clear HX HW0 hw0 hb1
 by_cases hc0 : c = 0
 · subst hc0
   have HF : Hid (Calls Tryz.prog 53 _ _ _) := find_any _ t dir w1 (HT.out.below H1.out.1) HG.out (HSZ.out rfl)
   have HH2 : Hid (homeB t p = match findB t dir with
    | .error e => .error e
    | .ok d => if (nodeAt t d).kind ≠ 2 then .error 8 else .ok (d, name)) := by show _ = _; rw [HH.out, if_neg (by simp)]
   have hlt : ∀ d, findB t dir = .ok d → d < t.nodes.length := fun d hd => (find_ok HG.out.e hd).2.2
   have c0 := H1.out.2.2.1
   have c1 := H1.out.2.2.2
   have hne : ∀ x, findB t dir = .error x → x ≠ 0 := by
    intro x hx e0
    subst e0
    unfold findB at hx
    split at hx
    · rename_i h9
      injection hx with h10
      exact h9 h10
    · have : ∀ (l : List ByteArray) (k : Nat), walkB t k l ≠ .error 0 := by
       intro l
       induction l with
       | nil => intro k h; rw [walkB] at h; cases h
       | cons s r ih =>
         intro k h
         rw [walkB] at h
         split at h
         · cases h
         · split at h
           · cases h
           · exact ih _ h
      exact this _ _ hx
   obtain ⟨r, hr⟩ : ∃ r, findB t dir = r := ⟨_, rfl⟩
   rw [hr] at HF HH2 hlt hne
   clear HH hr HSZ
   go_wp2_with fail
   go_at_call 53
   refine HF.out.mono ?_
   rintro e2 w2 ⟨rfl, hb2⟩
   have H2 : Hid (Below w.heap.size w w2 ∧ w2.cell? ⟨w.heap.size, 0, none⟩ = some (.slice (some ⟨b, off, none⟩) t.nodes.length cap)) := ⟨bel2v H1.out.1 hb2, (hb2.cell (by exact H1.out.2.1)).trans c0⟩
   clear HF hb2 c0 c1 H1
   cases r with
   | error x =>
     have hx0 := hne x rfl
     have hxe : (x == 0) = false := beq_eq_false_iff_ne.2 hx0
     have hxe2 : (x != 0) = true := by simp [hx0]
     have HR : Hid (homeB t p = .error x) := HH2.out
     unfold resV
     clear HH2 hx0 hne hlt
     go_wp2
     go_ret3
     exact ⟨by rw [HR.out]; rfl, H2.out.1⟩
   | ok d =>
     have hd := hlt d rfl
     have hfd : d < fs.length := by omega
     have a5 := At5.below (HC.out.2.1 d hfd) HC.out.1 H2.out.1
     have hn : nodeAt t d = fs[d].n := fs_at HC.out.2.2 hfd
     obtain ⟨_, a1, _, _, _⟩ := a5
     rw [← hn] at a1
     have HH3 : Hid (homeB t p = if (nodeAt t d).kind ≠ 2 then .error 8 else .ok (d, name)) := HH2.out
     obtain ⟨kd, hkd⟩ : ∃ x, (nodeAt t d).kind = x := ⟨_, rfl⟩
     rw [hkd] at a1 HH3
     have c0 := H2.out.2
     have j0 : (d : Int) < (t.nodes.length : Int) := by omega
     have j1 : (0 : Int) ≤ (d : Int) := by omega
     unfold resV
     clear HH2 hne hlt hn hkd
     by_cases hk2 : kd = 2
     · subst hk2
       have HR : Hid (homeB t p = .ok (d, name)) := by show _ = _; rw [HH3.out, if_neg (by simp)]
       clear HH3
       go_wp2
       go_ret3
       exact ⟨by rw [HR.out]; rfl, H2.out.1⟩
     · have hke : (kd == 2) = false := beq_eq_false_iff_ne.2 hk2
       have hke2 : (kd != 2) = true := by simp [hk2]
       have HR : Hid (homeB t p = .error 8) := by show _ = _; rw [HH3.out, if_pos hk2]
       clear HH3 hk2
       go_wp2
       go_ret3
       exact ⟨by rw [HR.out]; rfl, H2.out.1⟩
 · have hce : (c == 0) = false := beq_eq_false_iff_ne.2 hc0
   have hce2 : (c != 0) = true := by simp [hc0]
   have HR : Hid (homeB t p = .error c) := by show _ = _; rw [HH.out, if_pos hc0]
   clear HH hc0 HSZ
   go_wp2
   go_ret3
   exact ⟨by rw [HR.out]; rfl, H1.out.1⟩
end Go.Proofs.YtbebgobboccjcaaGreatDoor
namespace Go.Proofs.YtbebgobboccjcaaGreatDoor
open Go.RowKit Kit
set_option linter.unusedVariables false

theorem infoI : (Tryz.prog.info? 3).map (fun i => (i.zero, i.size, i.bytes)) = some (some (.int .i64 0), 1, 8) := by kernel_rfl
def MB (w : World) (b : Nat) (a0 a1 a2 a3 a4 : Value) : Prop := w.heap[b]? = some (.cells #[a0, a1, a2, a3, a4] 60)
section
variable {w w' : World} {b : Nat} {a0 a1 a2 a3 a4 : Value}
theorem MB.lt (h : MB w b a0 a1 a2 a3 a4) : b < w.heap.size := (Array.getElem?_eq_some_iff.1 h).1
theorem MB.c (h : MB w b a0 a1 a2 a3 a4) : w.cell? ⟨b, 0, none⟩ = some a0 ∧ w.cell? ⟨b, 1, none⟩ = some a1 ∧ w.cell? ⟨b, 2, none⟩ = some a2 ∧ w.cell? ⟨b, 3, none⟩ = some a3 ∧ w.cell? ⟨b, 4, none⟩ = some a4 := by
 unfold MB at h
 simp [World.cell?, h]
theorem MB.fz (h : MB w b a0 a1 a2 a3 a4) (j : Nat) : w.frozen? ⟨b, j, none⟩ = false := by
 unfold MB at h
 simp [World.frozen?, h]
theorem MB.below (h : MB w b a0 a1 a2 a3 a4) (hb : Below w.heap.size w w') : MB w' b a0 a1 a2 a3 a4 := (hb.block b h.lt).trans h
theorem MB.grown {row : Option Nat} (h : MB w b a0 a1 a2 a3 a4) (hg : w.grownBy w' row) (hne : some b ≠ row) : MB w' b a0 a1 a2 a3 a4 := (hg.block b h.lt hne).trans h
theorem MB.row (h : MB w b a0 a1 a2 a3 a4) {base n : Nat} {e : TypeId} {v : Value} {xs : List Value} (hr : w.ownsRow base e 1 v n xs) (he : e ≠ 60) : some b ≠ v.ownBlock := by
 rcases hr.2 with ⟨rfl, _⟩ | ⟨g, cap, cur, rfl, _, hg, _⟩
 · simp [Value.ownBlock]
 · intro e2
   have e3 : b = g := by simpa [Value.ownBlock] using e2
   subst e3
   unfold MB at h
   rw [h] at hg
   injection hg with hg
   injection hg with _ h3 _
   exact he h3.symm
theorem MB.set3 (h : MB w b a0 a1 a2 a3 a4) (v : Value) : MB (w.setCell ⟨b, 3, none⟩ v) b a0 a1 a2 v a4 := by
 have hlt := h.lt
 unfold MB at *
 simp [World.setCell, Array.getElem?_modify, h]
theorem MB.set4 (h : MB w b a0 a1 a2 a3 a4) (v : Value) : MB (w.setCell ⟨b, 4, none⟩ v) b a0 a1 a2 a3 v := by
 have hlt := h.lt
 unfold MB at *
 simp [World.setCell, Array.getElem?_modify, h]
theorem MB.setOther (h : MB w b a0 a1 a2 a3 a4) {c j : Nat} (hne : c ≠ b) (v : Value) : MB (w.setCell ⟨c, j, none⟩ v) b a0 a1 a2 a3 a4 := by
 unfold MB at *
 rw [Below.heap_setCell _ _ _ b (fun e => hne (show c = b from e.symm))]; exact h
end
theorem own_block {w w' : World} {base sz n : Nat} {e : TypeId} {v : Value} {xs : List Value} (h : w.ownsRow base e sz v n xs) (hb : ∀ g, v.ownBlock = some g → w'.heap[g]? = w.heap[g]?) : w'.ownsRow base e sz v n xs := by
 refine ⟨h.1, ?_⟩
 rcases h.2 with h2 | ⟨g, cap, cur, hv, hg, hh, r⟩
 · exact .inl h2
 · exact .inr ⟨g, cap, cur, hv, hg, by rw [hb g (by rw [hv]; rfl)]; exact hh, r⟩
theorem rows_apart {w : World} {b1 b2 n1 n2 : Nat} {e1 e2 : TypeId} {v1 v2 : Value} {xs ys : List Value} (h1 : w.ownsRow b1 e1 1 v1 n1 xs) (h2 : w.ownsRow b2 e2 1 v2 n2 ys) (hne : e1 ≠ e2) : ∀ g, v1.ownBlock = some g → v2.ownBlock ≠ some g := by
 intro g hg hg2
 rcases h1.2 with ⟨rfl, _⟩ | ⟨g1, c1, cur1, rfl, _, hh1, _⟩
 · simp [Value.ownBlock] at hg
 · rcases h2.2 with ⟨rfl, _⟩ | ⟨g2, c2, cur2, rfl, _, hh2, _⟩
   · simp [Value.ownBlock] at hg2
   · have e3 : g1 = g := by simpa [Value.ownBlock] using hg
     have e4 : g2 = g := by simpa [Value.ownBlock] using hg2
     subst e3
     subst e4
     rw [hh1] at hh2
     injection hh2 with hh2
     injection hh2 with _ h3 _
     exact hne h3
def Bld (w wr : World) (f : FN) (X Y : Value) (ds : List ByteArray) (es : List Int) : Prop :=
 MB wr w.heap.size (.int .i64 f.n.ino) (.int .i64 f.n.kind) f.d f.m f.i ∧ MB wr (w.heap.size + 1) (.int .i64 0) (.int .i64 0) (.slice none 0 0) (.slice none 0 0) (.slice none 0 0) ∧ MB wr (w.heap.size + 2) (.int .i64 f.n.ino) (.int .i64 f.n.kind) (.slice none 0 0) X Y ∧
 wr.ownsRow (w.heap.size + 3) 9 1 X ds.length (strs ds) ∧ wr.ownsRow (w.heap.size + 3) 3 1 Y es.length (intsV .i64 es) ∧ Below w.heap.size w wr
theorem Bld.below {w wr w1 : World} {f : FN} {X Y : Value} {ds : List ByteArray} {es : List Int} (h : Bld w wr f X Y ds es) (hb : Below wr.heap.size wr w1) : Bld w w1 f X Y ds es := by
 obtain ⟨h1, h2, h3, h4, h5, h6⟩ := h
 refine ⟨h1.below hb, h2.below hb, h3.below hb, own_block h4 fun g hg => hb.block g (h4.lt g hg).2, own_block h5 fun g hg => hb.block g (h5.lt g hg).2, bel2v h6 hb⟩
theorem Bld.name {w w1 w2 : World} {f : FN} {X X' Y : Value} {ds : List ByteArray} {es : List Int} {x : ByteArray} (h : Bld w w1 f X Y ds es) (g : w1.grownBy w2 X.ownBlock) (hr : w2.ownsRow (w.heap.size + 3) 9 1 X' (ds.length + 1) (strs ds ++ [.string x])) :
 Bld w (w2.setCell ⟨w.heap.size + 2, 3, none⟩ X') f X' Y (ds ++ [x]) es := by
 obtain ⟨h1, h2, h3, h4, h5, h6⟩ := h
 have n1 := h1.row h4 (by decide)
 have n2 := h2.row h4 (by decide)
 have n3 := h3.row h4 (by decide)
 have m3 := h3.grown g n3
 have hX' : ∀ gg, X'.ownBlock = some gg → w.heap.size + 3 ≤ gg := fun gg hg => (hr.lt gg hg).1
 have hY : ∀ gg, Y.ownBlock = some gg → w.heap.size + 3 ≤ gg := fun gg hg => (h5.lt gg hg).1
 refine ⟨(h1.grown g n1).setOther (by omega) _, (h2.grown g n2).setOther (by omega) _, m3.set3 X', ?_, ?_, ?_⟩
 · have := own_block (w' := w2.setCell ⟨w.heap.size + 2, 3, none⟩ X') hr fun gg hg => Below.heap_setCell _ _ _ gg (fun e => by have := hX' gg hg; have e2 : gg = w.heap.size + 2 := e; omega)
   rw [List.length_append]
   unfold strs at *
   rw [List.map_append]; exact this
 · have k5 : w2.ownsRow (w.heap.size + 3) 3 1 Y es.length (intsV .i64 es) := own_block h5 fun gg hg => g.block gg (h5.lt gg hg).2 (fun e => rows_apart h5 h4 (by decide) gg hg e.symm)
   exact own_block k5 fun gg hg => Below.heap_setCell _ _ _ gg (fun e => by have := hY gg hg; have e2 : gg = w.heap.size + 2 := e; omega)
 · exact (h6.grown g h6.size (fun k hk => by have := (h4.lt k hk).1; omega)).setCell (by show w.heap.size ≤ w.heap.size + 2; omega) _
theorem Bld.num {w w1 w2 : World} {f : FN} {X Y Y' : Value} {ds : List ByteArray} {es : List Int} {x : Int} (h : Bld w w1 f X Y ds es) (g : w1.grownBy w2 Y.ownBlock) (hr : w2.ownsRow (w.heap.size + 3) 3 1 Y' (es.length + 1) (intsV .i64 es ++ [.int .i64 x])) :
 Bld w (w2.setCell ⟨w.heap.size + 2, 4, none⟩ Y') f X Y' ds (es ++ [x]) := by
 obtain ⟨h1, h2, h3, h4, h5, h6⟩ := h
 have n1 := h1.row h5 (by decide)
 have n2 := h2.row h5 (by decide)
 have n3 := h3.row h5 (by decide)
 have m3 := h3.grown g n3
 have hY' : ∀ gg, Y'.ownBlock = some gg → w.heap.size + 3 ≤ gg := fun gg hg => (hr.lt gg hg).1
 have hX : ∀ gg, X.ownBlock = some gg → w.heap.size + 3 ≤ gg := fun gg hg => (h4.lt gg hg).1
 refine ⟨(h1.grown g n1).setOther (by omega) _, (h2.grown g n2).setOther (by omega) _, m3.set4 Y', ?_, ?_, ?_⟩
 · have k5 : w2.ownsRow (w.heap.size + 3) 9 1 X ds.length (strs ds) := own_block h4 fun gg hg => g.block gg (h4.lt gg hg).2 (fun e => rows_apart h4 h5 (by decide) gg hg e.symm)
   exact own_block k5 fun gg hg => Below.heap_setCell _ _ _ gg (fun e => by have := hX gg hg; have e2 : gg = w.heap.size + 2 := e; omega)
 · have := own_block (w' := w2.setCell ⟨w.heap.size + 2, 4, none⟩ Y') hr fun gg hg => Below.heap_setCell _ _ _ gg (fun e => by have := hY' gg hg; have e2 : gg = w.heap.size + 2 := e; omega)
   rw [List.length_append]
   unfold intsV at *
   rw [List.map_append]; exact this
 · exact (h6.grown g h6.size (fun k hk => by have := (h5.lt k hk).1; omega)).setCell (by show w.heap.size ≤ w.heap.size + 2; omega) _
def Fresh (n : Nat) (v : Value) : Prop := ∀ g, v.ownBlock = some g → n ≤ g
theorem Bld.fresh {w wr : World} {f : FN} {X Y : Value} {ds : List ByteArray} {es : List Int} (h : Bld w wr f X Y ds es) : Fresh w.heap.size X ∧ Fresh w.heap.size Y :=
 ⟨fun g hg => by have := (h.2.2.2.1.lt g hg).1; omega, fun g hg => by have := (h.2.2.2.2.1.lt g hg).1; omega⟩
end Go.Proofs.YtbebgobboccjcaaGreatDoor
namespace Go.Proofs.YtbebgobboccjcaaGreatDoor
open Go.RowKit Kit
set_option linter.unusedVariables false

theorem dat_other {p b g off : Nat} {w : World} {ds : List DN} {nx : Int} (hd : DAt w p b ds nx) {x : Value} (h : w.cell? ⟨g, off, none⟩ = some x) (h0 : x ≠ .map (some b)) (h1 : x ≠ .int .i64 nx) : g ≠ p ∧ g ≠ b := by
 refine ⟨fun e2 => ?_, fun e2 => ?_⟩
 · subst e2
   simp only [World.cell?, hd.1] at h
   match off with
   | 0 => simp at h; exact h0 h.symm
   | 1 => simp at h; exact h1 h.symm
   | o + 2 => simp at h
 · subst e2
   rw [hd.2.1.nocell] at h
   cases h
theorem sees_turnV {p b : Nat} {w w' : World} {v : Value} {xs : List Value} {ds : List DN} {nx : Int} (h : Sees w v xs) (hx : ∀ x, xs[0]? = some x → x ≠ .map (some b) ∧ x ≠ .int .i64 nx) (hd : DAt w p b ds nx) (ht : Turn p b w w') : Sees w' v xs := by
 obtain ⟨ao, cap, h1, h2, h3, h4, h5⟩ := h
 refine ⟨ao, cap, h1, h2, h3, h4, fun h0 => ?_⟩
 obtain ⟨g, off, e, hl, hh⟩ := h5 h0
 have h00 := hh 0 xs[0] (List.getElem?_eq_getElem h0)
 obtain ⟨q1, q2⟩ := hx xs[0] (List.getElem?_eq_getElem h0)
 obtain ⟨hp, hb⟩ := dat_other hd h00 q1 q2
 refine ⟨g, off, e, Nat.lt_of_lt_of_le hl ht.size, fun i x hx => ?_⟩
 rw [← hh i x hx]
 simp only [World.cell?, ht.block g hl hp hb]
theorem FN.is.turn {p b : Nat} {w w' : World} {f : FN} {ds : List DN} {nx : Int} (h : f.is w) (hi : ∀ i ∈ f.n.inos, i ≠ nx) (hd : DAt w p b ds nx) (ht : Turn p b w w') : f.is w' := by
 refine ⟨sees_turn h.1 hd ht, sees_turnV h.2.1 (fun x hx => ?_) hd ht, sees_turnV h.2.2 (fun x hx => ?_) hd ht⟩
 · have hm := List.mem_of_getElem? hx
   obtain ⟨s, _, rfl⟩ := List.mem_map.1 hm
   exact ⟨by simp, by simp⟩
 · have hm := List.mem_of_getElem? hx
   obtain ⟨i, hm2, rfl⟩ := List.mem_map.1 hm
   refine ⟨by simp, fun e => ?_⟩
   injection e with e1 e2
   exact hi i hm2 e2
theorem SeesN.turn {p b : Nat} {w w' : World} {v : Value} {fs : List FN} {ds : List DN} {nx : Int} (h : SeesN w v fs) (hd : DAt w p b ds nx) (ht : Turn p b w w') : SeesN w' v fs := by
 obtain ⟨ao, cap, h1, h2, h3, h4, h5⟩ := h
 refine ⟨ao, cap, h1, h2, h3, h4, fun h0 => ?_⟩
 obtain ⟨g, off, e, hl, hh⟩ := h5 h0
 have a5 := at5_of hh h0
 have hp : g ≠ p := fun e2 => by
  have a0 := a5.1
  have a1 := a5.2.1
  subst e2
  simp only [World.cell?, hd.1, Nat.zero_mul, Nat.add_zero] at a0 a1
  match off with
  | 0 => simp at a0
  | 1 => simp at a1
  | o + 2 => simp at a0
 have hb : g ≠ b := fun e2 => by
  have a0 := a5.1
  subst e2
  rw [hd.2.1.nocell] at a0
  cases a0
 refine ⟨g, off, e, Nat.lt_of_lt_of_le hl ht.size, fun i x hx => ?_⟩
 rw [← hh i x hx]
 simp only [World.cell?, ht.block g hl hp hb]
theorem TreeAt.turn {p b : Nat} {w w' : World} {v : Value} {t : TreeB} (h : TreeAt w v t) (hd : DTree w p b t) (hg : Good t) (ht : Turn p b w w') : TreeAt w' v t := by
 obtain ⟨sv, fs, h1, h2, h3, h4⟩ := h
 obtain ⟨ds, hd, _⟩ := hd
 refine ⟨sv, fs, h1, h2.turn hd ht, h3, fun f hf => (h4 f hf).turn (fun i hi => ?_) hd ht⟩
 have hn : f.n ∈ t.nodes := by rw [← h3]; exact List.mem_map.2 ⟨f, hf, rfl⟩
 obtain ⟨_, m, hm, e⟩ := hg.1.leads f.n hn i hi
 have := hg.1.below m hm
 omega
end Go.Proofs.YtbebgobboccjcaaGreatDoor
