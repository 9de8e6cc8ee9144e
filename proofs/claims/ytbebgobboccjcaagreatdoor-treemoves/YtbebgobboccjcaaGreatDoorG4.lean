/- Several texts in one: DLink DMath2 DRen DRen2 DRen3 DRen4 DReply DLooks DOnFileA DRemove DRen5 LErr Door5 MRen5. -/
import Derived.Test.YtbebgobboccjcaaGreatDoorMDName
import Derived.Test.YtbebgobboccjcaaGreatDoorMDUnname
import Derived.Test.YtbebgobboccjcaaGreatDoorG3
import Derived.Test.YtbebgobboccjcaaGreatDoorG1
import Derived.Deep.RegionWith
import Derived.Test.YtbebgobboccjcaaGreatDoorMAz0
import Derived.Test.YtbebgobboccjcaaGreatDoorG2
import Derived.Test.YtbebgobboccjcaaGreatDoorMRCode
import Derived.Test.YtbebgobboccjcaaGreatDoorRows
import Derived.ProofKit
import Derived.LaidMore
import Derived.LaidHandle
import Derived.LaidSub
import Derived.OpenShut
import Derived.Stop.Joined
import Derived.Lay
import Derived.LaidOnce
/- link. -/
namespace Go.Proofs.YtbebgobboccjcaaGreatDoor
open Go.RowKit Kit
set_option linter.unusedVariables false

theorem links_eq {t : TreeB} (h : Good t) {k : Nat} (hk : k < t.nodes.length) : linksD t (nodeAt t k).ino = linksB t (nodeAt t k).ino := by
  unfold linksD
  by_cases e : (nodeAt t k).ino = 1
  · rw [if_pos e, e, links_root h.e]
  · rw [if_neg e, links_kids h.e (nodeAt_mem hk) e]
set_option maxRecDepth 4000 in
set_option maxHeartbeats 8000000 in
theorem dlink_any (o : OpB) (w : World) (p b : Nat) (t : TreeB) (hT : DTree w p b t) (hG : Good t) (hs1 : o.path.size ≤ maxLen) (hs2 : o.to.size ≤ maxLen) :
    Calls Tryz.prog 64 #[.pointer (some ⟨p, 0, none⟩), .string o.path, .string o.to] w fun e w' => e = .returned (errV (linkB t o).2.2) ∧ DTree w' p b (linkB t o).1 ∧ Turn p b w w' := by
  have ht := hG.e.fair
  have HX : Hid (Calls Tryz.prog 96 _ _ _) := nparent_any o.to w hs2
  have HFi : Hid (∀ W, Below w.heap.size w W → _) := fun W hW => dfile_any o.path W p b t (hT.below hW) ht hs1
  have HFr : Hid (∀ W, Below w.heap.size w W → _) := fun W hW => dfree_any o.to W p b t (hT.below hW) ht hs2
  have HT : Hid (DTree w p b t ∧ Good t) := ⟨hT, hG⟩
  have HL : Hid (linkB t o = if (parentB o.to).2.2 ≠ 0 then (t, noReply, (parentB o.to).2.2) else match findB t o.path with
    | .error e => (t, noReply, e)
    | .ok k => if (nodeAt t k).kind = 2 then (t, noReply, 7) else match homeB t o.to with
      | .error e => (t, noReply, e)
      | .ok (d, s) => if nameB (nodeAt t d) s ≠ 0 then (t, noReply, 6) else if 20 ≤ linksB t (nodeAt t k).ino then (t, noReply, 16)
        else (setB t d (withB (nodeAt t d) s (nodeAt t k).ino), noReply, 0)) := rfl
  obtain ⟨⟨d0, q0, e0⟩, he⟩ : ∃ x, parentB o.to = x := ⟨_, rfl⟩
  rw [he] at HX HL
  simp only at HX HL
  obtain ⟨f, hf⟩ : ∃ f, findB t o.path = f := ⟨_, rfl⟩
  have HF0 : Hid (findB t o.path = f) := hf
  rw [hf] at HFi HL
  obtain ⟨h, hh⟩ : ∃ h, homeB t o.to = h := ⟨_, rfl⟩
  have HH0 : Hid (homeB t o.to = h) := hh
  rw [hh] at HFr HL
  obtain ⟨r, hr⟩ : ∃ r, linkB t o = r := ⟨_, rfl⟩
  rw [hr] at HL ⊢
  clear hs1 hs2 he hf hh hr hT hG ht
  by_cases hp0 : e0 = 0
  case neg =>
    have HR : Hid (r = (t, noReply, e0)) := by show _ = _; rw [HL.out, if_pos hp0]
    have HE : Hid (errV e0 = .iface 80 (.int .i64 e0)) := errV_ne hp0
    rw [errV_ne hp0] at HX
    clear HL hp0
    go_enter Tryz.func64, Tryz.ntmps64
    go_wp2_with fail
    go_at_call 96
    refine HX.out.mono ?_
    rintro e w1 ⟨rfl, hb1⟩
    have H1 : Hid (Below w.heap.size w w1) := hb1
    clear hb1 HX
    go_wp2
    go_ret
    rw [HR.out]
    exact ⟨by rw [HE.out]; rfl, HT.out.1.below H1.out, turn_below H1.out⟩
  subst hp0
  have e00 : errV 0 = .nilIface := rfl
  rw [e00] at HX
  have HL1 : Hid (r = match (generalizing := false) f with
    | .error e => (t, noReply, e)
    | .ok k => if (nodeAt t k).kind = 2 then (t, noReply, 7) else match (generalizing := false) h with
      | .error e => (t, noReply, e)
      | .ok (d, s) => if nameB (nodeAt t d) s ≠ 0 then (t, noReply, 6) else if 20 ≤ linksB t (nodeAt t k).ino then (t, noReply, 16)
        else (setB t d (withB (nodeAt t d) s (nodeAt t k).ino), noReply, 0)) := by show _ = _; rw [HL.out, if_neg (by simp)]
  clear HL
  -- what the file's finding says
  obtain ⟨q, hq⟩ : ∃ q, outFile t f = q := ⟨_, rfl⟩
  rw [hq] at HFi
  cases q with
  | error x =>
    have hx : x ≠ 0 := by
      cases f with
      | error y => simp only [outFile] at hq; injection hq with hq; rw [← hq]; exact find_code' HF0.out
      | ok k =>
        simp only [outFile] at hq
        split at hq
        · injection hq with hq; omega
        · cases hq
    have HR : Hid (r = (t, noReply, x)) := by
      show _ = _
      rw [HL1.out]
      cases f with
      | error y => simp only [outFile] at hq; injection hq with hq; rw [hq]
      | ok k =>
        simp only [outFile] at hq
        split at hq
        · rename_i h2; injection hq with hq; simp only; rw [if_pos h2, hq]
        · cases hq
    have HE : Hid (errV x = .iface 80 (.int .i64 x)) := errV_ne hx
    simp only [outW2] at HFi
    rw [errV_ne hx] at HFi
    clear HL1 hx hq e00
    go_enter Tryz.func64, Tryz.ntmps64
    go_wp2_with fail
    go_at_call 96
    refine HX.out.mono ?_
    rintro e w1 ⟨rfl, hb1⟩
    have H1 : Hid (Below w.heap.size w w1) := hb1
    clear hb1 HX
    go_wp2_with fail
    go_at_call 102
    refine (HFi.out w1 H1.out).mono ?_
    rintro e w2 ⟨rfl, hb2⟩
    have H2 : Hid (Below w.heap.size w w2) := bel2v H1.out hb2
    clear hb2 HFi H1
    go_wp2
    go_ret
    rw [HR.out]
    exact ⟨by rw [HE.out]; rfl, HT.out.1.below H2.out, turn_below H2.out⟩
  | ok k =>
    obtain ⟨hfk, hkk⟩ : f = .ok k ∧ (nodeAt t k).kind ≠ 2 := by
      cases f with
      | error y => simp only [outFile] at hq; cases hq
      | ok k' =>
        simp only [outFile] at hq
        split at hq
        · cases hq
        · rename_i h2; injection hq with hq; subst hq; exact ⟨rfl, h2⟩
    subst hfk
    have hk := find_lt HT.out.2.e.fair HF0.out
    have HL2 : Hid (r = match (generalizing := false) h with
      | .error e => (t, noReply, e)
      | .ok (d, s) => if nameB (nodeAt t d) s ≠ 0 then (t, noReply, 6) else if 20 ≤ linksB t (nodeAt t k).ino then (t, noReply, 16)
        else (setB t d (withB (nodeAt t d) s (nodeAt t k).ino), noReply, 0)) := by show _ = _; rw [HL1.out]; simp only; rw [if_neg hkk]
    clear HL1
    simp only [outW2] at HFi
    rw [e00] at HFi
    have hlk := links_eq HT.out.2 hk
    have HLN : Hid (∀ W, Below w.heap.size w W → _) := fun W hW => dlinks_any (nodeAt t k).ino W p b t (HT.out.1.below hW) HT.out.2.e.fair
    have HSM : Hid (linksD t (nodeAt t k).ino ≤ 610000) := by
      have := HT.out.2.e.fair.kids_small (nodeAt t k).ino
      show linksD _ _ ≤ _
      unfold linksD
      split <;> omega
    obtain ⟨L, hL⟩ : ∃ L, linksD t (nodeAt t k).ino = L := ⟨_, rfl⟩
    rw [hL] at HLN HSM
    rw [← hlk, hL] at HL2
    obtain ⟨q2, hq2⟩ : ∃ q, outF t h = q := ⟨_, rfl⟩
    rw [hq2] at HFr
    have Hino : Hid (∃ ii, (nodeAt t k).ino = ii) := ⟨_, rfl⟩
    cases q2 with
    | error x =>
      have hx : x ≠ 0 := by
        cases h with
        | error y => simp only [outF] at hq2; injection hq2 with hq2; rw [← hq2]; exact home_code' HH0.out
        | ok ds =>
          obtain ⟨d, s⟩ := ds
          simp only [outF] at hq2
          split at hq2
          · injection hq2 with hq2; omega
          · cases hq2
      have HR : Hid (r = (t, noReply, x)) := by
        show _ = _
        rw [HL2.out]
        cases h with
        | error y => simp only [outF] at hq2; injection hq2 with hq2; rw [hq2]
        | ok ds =>
          obtain ⟨d, s⟩ := ds
          simp only [outF] at hq2
          split at hq2
          · rename_i h2; injection hq2 with hq2; simp only; rw [if_pos h2, hq2]
          · cases hq2
      have HE : Hid (errV x = .iface 80 (.int .i64 x)) := errV_ne hx
      simp only [outP] at HFr
      rw [errV_ne hx] at HFr
      obtain ⟨ii, hii⟩ := Hino.out
      rw [hii] at HFi
      clear HL2 hx hq e00 hq2 hkk hlk hL HLN hii Hino
      go_enter Tryz.func64, Tryz.ntmps64
      go_wp2_with fail
      go_at_call 96
      refine HX.out.mono ?_
      rintro e w1 ⟨rfl, hb1⟩
      have H1 : Hid (Below w.heap.size w w1) := hb1
      clear hb1 HX
      go_wp2_with fail
      go_at_call 102
      refine (HFi.out w1 H1.out).mono ?_
      rintro e w2 ⟨rfl, hb2⟩
      have H2 : Hid (Below w.heap.size w w2) := bel2v H1.out hb2
      clear hb2 HFi H1
      go_wp2_with fail
      go_at_call 94
      refine (HFr.out w2 H2.out).mono ?_
      rintro e w3 ⟨rfl, hb3⟩
      have H3 : Hid (Below w.heap.size w w3) := bel2v H2.out hb3
      clear hb3 HFr H2
      go_wp2
      go_ret
      rw [HR.out]
      exact ⟨by rw [HE.out]; rfl, HT.out.1.below H3.out, turn_below H3.out⟩
    | ok ds =>
      obtain ⟨d, s⟩ := ds
      obtain ⟨hfk, hn0⟩ : h = .ok (d, s) ∧ nameB (nodeAt t d) s = 0 := by
        cases h with
        | error y => simp only [outF] at hq2; cases hq2
        | ok ds' =>
          obtain ⟨d', s'⟩ := ds'
          simp only [outF] at hq2
          split at hq2
          · cases hq2
          · rename_i h2
            injection hq2 with hq2
            injection hq2 with e1 e2
            subst e1 e2
            exact ⟨rfl, Decidable.byContradiction h2⟩
      subst hfk
      obtain ⟨hd, hdk, o1, o2, _⟩ := home_ok HT.out.2.e HH0.out
      have hfr := name_free HT.out.2.e hd hdk hn0
      have HL3 : Hid (r = if 20 ≤ L then (t, noReply, 16) else (setB t d (withB (nodeAt t d) s (nodeAt t k).ino), noReply, 0)) := by show _ = _; rw [HL2.out]; simp only; rw [if_neg (by simp [hn0])]
      clear HL2
      have HN : Hid (∀ W, Below w.heap.size w W → _) := fun W hW => dname_any s (nodeAt t k).ino W p b t d (HT.out.1.below hW) HT.out.2.e.fair hd hdk hfr o2
      simp only [outP] at HFr
      rw [e00] at HFr
      obtain ⟨ii, hii⟩ := Hino.out
      obtain ⟨jj, hjj⟩ : ∃ jj, (nodeAt t d).ino = jj := ⟨_, rfl⟩
      rw [hii] at HFi HLN HN HL3
      rw [hjj] at HFr HN
      clear hq e00 hq2 hkk hlk hL hii Hino hn0 hd hdk o1 o2 hfr hjj
      go_enter Tryz.func64, Tryz.ntmps64
      go_wp2_with fail
      go_at_call 96
      refine HX.out.mono ?_
      rintro e w1 ⟨rfl, hb1⟩
      have H1 : Hid (Below w.heap.size w w1) := hb1
      clear hb1 HX
      go_wp2_with fail
      go_at_call 102
      refine (HFi.out w1 H1.out).mono ?_
      rintro e w2 ⟨rfl, hb2⟩
      have H2 : Hid (Below w.heap.size w w2) := bel2v H1.out hb2
      clear hb2 HFi H1
      go_wp2_with fail
      go_at_call 94
      refine (HFr.out w2 H2.out).mono ?_
      rintro e w3 ⟨rfl, hb3⟩
      have H3 : Hid (Below w.heap.size w w3) := bel2v H2.out hb3
      clear hb3 HFr H2
      go_wp2_with fail
      go_at_call 29
      refine (HLN.out w3 H3.out).mono ?_
      rintro e w4 ⟨rfl, hb4⟩
      have H4 : Hid (Below w.heap.size w w4) := bel2v H3.out hb4
      clear hb4 HLN H3
      by_cases h20 : 20 ≤ L
      · have HR : Hid (r = (t, noReply, 16)) := by show _ = _; rw [HL3.out, if_pos h20]
        have h20i : (L : Int) ≥ 20 := by omega
        clear HL3 h20 HN
        go_wp2
        go_ret
        rw [HR.out]
        exact ⟨rfl, HT.out.1.below H4.out, turn_below H4.out⟩
      · have HR : Hid (r = (setB t d (withB (nodeAt t d) s ii), noReply, 0)) := by show _ = _; rw [HL3.out, if_neg h20]
        have h20i : ¬ (L : Int) ≥ 20 := by omega
        clear HL3 h20
        go_wp2_with fail
        go_at_call 95
        refine (HN.out w4 H4.out).mono ?_
        rintro e w5 ⟨rfl, hd5, ht5⟩
        have H5 : Hid (DTree w5 p b (setB t d (withB (nodeAt t d) s ii)) ∧ Turn p b w w5) := ⟨hd5, (turn_below H4.out).trans ht5⟩
        clear hd5 ht5 HN H4
        go_wp2
        go_ret
        rw [HR.out]
        exact ⟨rfl, H5.out⟩
end Go.Proofs.YtbebgobboccjcaaGreatDoor
/- The program's ways of turning a tree are the document's. (No walk in it.) -/
namespace Go.Proofs.YtbebgobboccjcaaGreatDoor
open Go.RowKit Kit
set_option linter.unusedVariables false

theorem Fair.links {x : TreeB} (h : Fair x) {n : NodeB} (hn : n ∈ x.nodes) : linksB x n.ino = linksD x n.ino := by
  unfold linksB linksD
  obtain ⟨k, hk⟩ := placeO_of hn
  rw [hk, if_neg (by simp)]
  by_cases e : n.ino = 1
  · rw [if_pos e, if_pos e]
  · rw [if_neg e, if_neg e]
    unfold kidsB
    congr 1
    apply List.map_congr_left
    intro m hm
    exact countB_eq (h.each m hm) _
/-- Which index a name has. -/
theorem name_index {n : NodeB} (ok : NodeOK n) {s : ByteArray} (h : nameB n s ≠ 0) : ∃ j, ∃ hj : j < n.names.length, n.names[j] = s ∧ n.inos[j]'(by rw [← ok.len]; exact hj) = nameB n s := by
  obtain ⟨_, i, hi, e1, e2⟩ := nameB_some ok.len h
  exact ⟨i, hi, e1, e2⟩
theorem kids_unname {t : TreeB} (h : Fair t) {d : Nat} (hd : d < t.nodes.length) {s : ByteArray} (hn : nameB (nodeAt t d) s ≠ 0) (i : Int) : kidsB (setB t d (withoutB (nodeAt t d) s)) i + (if nameB (nodeAt t d) s = i then 1 else 0) = kidsB t i := by
  have ok := h.each _ (nodeAt_mem hd)
  obtain ⟨j, hj, e1, e2⟩ := name_index ok hn
  have := kids_without hd ok hj i
  rw [e1, e2] at this
  exact this
/-- Taking a name away is taking it away and sweeping. -/
theorem unname_swept {t : TreeB} (h : Good t) {d : Nat} (hd : d < t.nodes.length) (hk : (nodeAt t d).kind = 2) {s : ByteArray} (hn : nameB (nodeAt t d) s ≠ 0) : unnameB t d s = sweptB (setB t d (withoutB (nodeAt t d) s)) := by
  have hf := h.e.fair
  have hx := fair_without hf hd hk s
  obtain ⟨k', p1, p2, p3, p4⟩ := hf.step hd hn
  have hkid := kids_unname hf hd hn
  unfold unnameB
  obtain ⟨c, hc⟩ : ∃ c, nameB (nodeAt t d) s = c := ⟨_, rfl⟩
  rw [hc] at hkid p4 ⊢
  obtain ⟨x, hxe⟩ : ∃ x, setB t d (withoutB (nodeAt t d) s) = x := ⟨_, rfl⟩
  have hnx : x.next = t.next := by rw [← hxe]; rfl
  have hin : ∀ n ∈ x.nodes, ∃ m ∈ t.nodes, m.ino = n.ino := fun n hn2 => by
    have : (∃ m ∈ x.nodes, m.ino = n.ino) := ⟨n, hn2, rfl⟩
    rw [← hxe] at this
    exact (set_has (n := withoutB (nodeAt t d) s) hd rfl n.ino).1 this
  rw [hxe] at hkid hx ⊢
  have hother : ∀ n ∈ x.nodes, n.ino ≠ c → 0 < linksB x n.ino := fun n hn2 hne => by
    rw [hx.links hn2]
    unfold linksD
    split
    · omega
    · rename_i h1
      obtain ⟨m, hm, e⟩ := hin n hn2
      have h2 := h.2 m hm (by rw [e]; exact h1)
      have h3 := hkid n.ino
      rw [if_neg (fun e => hne e.symm)] at h3
      rw [e] at h2
      omega
  have hcl : ∀ n ∈ x.nodes, n.ino = c → linksB x n.ino = linksD x c := fun n hn2 e => by rw [hx.links hn2, e]
  unfold sweptB
  by_cases h0 : linksD x c = 0
  · rw [if_pos h0]
    congr 1
    · apply List.filter_congr
      intro n hn2
      by_cases e : n.ino = c
      · rw [hcl n hn2 e, h0, e]; simp
      · have h1 := hother n hn2 e
        have h2 : (n.ino == c) = false := beq_eq_false_iff_ne.2 e
        rw [h2, decide_eq_true h1]; rfl
    · exact hnx.symm
  · rw [if_neg h0]
    have : x.nodes.filter (fun n => decide (0 < linksB x n.ino)) = x.nodes := by
      rw [List.filter_eq_self]
      intro n hn2
      apply decide_eq_true
      by_cases e : n.ino = c
      · rw [hcl n hn2 e]; omega
      · exact hother n hn2 e
    rw [this]
end Go.Proofs.YtbebgobboccjcaaGreatDoor
/- rename: the program's way is the document's. (No walk in it.) -/
namespace Go.Proofs.YtbebgobboccjcaaGreatDoor
open Go.RowKit Kit
set_option linter.unusedVariables false

/-- A node by its number. -/
def Has (t : TreeB) (n : NodeB) : Prop := n ∈ t.nodes
theorem with_name_ne {n : NodeB} (ok : NodeOK n) (hk : n.kind = 2) {s q : ByteArray} (hs : s ∉ n.names) (ho : okB s = true ∧ s.size ≤ 12) (hq : q ≠ s) (a : Int) (hn : nameB n q ≠ 0) : nameB (withB n s a) q = nameB n q := by
  have okw := with_ok ok hk hs ho a
  obtain ⟨j, hj, e1, e2⟩ := name_index ok hn
  have hmem : (q, nameB n q) ∈ pairsB n := by
    have hj2 : j < n.inos.length := by rw [← ok.len]; exact hj
    have hj3 : j < (pairsB n).length := by unfold pairsB; rw [List.length_zip]; omega
    have : (pairsB n)[j] = (q, nameB n q) := by simp [pairsB, e1, e2]
    rw [← this]; exact List.getElem_mem hj3
  have hmem2 : (q, nameB n q) ∈ pairsB (withB n s a) := by
    rw [pairs_with ok hs]
    rw [← List.take_append_drop (lowB n.names s) (pairsB n)] at hmem
    rcases List.mem_append.1 hmem with h | h
    · exact List.mem_append.2 (.inl h)
    · exact List.mem_append.2 (.inr (List.mem_cons_of_mem _ h))
  obtain ⟨i, hi, e⟩ := List.mem_iff_getElem.1 hmem2
  have hl := okw.len
  have hi2 : i < (withB n s a).names.length := by unfold pairsB at hi; rw [List.length_zip] at hi; omega
  have := nameB_at (n := withB n s a) hk hl okw.1 hi2
  have e3 : (withB n s a).names[i] = q ∧ (withB n s a).inos[i]'(by omega) = nameB n q := by
    have : (pairsB (withB n s a))[i] = ((withB n s a).names[i], (withB n s a).inos[i]'(by omega)) := by simp [pairsB]
    rw [this] at e
    injection e with h1 h2
    exact ⟨h1, h2⟩
  rw [e3.1, e3.2] at this
  exact this
theorem with_name_self {n : NodeB} (ok : NodeOK n) (hk : n.kind = 2) {s : ByteArray} (hs : s ∉ n.names) (ho : okB s = true ∧ s.size ≤ 12) (a : Int) : nameB (withB n s a) s = a := by
  have okw := with_ok ok hk hs ho a
  have hmem2 : (s, a) ∈ pairsB (withB n s a) := by rw [pairs_with ok hs]; simp
  obtain ⟨i, hi, e⟩ := List.mem_iff_getElem.1 hmem2
  have hl := okw.len
  have hi2 : i < (withB n s a).names.length := by unfold pairsB at hi; rw [List.length_zip] at hi; omega
  have := nameB_at (n := withB n s a) hk hl okw.1 hi2
  have e3 : (withB n s a).names[i] = s ∧ (withB n s a).inos[i]'(by omega) = a := by
    have : (pairsB (withB n s a))[i] = ((withB n s a).names[i], (withB n s a).inos[i]'(by omega)) := by simp [pairsB]
    rw [this] at e
    injection e with h1 h2
    exact ⟨h1, h2⟩
  rw [e3.1, e3.2] at this
  exact this
/-- A walk goes the same way in another tree, if all that it goes through is alike. -/
theorem walk_alike {t x : TreeB} (ht : Fair t) (hx : Fair x) (bad : Int)
    (h : ∀ k, k < t.nodes.length → (nodeAt t k).ino ≠ bad → ∃ k2, k2 < x.nodes.length ∧ (nodeAt x k2).ino = (nodeAt t k).ino ∧ (nodeAt x k2).kind = (nodeAt t k).kind ∧ ∀ q, nameB (nodeAt t k) q ≠ 0 → nameB (nodeAt t k) q ≠ bad → nameB (nodeAt x k2) q = nameB (nodeAt t k) q)
    (hbad : ∀ k, k < t.nodes.length → (nodeAt t k).ino = bad → ∀ q, nameB (nodeAt t k) q = 0) :
    ∀ (l : List ByteArray) (k k2 p : Nat), k < t.nodes.length → k2 < x.nodes.length → (nodeAt x k2).ino = (nodeAt t k).ino → (nodeAt t k).ino ≠ bad → walkB t k l = .ok p → (nodeAt t p).ino ≠ bad → ∃ p2, walkB x k2 l = .ok p2 ∧ p2 < x.nodes.length ∧ (nodeAt x p2).ino = (nodeAt t p).ino
  | [], k, k2, p, hk, hk2, e, hb, hw, hp => by
    rw [walkB] at hw
    injection hw with hw
    subst hw
    exact ⟨k2, rfl, hk2, e⟩
  | s :: r, k, k2, p, hk, hk2, e, hb, hw, hp => by
    rw [walkB] at hw
    split at hw
    · cases hw
    · rename_i hkd
      split at hw
      · cases hw
      · rename_i hn
        obtain ⟨k', p1, p2, p3, p4⟩ := ht.step hk hn
        rw [p1] at hw
        simp only [Option.getD_some] at hw
        have hnb : nameB (nodeAt t k) s ≠ bad := fun e2 => by
          rw [← p3] at e2
          -- the walk goes on from a node without names, or ends there
          cases r with
          | nil =>
            rw [walkB] at hw
            injection hw with hw
            subst hw
            exact hp e2
          | cons s2 r2 =>
            rw [walkB] at hw
            split at hw
            · cases hw
            · rw [if_pos (hbad k' p2 e2 s2)] at hw
              cases hw
        obtain ⟨m2, q1, q2, q3, q4⟩ := h k hk hb
        have em : m2 = k2 := rises_inj hx.rise q1 hk2 (q2.trans e.symm)
        subst em
        have q5 := q4 s hn hnb
        obtain ⟨x', r1, r2', r3, _⟩ := hx.step hk2 (s := s) (by rw [q5]; exact hn)
        have hb2 : (nodeAt t k').ino ≠ bad := by rw [p3]; exact hnb
        obtain ⟨pp, t1, t2, t3⟩ := walk_alike ht hx bad h hbad r k' x' p p2 r2' (by rw [r3, p3, q5]) hb2 hw hp
        refine ⟨pp, ?_, t2, t3⟩
        rw [walkB, if_neg (by rw [q3]; exact hkd), if_neg (by rw [q5]; exact hn), r1]
        exact t1
end Go.Proofs.YtbebgobboccjcaaGreatDoor
/- rename: what the program makes of a tree is what the document does. (No walk in it.) -/
namespace Go.Proofs.YtbebgobboccjcaaGreatDoor
open Go.RowKit Kit
set_option linter.unusedVariables false

def atI (i : Int) (g : NodeB → NodeB) (n : NodeB) : NodeB := if n.ino = i then g n else n
theorem atI_ino {i : Int} {g : NodeB → NodeB} (hg : ∀ n, (g n).ino = n.ino) (n : NodeB) : (atI i g n).ino = n.ino := by
  unfold atI
  split
  · exact hg n
  · rfl
theorem set_map_list (g : NodeB → NodeB) : ∀ (l : List NodeB) (d : Nat) (hd : d < l.length), l.Pairwise (fun a b => a.ino < b.ino) → l.set d (g l[d]) = l.map (atI l[d].ino g)
  | a :: r, 0, _, h => by
    obtain ⟨h1, h2⟩ := List.pairwise_cons.1 h
    simp only [List.getElem_cons_zero, List.set_cons_zero, List.map_cons]
    have e1 : atI a.ino g a = g a := by unfold atI; rw [if_pos rfl]
    have e2 : r.map (atI a.ino g) = r := by
      rw [List.map_congr_left (g := id) (fun n hn => by
        have := h1 n hn
        unfold atI
        rw [if_neg (by omega)]; rfl), List.map_id]
    rw [e1, e2]
  | a :: r, d + 1, hd, h => by
    obtain ⟨h1, h2⟩ := List.pairwise_cons.1 h
    have hd2 : d < r.length := by simpa using hd
    have := h1 r[d] (List.getElem_mem hd2)
    simp only [List.getElem_cons_succ, List.set_cons_succ, List.map_cons]
    have e1 : atI r[d].ino g a = a := by unfold atI; rw [if_neg (by omega)]
    rw [e1, set_map_list g r d hd2 h2]
theorem set_map {t : TreeB} (h : Rises t) {d : Nat} (hd : d < t.nodes.length) (g : NodeB → NodeB) : setB t d (g (nodeAt t d)) = ⟨t.nodes.map (atI (nodeAt t d).ino g), t.next⟩ := by
  have := set_map_list g t.nodes d hd h
  rw [nodeAt_eq t d hd]
  unfold setB
  rw [this]
theorem filter_map_ino {l : List NodeB} {f : NodeB → NodeB} (hf : ∀ n, (f n).ino = n.ino) (keep : Int → Bool) : (l.map f).filter (fun n => keep n.ino) = (l.filter (fun n => keep n.ino)).map f := by
  rw [List.filter_map]
  congr 1
  apply List.filter_congr
  intro n _
  simp only [Function.comp]
  rw [hf n]
theorem with_ino (s : ByteArray) (i : Int) : ∀ n, (withB n s i).ino = n.ino := fun _ => rfl
theorem without_ino (s : ByteArray) : ∀ n, (withoutB n s).ino = n.ino := fun _ => rfl
theorem pairs_filter (n : NodeB) (s : ByteArray) : pairsB (withoutB n s) = (pairsB n).filter fun p => decide (p.1 ≠ s) := by
  have : ∀ l : List (ByteArray × Int), (l.map Prod.fst).zip (l.map Prod.snd) = l := fun l => by
    induction l with
    | nil => rfl
    | cons a r ih => simp only [List.map_cons, List.zip_cons_cons, ih]
  unfold withoutB
  rw [pairsB]
  simp only
  rw [this]
theorem pairs_rise {n : NodeB} (ok : NodeOK n) : (pairsB n).Pairwise fun a b => less a.1 b.1 := by
  have e : (pairsB n).map Prod.fst = n.names := List.map_fst_zip (by have := ok.len; omega)
  have := ok.1
  unfold Rising at this
  rw [← e, List.pairwise_map] at this
  exact this
/-- A name more and another one less, in whatever order. -/
theorem with_without {m : NodeB} (ok : NodeOK m) (hk : m.kind = 2) {s old : ByteArray} (hs : s ∉ m.names) (ho : okB s = true ∧ s.size ≤ 12) (hold : old ∈ m.names) (i : Int) : withoutB (withB m s i) old = withB (withoutB m old) s i := by
  have hne : s ≠ old := fun e => hs (e ▸ hold)
  have ok1 := with_ok ok hk hs ho i
  have ok2 := without_ok ok hk old
  have hs2 : s ∉ (withoutB m old).names := by
    rw [show (withoutB m old).names = m.names.filter (fun q => decide (q ≠ old)) from names_without_keep m.names m.inos old ok.len]
    intro h
    exact hs (List.mem_filter.1 h).1
  have okA := without_ok ok1 hk old
  have okB2 := with_ok ok2 hk hs2 ho i
  -- both hold the same names with the same numbers
  have hA : (pairsB (withoutB (withB m s i) old)).Perm (pairsB (withB (withoutB m old) s i)) := by
    have e1 : pairsB (withoutB (withB m s i) old) = (pairsB (withB m s i)).filter fun p => decide (p.1 ≠ old) := pairs_filter _ _
    have e2 : pairsB (withoutB m old) = (pairsB m).filter fun p => decide (p.1 ≠ old) := pairs_filter _ _
    rw [e1, pairs_with ok hs, pairs_with ok2 hs2, e2, List.filter_append, List.filter_cons, if_pos (decide_eq_true hne)]
    refine List.perm_middle.trans (List.Perm.trans ?_ List.perm_middle.symm)
    apply List.Perm.cons
    rw [← List.filter_append, List.take_append_drop, List.take_append_drop]
  have hp : pairsB (withoutB (withB m s i) old) = pairsB (withB (withoutB m old) s i) := by
    refine hA.eq_of_pairwise (le := fun a b => less a.1 b.1) ?_ ?_ ?_
    · intro a b _ _ h1 h2
      exact absurd (less_trans h1 h2) (less_irrefl _)
    · exact pairs_rise okA
    · exact pairs_rise okB2
  have l1 := okA.len
  have l2 := okB2.len
  have n1 : (withoutB (withB m s i) old).names = (withB (withoutB m old) s i).names := by
    rw [← List.map_fst_zip (l₁ := (withoutB (withB m s i) old).names) (l₂ := (withoutB (withB m s i) old).inos) (by omega), ← List.map_fst_zip (l₁ := (withB (withoutB m old) s i).names) (l₂ := (withB (withoutB m old) s i).inos) (by omega)]
    exact congrArg (List.map Prod.fst) hp
  have n2 : (withoutB (withB m s i) old).inos = (withB (withoutB m old) s i).inos := by
    rw [← List.map_snd_zip (l₁ := (withoutB (withB m s i) old).names) (l₂ := (withoutB (withB m s i) old).inos) (by omega), ← List.map_snd_zip (l₁ := (withB (withoutB m old) s i).names) (l₂ := (withB (withoutB m old) s i).inos) (by omega)]
    exact congrArg (List.map Prod.snd) hp
  have : ∀ a b : NodeB, a.ino = b.ino → a.kind = b.kind → a.data = b.data → a.names = b.names → a.inos = b.inos → a = b := by
    intro a b h1 h2 h3 h4 h5
    cases a; cases b
    simp only at h1 h2 h3 h4 h5
    subst h1 h2 h3 h4 h5
    rfl
  exact this _ _ rfl rfl rfl n1 n2
theorem fair_filter {x : TreeB} (h : Fair x) (keep : Int → Bool) (h1 : keep 1 = true) (h2 : ∀ n ∈ x.nodes, ∀ i ∈ n.inos, keep i = true) : Fair ⟨x.nodes.filter (fun n => keep n.ino), x.next⟩ := by
  obtain ⟨r, l, e, e1, e2⟩ := h.root
  refine ⟨⟨r, l.filter (fun n => keep n.ino), ?_, e1, e2⟩, Nat.le_trans (List.length_filter_le _ _) h.size, h.next, h.rise.filter _, fun n hn => h.below n (List.mem_filter.1 hn).1, fun n hn => h.each n (List.mem_filter.1 hn).1, fun n hn i hi => ?_, fun n hn => h.names n (List.mem_filter.1 hn).1⟩
  · simp only
    rw [e, List.filter_cons, if_pos (by rw [e1]; exact h1)]
  · have hn2 := (List.mem_filter.1 hn).1
    obtain ⟨k1, m, hm, k2⟩ := h.leads n hn2 i hi
    exact ⟨k1, m, List.mem_filter.2 ⟨hm, by rw [k2]; exact h2 n hn2 i hi⟩, k2⟩
theorem fair_with {t : TreeB} (h : Fair t) {d : Nat} (hd : d < t.nodes.length) (hk : (nodeAt t d).kind = 2) {s : ByteArray} (hs : s ∉ (nodeAt t d).names) (ho : okB s = true ∧ s.size ≤ 12) {i : Int} (hi : i ≠ 1 ∧ ∃ m ∈ t.nodes, m.ino = i) (hn : (nodeAt t d).names.length < 10000) : Fair (setB t d (withB (nodeAt t d) s i)) := by
  have ok := h.each _ (nodeAt_mem hd)
  refine fair_set h hd rfl rfl (with_ok ok hk hs ho i) (fun j hj => ?_) ?_
  · rcases with_sub hj with e | e
    · subst e; exact hi
    · exact h.leads _ (nodeAt_mem hd) j e
  · unfold withB
    simp only [List.length_append, List.length_cons, List.length_take, List.length_drop]
    omega
theorem place_of {x : TreeB} (h : Rises x) {n : NodeB} (hn : n ∈ x.nodes) : ∃ k, k < x.nodes.length ∧ nodeAt x k = n := by
  obtain ⟨k, hk, e⟩ := List.mem_iff_getElem.1 hn
  exact ⟨k, hk, by rw [nodeAt_eq x k hk]; exact e⟩
end Go.Proofs.YtbebgobboccjcaaGreatDoor
/- rename: the heart. (No walk in it.) -/
namespace Go.Proofs.YtbebgobboccjcaaGreatDoor
open Go.RowKit Kit
set_option linter.unusedVariables false

theorem kids_with {t : TreeB} {d : Nat} (hd : d < t.nodes.length) (s : ByteArray) (i j : Int) : kidsB (setB t d (withB (nodeAt t d) s i)) j = kidsB t j + if i = j then 1 else 0 := by
  have h1 := kids_set t d (withB (nodeAt t d) s i) hd j
  rw [count_with] at h1
  omega
theorem ren_core {X : TreeB} (hX : Fair X) {p0 d : Nat} (hp : p0 < X.nodes.length) (hd : d < X.nodes.length) (hpk : (nodeAt X p0).kind = 2) (hdk : (nodeAt X d).kind = 2) {s old : ByteArray} {I : Int} (hs : s ∉ (nodeAt X d).names) (ho : okB s = true ∧ s.size ≤ 12)
    (hI : nameB (nodeAt X p0) old = I) (hI0 : I ≠ 0) (hnl : (nodeAt X d).names.length < 10000) (keep : Int → Bool) (hkeep : ∀ n ∈ X.nodes, keep n.ino = decide (0 < linksD X n.ino))
    {x1 x2 : TreeB} (hx1 : x1 = ⟨X.nodes.filter (fun n => keep n.ino), X.next⟩) (hf1 : Fair x1) {d1 : Nat} (hd1 : d1 < x1.nodes.length) (hde : nodeAt x1 d1 = nodeAt X d)
    (hx2 : x2 = setB x1 d1 (withB (nodeAt x1 d1) s I)) (hf2 : Fair x2) {p2 : Nat} (hp2 : p2 < x2.nodes.length) (hpe : (nodeAt x2 p2).ino = (nodeAt X p0).ino) :
    old ∈ (nodeAt x2 p2).names ∧ unnameB x2 p2 old = sweptB (movedB X p0 old d s I) := by
  have okp := hX.each _ (nodeAt_mem hp)
  have okd := hX.each _ (nodeAt_mem hd)
  have holdm : old ∈ (nodeAt X p0).names := has_iff.1 ((has_name okp (hX.nz (nodeAt_mem hp)) old).2 (by rw [hI]; exact hI0))
  obtain ⟨kI, i1, i2, i3, i4⟩ := hX.step hp (s := old) (by rw [hI]; exact hI0)
  rw [hI] at i3 i4
  -- the maps
  obtain ⟨D, hD⟩ : ∃ D, (nodeAt X d).ino = D := ⟨_, rfl⟩
  obtain ⟨P, hP⟩ : ∃ P, (nodeAt X p0).ino = P := ⟨_, rfl⟩
  have hx2n : x2 = ⟨x1.nodes.map (atI D fun n => withB n s I), x1.next⟩ := by
    rw [hx2, set_map hf1.rise hd1 (fun n => withB n s I), hde, hD]
  have hsub : ∀ n ∈ x1.nodes, n ∈ X.nodes := fun n hn => by rw [hx1] at hn; exact (List.mem_filter.1 hn).1
  have hdm : nodeAt X d ∈ x1.nodes := by rw [← hde]; exact nodeAt_mem hd1
  -- who stands at the old place
  have hpn : nodeAt x2 p2 = atI D (fun n => withB n s I) (nodeAt X p0) := by
    have hm := nodeAt_mem hp2
    rw [hx2n] at hm
    obtain ⟨m, hm1, hm2⟩ := List.mem_map.1 hm
    rw [← hx2n] at hm2
    have hmi : m.ino = (nodeAt X p0).ino := by rw [← hpe, ← hm2, atI_ino (with_ino s I)]
    rw [← hm2, rises_eq hX.rise (hsub m hm1) (nodeAt_mem hp) hmi]
  have hpd : P = D → p0 = d := fun e => rises_inj hX.rise hp hd (by rw [hP, hD, e])
  have hne : s ≠ old ∨ P ≠ D := by
    by_cases e : P = D
    · left
      intro e2
      have := hpd e
      subst this
      exact hs (e2 ▸ holdm)
    · exact .inr e
  have hnm2 : nameB (nodeAt x2 p2) old = I := by
    rw [hpn]
    unfold atI
    split
    · rename_i e
      have e3 : P = D := by rw [← hP]; exact e
      have e2 := hpd e3
      subst e2
      rw [with_name_ne okd hdk hs ho (fun e4 => hs (e4 ▸ holdm)) I (by rw [hI]; exact hI0), hI]
    · exact hI
  have ok2 := hf2.each _ (nodeAt_mem hp2)
  refine ⟨has_iff.1 ((has_name ok2 (hf2.nz (nodeAt_mem hp2)) old).2 (by rw [hnm2]; exact hI0)), ?_⟩
  have hx3 : setB x2 p2 (withoutB (nodeAt x2 p2) old) = ⟨x2.nodes.map (atI P fun n => withoutB n old), x2.next⟩ := by
    rw [set_map hf2.rise hp2 (fun n => withoutB n old), hpe, hP]
  -- one element
  have hcomm : ∀ n ∈ x1.nodes, atI P (fun n => withoutB n old) (atI D (fun n => withB n s I) n) = atI D (fun n => withB n s I) (atI P (fun n => withoutB n old) n) := by
    intro n hn
    unfold atI
    by_cases a : n.ino = D
    · by_cases c : n.ino = P
      · have e2 : P = D := c.symm.trans a
        have e3 := hpd e2
        have e4 : n = nodeAt X d := rises_eq hX.rise (hsub n hn) (nodeAt_mem hd) (by rw [hD]; exact a)
        simp only [if_pos a, if_pos c, with_ino, without_ino]
        subst e4
        subst e3
        exact with_without okd hdk hs ho holdm I
      · simp only [if_pos a, if_neg c, with_ino]
    · by_cases c : n.ino = P
      · simp only [if_neg a, if_pos c, without_ino]
      · simp only [if_neg a, if_neg c]
  -- the number still has a name
  have hlk : linksD (setB x2 p2 (withoutB (nodeAt x2 p2) old)) I ≠ 0 := by
    unfold linksD
    rw [if_neg i4]
    have : 0 < kidsB (setB x2 p2 (withoutB (nodeAt x2 p2) old)) I := by
      rw [kids_pos, hx3, hx2n]
      simp only
      refine ⟨_, List.mem_map.2 ⟨_, List.mem_map.2 ⟨nodeAt X d, hdm, rfl⟩, rfl⟩, ?_⟩
      rw [hcomm _ hdm]
      have e5 : (atI P (fun n => withoutB n old) (nodeAt X d)).ino = D := by rw [atI_ino (without_ino old), hD]
      unfold atI at e5 ⊢
      rw [if_pos e5]
      unfold withB
      simp
    omega
  have hleft : unnameB x2 p2 old = ⟨(x1.nodes.map (atI P fun n => withoutB n old)).map (atI D fun n => withB n s I), X.next⟩ := by
    unfold unnameB
    rw [hnm2, if_neg hlk, hx3, hx2n]
    have hnx : x1.next = X.next := by rw [hx1]
    simp only
    rw [hnx, List.map_map, List.map_map]
    congr 1
    apply List.map_congr_left
    intro n hn
    exact hcomm n hn
  -- the document's tree
  have hfX1 := fair_without hX hp hpk old
  obtain ⟨X1, hX1⟩ : ∃ z, setB X p0 (withoutB (nodeAt X p0) old) = z := ⟨_, rfl⟩
  have hX1n : X1 = ⟨X.nodes.map (atI P fun n => withoutB n old), X.next⟩ := by rw [← hX1, set_map hX.rise hp (fun n => withoutB n old), hP]
  rw [hX1] at hfX1
  have hd2 : d < X1.nodes.length := by rw [hX1n]; simpa using hd
  have hXd : nodeAt X1 d = atI P (fun n => withoutB n old) (nodeAt X d) := by
    rw [nodeAt_eq X1 d hd2, nodeAt_eq X d hd]
    simp only [hX1n, List.getElem_map]
  have hXdi : (nodeAt X1 d).ino = D := by rw [hXd, atI_ino (without_ino old), hD]
  have hXdk : (nodeAt X1 d).kind = 2 := by
    rw [hXd]
    unfold atI
    split
    · exact hdk
    · exact hdk
  have hXds : s ∉ (nodeAt X1 d).names := by
    rw [hXd]
    unfold atI
    split
    · rw [show (withoutB (nodeAt X d) old).names = (nodeAt X d).names.filter (fun q => decide (q ≠ old)) from names_without_keep _ _ old okd.len]
      exact fun h => hs (List.mem_filter.1 h).1
    · exact hs
  have hXdl : (nodeAt X1 d).names.length < 10000 := by
    rw [hXd]
    unfold atI
    split
    · exact Nat.lt_of_le_of_lt (without_len old) hnl
    · exact hnl
  have hmem : ∀ i, (∃ m ∈ X.nodes, m.ino = i) → ∃ m ∈ X1.nodes, m.ino = i := fun i ⟨m, hm, e⟩ => by
    rw [hX1n]
    exact ⟨_, List.mem_map.2 ⟨m, hm, rfl⟩, by rw [atI_ino (without_ino old)]; exact e⟩
  have hIx : ∃ m ∈ X.nodes, m.ino = I := ⟨nodeAt X kI, nodeAt_mem i2, i3⟩
  have hY : movedB X p0 old d s I = setB X1 d (withB (nodeAt X1 d) s I) := by unfold movedB; rw [hX1]
  have hfY := fair_with hfX1 hd2 hXdk hXds ho ⟨i4, hmem I hIx⟩ hXdl
  have hYn : setB X1 d (withB (nodeAt X1 d) s I) = ⟨(X.nodes.map (atI P fun n => withoutB n old)).map (atI D fun n => withB n s I), X.next⟩ := by
    rw [set_map hfX1.rise hd2 (fun n => withB n s I), hXdi, hX1n]
  have hlY : ∀ i, linksD (setB X1 d (withB (nodeAt X1 d) s I)) i = linksD X i := fun i => by
    unfold linksD
    split
    · rfl
    · rw [kids_with hd2 s I i]
      have := kids_unname hX hp (s := old) (by rw [hI]; exact hI0) i
      rw [hI, hX1] at this
      exact this
  rw [hleft, hY]
  unfold sweptB
  have hflt : (setB X1 d (withB (nodeAt X1 d) s I)).nodes.filter (fun n => decide (0 < linksB (setB X1 d (withB (nodeAt X1 d) s I)) n.ino)) = (setB X1 d (withB (nodeAt X1 d) s I)).nodes.filter (fun n => keep n.ino) := by
    apply List.filter_congr
    intro n hn
    rw [hfY.links hn, hlY]
    rw [hYn] at hn
    obtain ⟨m1, hm1, e1⟩ := List.mem_map.1 hn
    obtain ⟨m2, hm2, e2⟩ := List.mem_map.1 hm1
    have : n.ino = m2.ino := by rw [← e1, atI_ino (with_ino s I), ← e2, atI_ino (without_ino old)]
    rw [this, hkeep m2 hm2]
  rw [hflt, hYn]
  simp only
  rw [filter_map_ino (atI_ino (with_ino s I)) keep, filter_map_ino (atI_ino (without_ino old)) keep]
  have : x1.nodes = X.nodes.filter (fun n => keep n.ino) := by rw [hx1]
  rw [this]
end Go.Proofs.YtbebgobboccjcaaGreatDoor
/- rename: where the program finds its ways again. (No walk in it.) -/
namespace Go.Proofs.YtbebgobboccjcaaGreatDoor
open Go.RowKit Kit
set_option linter.unusedVariables false

theorem home_walk {y : TreeB} (hy : Fair y) {path : ByteArray} {l : List ByteArray} {old : ByteArray} (hp : (parentB path).2.2 = 0) (hl : (splitB path).1 = l ++ [old]) {p2 : Nat} (hw : walkB y 0 l = .ok p2) (hk : (nodeAt y p2).kind = 2) : homeB y path = .ok (p2, old) := by
  obtain ⟨_, l', s', h1, h2, h3, _⟩ := parent_ok hp
  have e := hl.symm.trans h1
  obtain ⟨e1, e2⟩ := List.append_inj' e rfl
  injection e2 with e2 _
  subst e1 e2
  unfold homeB
  rw [if_neg (by simp [hp])]
  have hf : findB y (parentB path).1 = .ok p2 := by
    rw [h2]
    unfold findB
    simp only
    rw [h3, hy.rootP]
    simp only [ne_eq, not_true_eq_false, if_false]
    exact hw
  rw [hf]
  simp only
  rw [if_neg (by omega), h2]
/-- What the program does when it moves a name: t with the other name gone is X; swept it is x1. -/
theorem ren_any {t X : TreeB} (hG : Good t) {p0 d k : Nat} (hp : p0 < t.nodes.length) (hd : d < t.nodes.length) (hpk : (nodeAt t p0).kind = 2) (hdk : (nodeAt t d).kind = 2) {path s old : ByteArray} {l : List ByteArray}
    (hpar : (parentB path).2.2 = 0) (hl : (splitB path).1 = l ++ [old]) (hw : walkB t 0 l = .ok p0) {I T : Int} (hI : nameB (nodeAt t p0) old = I) (hI0 : I ≠ 0) (ho : okB s = true ∧ s.size ≤ 12)
    (hTs : nameB (nodeAt t d) s = T) (hIT : I ≠ T) (hT1 : T ≠ 1) (hTn : ∀ n ∈ t.nodes, n.ino = T → ∀ q, nameB n q = 0) (f : NodeB → NodeB) (hfi : ∀ n, (f n).ino = n.ino) (hfk : ∀ n, (f n).kind = n.kind)
    (hfn : ∀ q, q ≠ s → nameB (nodeAt t d) q ≠ 0 → nameB (f (nodeAt t d)) q = nameB (nodeAt t d) q) (hfs : s ∉ (f (nodeAt t d)).names) (hfl : (f (nodeAt t d)).names.length < 10000)
    (hX : X = setB t d (f (nodeAt t d))) (hfX : Fair X) (hkids : ∀ i, i ≠ T → kidsB X i = kidsB t i) :
    ∃ x1 d1 p2, sweptB X = x1 ∧ Fair x1 ∧ d1 < x1.nodes.length ∧ (nodeAt x1 d1).ino = (nodeAt t d).ino ∧ (nodeAt x1 d1).kind = 2 ∧ s ∉ (nodeAt x1 d1).names ∧ Fair (setB x1 d1 (withB (nodeAt x1 d1) s I)) ∧
      homeB (setB x1 d1 (withB (nodeAt x1 d1) s I)) path = .ok (p2, old) ∧ old ∈ (nodeAt (setB x1 d1 (withB (nodeAt x1 d1) s I)) p2).names ∧ unnameB (setB x1 d1 (withB (nodeAt x1 d1) s I)) p2 old = sweptB (movedB X p0 old d s I) := by
  have hg := hG.e
  have ht := hg.fair
  obtain ⟨D, hD⟩ : ∃ D, (nodeAt t d).ino = D := ⟨_, rfl⟩
  have hXn : X = ⟨t.nodes.map (atI D f), t.next⟩ := by rw [hX, set_map ht.rise hd f, hD]
  have hlen : X.nodes.length = t.nodes.length := by rw [hXn]; simp
  have hXat : ∀ j, j < t.nodes.length → nodeAt X j = atI D f (nodeAt t j) := fun j hj => by
    rw [nodeAt_eq X j (by omega), nodeAt_eq t j hj]
    simp only [hXn, List.getElem_map]
  have hXd : nodeAt X d = f (nodeAt t d) := by rw [hXat d hd]; unfold atI; rw [if_pos hD]
  have hPT : (nodeAt t p0).ino ≠ T := fun e => by have := hTn _ (nodeAt_mem hp) e old; rw [hI] at this; exact hI0 this
  have hosne : p0 = d → old ≠ s := fun e e2 => by subst e; subst e2; exact hIT (hI.symm.trans hTs)
  have hXp : nameB (nodeAt X p0) old = I := by
    rw [hXat p0 hp]
    unfold atI
    split
    · rename_i e
      have e2 : p0 = d := rises_inj ht.rise hp hd (by rw [e, hD])
      subst e2
      rw [hfn old (hosne rfl) (by rw [hI]; exact hI0), hI]
    · exact hI
  obtain ⟨kI, i1, i2, i3, i4⟩ := ht.step hp (s := old) (by rw [hI]; exact hI0)
  rw [hI] at i3 i4
  -- who stays
  have hkeep1 : ∀ n ∈ t.nodes, n.ino ≠ T → 0 < linksD X n.ino := fun n hn hne => by
    unfold linksD
    split
    · omega
    · rename_i h1
      rw [hkids _ hne]
      exact hG.2 n hn h1
  have hDT : D ≠ T ∨ D = 1 := by
    by_cases e : D = T
    · right
      apply Classical.byContradiction
      intro h1
      -- a directory that is T has no name s, so T is 0
      have h2 := hTn _ (nodeAt_mem hd) (by rw [hD]; exact e) s
      rw [hTs] at h2
      have h3 := ht.pos _ (nodeAt_mem hd)
      rw [hD, e, h2] at h3
      omega
    · exact .inl e
  have hDk : 0 < linksD X D := by
    rcases hDT with h | h
    · have := hkeep1 _ (nodeAt_mem hd) (by rw [hD]; exact h)
      rw [hD] at this
      exact this
    · rw [h]; unfold linksD; rw [if_pos rfl]; omega
  obtain ⟨x1, hx1⟩ : ∃ x1, sweptB X = x1 := ⟨_, rfl⟩
  have hx1n : x1 = ⟨X.nodes.filter (fun n => decide (0 < linksD X n.ino)), X.next⟩ := by
    rw [← hx1]
    unfold sweptB
    congr 1
    apply List.filter_congr
    intro n hn
    rw [hfX.links hn]
  have hf1 : Fair x1 := by
    rw [hx1n]
    refine fair_filter hfX (fun i => decide (0 < linksD X i)) (by unfold linksD; simp) (fun n hn i hi => ?_)
    apply decide_eq_true
    unfold linksD
    split
    · omega
    · exact kids_pos.2 ⟨n, hn, hi⟩
  have hdm : nodeAt X d ∈ x1.nodes := by
    rw [hx1n]
    refine List.mem_filter.2 ⟨nodeAt_mem (by omega), decide_eq_true ?_⟩
    rw [hXd, hfi, hD]; exact hDk
  obtain ⟨d1, hd1, hde⟩ := place_of hf1.rise hdm
  have hd1i : (nodeAt x1 d1).ino = D := by rw [hde, hXd, hfi, hD]
  have hd1k : (nodeAt x1 d1).kind = 2 := by rw [hde, hXd, hfk]; exact hdk
  have hd1s : s ∉ (nodeAt x1 d1).names := by rw [hde, hXd]; exact hfs
  have hd1l : (nodeAt x1 d1).names.length < 10000 := by rw [hde, hXd]; exact hfl
  have hin1 : ∀ n ∈ t.nodes, n.ino ≠ T → atI D f n ∈ x1.nodes := fun n hn hne => by
    rw [hx1n]
    refine List.mem_filter.2 ⟨by rw [hXn]; exact List.mem_map.2 ⟨n, hn, rfl⟩, decide_eq_true ?_⟩
    rw [atI_ino hfi]; exact hkeep1 n hn hne
  have hI1 : ∃ m ∈ x1.nodes, m.ino = I := ⟨_, hin1 _ (nodeAt_mem i2) (by rw [i3]; exact hIT), by rw [atI_ino hfi]; exact i3⟩
  have hf2 := fair_with hf1 hd1 hd1k hd1s ho ⟨i4, hI1⟩ hd1l
  obtain ⟨x2, hx2⟩ : ∃ x2, setB x1 d1 (withB (nodeAt x1 d1) s I) = x2 := ⟨_, rfl⟩
  rw [hx2] at hf2
  have hx2n : x2 = ⟨x1.nodes.map (atI D fun n => withB n s I), x1.next⟩ := by
    rw [← hx2, set_map hf1.rise hd1 (fun n => withB n s I), hd1i]
  -- the way to the old place is the same
  have hsame : ∀ j, j < t.nodes.length → (nodeAt t j).ino ≠ T → ∃ k2, k2 < x2.nodes.length ∧ (nodeAt x2 k2).ino = (nodeAt t j).ino ∧ (nodeAt x2 k2).kind = (nodeAt t j).kind ∧ ∀ q, nameB (nodeAt t j) q ≠ 0 → nameB (nodeAt t j) q ≠ T → nameB (nodeAt x2 k2) q = nameB (nodeAt t j) q := fun j hj hne => by
    have hm1 := hin1 _ (nodeAt_mem hj) hne
    have hm2 : atI D (fun n => withB n s I) (atI D f (nodeAt t j)) ∈ x2.nodes := by rw [hx2n]; exact List.mem_map.2 ⟨_, hm1, rfl⟩
    obtain ⟨k2, hk2, e⟩ := place_of hf2.rise hm2
    refine ⟨k2, hk2, by rw [e, atI_ino (with_ino s I), atI_ino hfi], ?_, fun q hq0 hqT => ?_⟩
    · rw [e]
      unfold atI
      by_cases a : (nodeAt t j).ino = D
      · simp only [if_pos a, hfi]
        exact hfk _
      · simp only [if_neg a]
    · rw [e]
      unfold atI
      by_cases a : (nodeAt t j).ino = D
      · have e2 : j = d := rises_inj ht.rise hj hd (by rw [a, hD])
        subst e2
        simp only [if_pos a, hfi]
        have hqs : q ≠ s := fun e3 => by subst e3; exact hqT hTs
        have h1 := hfn q hqs hq0
        have okf : NodeOK (f (nodeAt t j)) := by rw [← hXd]; exact hfX.each _ (nodeAt_mem (by omega))
        rw [with_name_ne okf (by rw [hfk]; exact hdk) hfs ho hqs I (by rw [h1]; exact hq0), h1]
      · simp only [if_neg a]
  have hr := ht.root0
  have hr2 := hf2.root0
  obtain ⟨p2, w1, w2, w3⟩ := walk_alike ht hf2 T hsame (fun j hj e q => hTn _ (nodeAt_mem hj) e q) l 0 0 p0 hr.1 hr2.1 (by rw [hr.2.1, hr2.2.1]) (by rw [hr.2.1]; exact fun e => hT1 e.symm) hw hPT
  have hXpi : (nodeAt X p0).ino = (nodeAt t p0).ino := by rw [hXat p0 hp, atI_ino hfi]
  have hXpk : (nodeAt X p0).kind = 2 := by
    rw [hXat p0 hp]
    unfold atI
    split
    · rw [hfk]; exact hpk
    · exact hpk
  have core := ren_core hfX (p0 := p0) (d := d) (by omega) (by omega) hXpk (by rw [hXd, hfk]; exact hdk) (s := s) (old := old) (I := I) (by rw [hXd]; exact hfs) ho hXp hI0 (by rw [hXd]; exact hfl) (fun i => decide (0 < linksD X i)) (fun n _ => rfl) hx1n hf1 hd1 hde hx2.symm hf2 w2 (by rw [w3, hXpi])
  have hp2k : (nodeAt x2 p2).kind = 2 := by
    obtain ⟨k2, q1, q2, q3, _⟩ := hsame p0 hp hPT
    have : k2 = p2 := rises_inj hf2.rise q1 w2 (q2.trans w3.symm)
    rw [← this, q3]; exact hpk
  refine ⟨x1, d1, p2, hx1, hf1, hd1, hd1i.trans hD.symm, hd1k, hd1s, ?_, ?_, ?_, ?_⟩
  · rw [hx2]; exact hf2
  · rw [hx2]; exact home_walk hf2 hpar hl w1 hp2k
  · rw [hx2]; exact core.1
  · rw [hx2]; exact core.2
end Go.Proofs.YtbebgobboccjcaaGreatDoor
/- The box of a reply that is handed back. -/
namespace Go.Proofs.YtbebgobboccjcaaGreatDoor
open Go.RowKit Kit
set_option linter.unusedVariables false

/-- The box of a reply, nothing in it yet. -/
def RBox (w : World) (B : Nat) : Prop := w.heap[B]? = some (.cells #[.int .i64 0, .int .i64 0, .int .i64 0, .int .i64 0, .int .i64 0, .slice none 0 0, .slice none 0 0, .slice none 0 0] 40)
theorem RBox.c {w : World} {B : Nat} (h : RBox w B) : w.cell? ⟨B, 0, none⟩ = some (.int .i64 0) ∧ w.cell? ⟨B, 1, none⟩ = some (.int .i64 0) ∧ w.cell? ⟨B, 2, none⟩ = some (.int .i64 0) ∧ w.cell? ⟨B, 3, none⟩ = some (.int .i64 0) ∧ w.cell? ⟨B, 4, none⟩ = some (.int .i64 0) ∧ w.cell? ⟨B, 5, none⟩ = some (.slice none 0 0) ∧ w.cell? ⟨B, 6, none⟩ = some (.slice none 0 0) ∧ w.cell? ⟨B, 7, none⟩ = some (.slice none 0 0) ∧ (∀ j, w.frozen? ⟨B, j, none⟩ = false) ∧ B < w.heap.size := by
  have hl := (Array.getElem?_eq_some_iff.1 h).1
  unfold RBox at h
  refine ⟨?_, ?_, ?_, ?_, ?_, ?_, ?_, ?_, ?_, hl⟩ <;> simp [World.cell?, World.frozen?, h]
theorem rbox_new (w : World) : RBox (w.alloc (.cells #[.int .i64 0, .int .i64 0, .int .i64 0, .int .i64 0, .int .i64 0, .slice none 0 0, .slice none 0 0, .slice none 0 0] 40)) w.heap.size := (MapKept.heap_alloc w _).1
theorem RBox.below {w w' : World} {B : Nat} (h : RBox w B) (hb : Below w.heap.size w w') : RBox w' B := (hb.block B h.c.2.2.2.2.2.2.2.2.2).trans h
theorem RBox.turn {w w' : World} {B p b : Nat} (h : RBox w B) (ht : Turn p b w w') (hp : B ≠ p) (hb : B ≠ b) : RBox w' B := (ht.block B h.c.2.2.2.2.2.2.2.2.2 hp hb).trans h
theorem RBox.cell {w : World} {B : Nat} (h : RBox w B) (o : Nat) (x : Value) (hx : w.cell? ⟨B, o, none⟩ = some x) : x = .int .i64 0 ∨ x = .slice none 0 0 := by
  unfold RBox at h
  simp only [World.cell?, h] at hx
  match o with
  | 0 => simp at hx; exact .inl hx.symm
  | 1 => simp at hx; exact .inl hx.symm
  | 2 => simp at hx; exact .inl hx.symm
  | 3 => simp at hx; exact .inl hx.symm
  | 4 => simp at hx; exact .inl hx.symm
  | 5 => simp at hx; exact .inr hx.symm
  | 6 => simp at hx; exact .inr hx.symm
  | 7 => simp at hx; exact .inr hx.symm
  | o + 8 => simp at hx
/-- Nothing has turned but block B. -/
structure Only (B : Nat) (w w' : World) : Prop where
  os : w'.os = w.os
  tape : w'.tape = w.tape
  output : w'.output = w.output
  size : w.heap.size ≤ w'.heap.size
  block : ∀ k, k < w.heap.size → k ≠ B → w'.heap[k]? = w.heap[k]?
theorem only_set (B : Nat) (w : World) (o : Nat) (v : Value) : Only B w (w.setCell ⟨B, o, none⟩ v) := ⟨rfl, rfl, rfl, by simp [World.setCell], fun k _ h => Below.heap_setCell _ _ _ k h⟩
theorem Only.trans {B : Nat} {w w1 w2 : World} (h : Only B w w1) (k : Only B w1 w2) : Only B w w2 :=
  ⟨k.os.trans h.os, k.tape.trans h.tape, k.output.trans h.output, Nat.le_trans h.size k.size, fun i h1 h2 => (k.block i (Nat.lt_of_lt_of_le h1 h.size) h2).trans (h.block i h1 h2)⟩
theorem sees_only {w w' : World} {B : Nat} {v : Value} {xs : List Value} (h : Sees w v xs) (ho : Only B w w') (hne : ∀ o x, w.cell? ⟨B, o, none⟩ = some x → x ∉ xs) : Sees w' v xs := by
  obtain ⟨ao, cap, h1, h2, h3, h4, h5⟩ := h
  refine ⟨ao, cap, h1, h2, h3, h4, fun h0 => ?_⟩
  obtain ⟨g, off, e, hl, hh⟩ := h5 h0
  have h00 := hh 0 _ (List.getElem?_eq_getElem h0)
  have hB : g ≠ B := fun e2 => by
    subst e2
    exact hne _ _ h00 (List.getElem_mem h0)
  refine ⟨g, off, e, Nat.lt_of_lt_of_le hl ho.size, fun i x hx => ?_⟩
  rw [← hh i x hx]
  simp only [World.cell?, ho.block g hl hB]
theorem seesS_only {w w' : World} {B : Nat} {v : Value} {ps : List (ByteArray × Int)} (h : SeesS w v ps) (ho : Only B w w') (hne : ∀ o s, w.cell? ⟨B, o, none⟩ ≠ some (.string s)) : SeesS w' v ps := by
  obtain ⟨ao, cap, h1, h2, h3, h4, h5⟩ := h
  refine ⟨ao, cap, h1, h2, h3, h4, fun h0 => ?_⟩
  obtain ⟨g, off, e, hl, hh⟩ := h5 h0
  have h00 := (at2_of hh h0).1
  have hB : g ≠ B := fun e2 => by
    subst e2
    exact hne _ _ h00
  refine ⟨g, off, e, Nat.lt_of_lt_of_le hl ho.size, fun i x hx => ?_⟩
  rw [← hh i x hx]
  simp only [World.cell?, ho.block g hl hB]
theorem DTree.only {w w' : World} {p b B : Nat} {t : TreeB} (h : DTree w p b t) (ho : Only B w w') (hB : RBox w B) (hp : B ≠ p) (hb : B ≠ b) : DTree w' p b t := by
  obtain ⟨ds, hd, hn⟩ := h
  refine ⟨ds, ⟨(ho.block p hd.lt.1 (Ne.symm hp)).trans hd.1, hd.2.1.block (ho.block b hd.lt.2 (Ne.symm hb)), fun f hf => ⟨sees_only (hd.2.2 f hf).1 ho (fun o x hx hm => ?_), seesS_only (hd.2.2 f hf).2 ho (fun o s hx => ?_)⟩⟩, hn⟩
  · unfold intsV at hm
    obtain ⟨y, _, e⟩ := List.mem_map.1 hm
    rcases hB.cell o x hx with e2 | e2
    · rw [e2] at e; cases e
    · rw [e2] at e; cases e
  · rcases hB.cell o _ hx with e2 | e2 <;> cases e2
theorem turn_only {w w1 w2 : World} {p b B : Nat} (h : Turn p b w w1) (ho : Only B w1 w2) (hB : w.heap.size ≤ B) : Turn p b w w2 :=
  ⟨ho.os.trans h.os, ho.tape.trans h.tape, ho.output.trans h.output, Nat.le_trans h.size ho.size, fun k h1 h2 h3 => (ho.block k (Nat.lt_of_lt_of_le h1 h.size) (by omega)).trans (h.block k h1 h2 h3)⟩
/-- The reply's box written. -/
def outR (W : World) (B : Nat) (r0 r1 r2 r3 r4 r5 r6 r7 : Value) : World :=
  (((((((W.setCell ⟨B, 0, none⟩ r0).setCell ⟨B, 1, none⟩ r1).setCell ⟨B, 2, none⟩ r2).setCell ⟨B, 3, none⟩ r3).setCell ⟨B, 4, none⟩ r4).setCell ⟨B, 5, none⟩ r5).setCell ⟨B, 6, none⟩ r6).setCell ⟨B, 7, none⟩ r7
theorem outR_only (W : World) (B : Nat) (r0 r1 r2 r3 r4 r5 r6 r7 : Value) : Only B W (outR W B r0 r1 r2 r3 r4 r5 r6 r7) :=
  (((((((only_set B W 0 r0).trans (only_set B _ 1 r1)).trans (only_set B _ 2 r2)).trans (only_set B _ 3 r3)).trans (only_set B _ 4 r4)).trans (only_set B _ 5 r5)).trans (only_set B _ 6 r6)).trans (only_set B _ 7 r7)
/-- What is told behind a call that hands a reply back. -/
def Told (w : World) (p b : Nat) (x : TreeB × ReplyB × Int) (e : Ending) (w' : World) : Prop := ∃ rv, e = .returned (.tuple #[rv, errV x.2.2]) ∧ ReplyAt w' rv x.2.1 ∧ DTree w' p b x.1 ∧ Turn p b w w'
theorem told_fin {w w1 W2 W' : World} {p b B : Nat} {t : TreeB} (hT1 : DTree w1 p b t) (ht : Turn p b w w1) (hB : RBox w1 B) (hBw : w.heap.size ≤ B) (hp : B ≠ p) (hb : B ≠ b) (ho : Only B w1 W2) (hbe : Below W2.heap.size W2 W') : DTree W' p b t ∧ Turn p b w W' :=
  ⟨(hT1.only ho hB hp hb).below hbe, (turn_only ht ho hBw).trans (turn_below hbe)⟩
theorem RBox.nostr {w : World} {B : Nat} (h : RBox w B) (l : List ByteArray) : ∀ o x, w.cell? ⟨B, o, none⟩ = some x → x ∉ strs l := by
  intro o x hx hm
  unfold strs at hm
  obtain ⟨y, _, e⟩ := List.mem_map.1 hm
  rcases h.cell o x hx with e2 | e2 <;> rw [e2] at e <;> cases e
theorem RBox.nobyte {w : World} {B : Nat} (h : RBox w B) (l : List Int) : ∀ o x, w.cell? ⟨B, o, none⟩ = some x → x ∉ intsV .u8 l := by
  intro o x hx hm
  unfold intsV at hm
  obtain ⟨y, _, e⟩ := List.mem_map.1 hm
  rcases h.cell o x hx with e2 | e2 <;> rw [e2] at e <;> cases e
end Go.Proofs.YtbebgobboccjcaaGreatDoor
/- A node's names; readdir, stat. -/
namespace Go.Proofs.YtbebgobboccjcaaGreatDoor
open Go.RowKit Kit
set_option linter.unusedVariables false

theorem strs_one (l : List ByteArray) : ∀ v ∈ strs l, v.oneCell' = true := by
  intro v hv
  unfold strs at hv
  obtain ⟨x, _, rfl⟩ := List.mem_map.1 hv
  rfl
theorem strs_append (a b : List ByteArray) : strs (a ++ b) = strs a ++ strs b := by unfold strs; rw [List.map_append]
set_option maxRecDepth 4000 in
set_option maxHeartbeats 8000000 in
theorem dnames_any (n : NodeB) (kd : Int) (da sa : Option Addr) (dn dc sc : Nat) (w : World) (hs : SeesS w (.slice sa n.names.length sc) (pairsB n)) (ok : NodeOK n) (hsm : n.names.length ≤ 10000) :
    Calls Tryz.prog 60 #[.agg #[.int .i64 kd, .slice da dn dc, .slice sa n.names.length sc]] w fun e w' => ∃ r, e = .returned r ∧ RowV w' w.heap.size 9 r (strs n.names) ∧ Below w.heap.size w w' := by
  obtain ⟨ao, cap, e, h1, h2, h3, h4⟩ := hs
  injection e with e1 e2 e3
  subst e1 e3
  have hpl : (pairsB n).length = n.names.length := e2.symm
  rw [hpl] at h4
  have H4 : Hid (0 < n.names.length → _) := h4
  have HAT : Hid (∀ j (hj : j < n.names.length) (h2 : j < (pairsB n).length) (h3 : j < n.inos.length), (pairsB n)[j] = (n.names[j], n.inos[j])) := fun j hj _ _ => by simp [pairsB]
  have HPL : Hid ((pairsB n).length = n.names.length ∧ n.names.length = n.inos.length) := ⟨hpl, ok.len⟩
  have nl : (n.names.length : Int) ≤ 10000 := by omega
  clear h1 h2 h3 h4 e2 hpl ok
  go_enter Tryz.func60, Tryz.ntmps60
  go_wp2
  go_loopw [3, 9] (fun s3 s9 wr => ∃ j : Nat, j ≤ n.names.length ∧ s9 = .int .i64 (j : Int) ∧ Hid (RowV wr w.heap.size 9 s3 (strs (n.names.take j)) ∧ Below w.heap.size w wr)) (fun _ s9 _ => n.names.length - (intOf s9).toNat)
  case atStart => exact ⟨0, Nat.zero_le _, rfl, ⟨rowV_nil _ _ _, (Below.refl _ _).alloc (Nat.le_refl _) _⟩⟩
  case round =>
    obtain ⟨j, hj, rfl, HI⟩ := hrel
    by_cases hlt : j < n.names.length
    · obtain ⟨g, off, hao, hb, hc⟩ := H4.out (by omega)
      subst hao
      have hj2 : j < (pairsB n).length := by rw [HPL.out.1]; exact hlt
      have hj3 : j < n.inos.length := by rw [← HPL.out.2]; exact hlt
      have cc := at2_of hc (k := j) hj2
      have c0 := (HI.out.2.cell hb).trans cc.1
      have c1 := (HI.out.2.cell hb).trans cc.2
      rw [HAT.out j hlt hj2 hj3] at c0 c1
      simp only at c0 c1
      obtain ⟨y, hy⟩ : ∃ y, n.inos[j] = y := ⟨_, rfl⟩
      obtain ⟨x, hx⟩ : ∃ x, n.names[j] = x := ⟨_, rfl⟩
      rw [hx] at c0
      rw [hy] at c1
      have HX : Hid (n.names.take (j + 1) = n.names.take j ++ [x]) := by show _ = _; rw [List.take_succ_eq_append_getElem hlt, hx]
      have jl : (j : Int) < (n.names.length : Int) := by omega
      obtain ⟨w0, hw0⟩ : ∃ z, z = (wr.alloc (.cells #[.string x, .int .i64 y] 97)) := ⟨_, rfl⟩
      have HW0 : Hid (RowV (w0.alloc (.cells #[.string x] 9)) w.heap.size 9 u3 (strs (n.names.take j)) ∧ Below w.heap.size w (w0.alloc (.cells #[.string x] 9)) ∧ Sees (w0.alloc (.cells #[.string x] 9)) (.slice (some ⟨wr.heap.size + 1, 0, none⟩) 1 1) [.string x] ∧ w.heap.size ≤ (w0.alloc (.cells #[.string x] 9)).heap.size) := by
        have b1 : Below wr.heap.size wr w0 := by rw [hw0]; exact (Below.refl _ _).alloc (Nat.le_refl _) _
        have b2 : Below w0.heap.size w0 (w0.alloc (.cells #[.string x] 9)) := (Below.refl _ _).alloc (Nat.le_refl _) _
        have hs0 : w0.heap.size = wr.heap.size + 1 := by rw [hw0]; simp
        have b3 := bel2v (bel2v HI.out.2 b1) b2
        exact ⟨(HI.out.1.below b1).below b2, b3, sees_one w0 9 (.string x) _ hs0, b3.size⟩
      rw [hw0] at HW0
      have HLE : Hid (((strs (n.names.take j)).length + ([.string x] : List Value).length) * 16 ≤ 140737488355328) := by
        show _ ≤ _
        rw [strs_len, List.length_take]
        simp
        omega
      clear cc hc hx hy hw0 hj2 hj3
      go_wp2_with (at_builtin; refine wpList_appV Tryz.underlying37 infoSt rfl (by omega) rfl _ _ rfl w.heap.size _ (strs (n.names.take j)) rfl HW0.out.1 _ [.string x] rfl HW0.out.2.2.1 (by intro u hu; simp at hu; subst hu; rfl) HLE.out HW0.out.2.2.2 ?_; intro v' w' k1 k2)
      have HK : Hid (RowV w' w.heap.size 9 v' (strs (n.names.take (j + 1))) ∧ Below w.heap.size w w') := by
        refine ⟨?_, HW0.out.2.1.trans k2⟩
        rw [HX.out, strs_append]
        exact k1
      clear k1 k2
      go_wp2
      go_roundw
      case rel => exact ⟨j + 1, by omega, by simp, HK⟩
      case measure => simp [intOf]; omega
    · have ej : j = n.names.length := by omega
      subst ej
      have HT : Hid (n.names.take n.names.length = n.names) := List.take_length
      go_wp2
      go_ret
      refine ⟨_, rfl, ?_, HI.out.2⟩
      have := HI.out.1
      rw [HT.out] at this
      exact this
def readdirF (t : TreeB) (f : Except Int Nat) : TreeB × ReplyB × Int := match f with
  | .error e => (t, noReply, e)
  | .ok k => if (nodeAt t k).kind ≠ 2 then (t, noReply, 8) else (t, { noReply with names := (nodeAt t k).names }, 0)
def statF (t : TreeB) (f : Except Int Nat) : TreeB × ReplyB × Int := match f with
  | .error e => (t, noReply, e)
  | .ok k => (t, ⟨(nodeAt t k).ino, (nodeAt t k).kind, sizeB (nodeAt t k), linksB t (nodeAt t k).ino, 0, [], [], []⟩, 0)
theorem readdir_eq (t : TreeB) (o : OpB) (ho : o.kind = 11) : looksB t o = readdirF t (findB t o.path) := by
  unfold looksB
  cases findB t o.path with
  | error e => rfl
  | ok k => simp only [readdirF]; rw [if_neg (by omega)]
theorem stat_eq (t : TreeB) (o : OpB) (ho : o.kind = 10) : looksB t o = statF t (findB t o.path) := by
  unfold looksB
  cases findB t o.path with
  | error e => rfl
  | ok k => simp only [statF]; rw [if_pos ho]; rfl
set_option maxRecDepth 4000 in
set_option maxHeartbeats 8000000 in
theorem dreaddir_any (o : OpB) (w : World) (p b : Nat) (t : TreeB) (hT : DTree w p b t) (hG : Good t) (hs1 : o.path.size ≤ maxLen) :
    Calls Tryz.prog 67 #[.pointer (some ⟨p, 0, none⟩), .string o.path] w fun e w' => Told w p b (readdirF t (findB t o.path)) e w' := by
  have ht := hG.e.fair
  have HR0 : Hid (RBox (w.alloc (.cells #[.int .i64 0, .int .i64 0, .int .i64 0, .int .i64 0, .int .i64 0, .slice none 0 0, .slice none 0 0, .slice none 0 0] 40)) w.heap.size ∧ Below w.heap.size w (w.alloc (.cells #[.int .i64 0, .int .i64 0, .int .i64 0, .int .i64 0, .int .i64 0, .slice none 0 0, .slice none 0 0, .slice none 0 0] 40))) := ⟨rbox_new w, (Below.refl _ _).alloc (Nat.le_refl _) _⟩
  have HFd : Hid (∀ W, Below w.heap.size w W → _) := fun W hW => dfind_any o.path W p b t (hT.below hW) ht hs1
  have HT : Hid (DTree w p b t ∧ Good t) := ⟨hT, hG⟩
  obtain ⟨f, hf⟩ : ∃ h, findB t o.path = h := ⟨_, rfl⟩
  have HF0 : Hid (findB t o.path = f) := hf
  rw [hf] at HFd ⊢
  have hpb := hT.cells.2.2.2
  have HNE : Hid (w.heap.size ≠ p ∧ w.heap.size ≠ b) := ⟨by omega, by omega⟩
  clear hs1 hf hT hG ht
  cases f with
  | error x =>
    have hx := find_code' HF0.out
    have HE : Hid (errV x = .iface 80 (.int .i64 x)) := errV_ne hx
    simp only [outW2] at HFd
    rw [errV_ne hx] at HFd
    clear hx
    go_enter Tryz.func67, Tryz.ntmps67
    go_wp2_with fail
    go_at_call 22
    refine (HFd.out _ HR0.out.2).mono ?_
    rintro e w1 ⟨rfl, hb1⟩
    have H1 : Hid (RBox w1 w.heap.size ∧ Below w.heap.size w w1) := ⟨HR0.out.1.below hb1, bel2v HR0.out.2 hb1⟩
    obtain ⟨b0, b1, b2, b3, b4, b5, b6, b7, bf, _⟩ := H1.out.1.c
    clear hb1 HFd HR0
    go_wp2
    refine bodyPost_ret (v := .tuple #[.agg #[.int .i64 0, .int .i64 0, .int .i64 0, .int .i64 0, .int .i64 0, .slice none 0 0, .slice none 0 0, .slice none 0 0], .iface 80 (.int .i64 x)]) (by simp [results, Tryz.results67, go_sem, *]) rfl ?_
    have ho := outR_only w1 w.heap.size (.int .i64 0) (.int .i64 0) (.int .i64 0) (.int .i64 0) (.int .i64 0) (.slice none 0 0) (.slice none 0 0) (.slice none 0 0)
    exact ⟨_, by simp only [readdirF]; rw [HE.out], replyAt_no' _ _ _ _ _ _, (HT.out.1.below H1.out.2).only ho H1.out.1 HNE.out.1 HNE.out.2, turn_only (turn_below H1.out.2) ho (Nat.le_refl _)⟩
  | ok k =>
    have hk := find_lt HT.out.2.e.fair HF0.out
    obtain ⟨da, dc, sa, sc, hlook⟩ := HT.out.1.lookAt HT.out.2.e.fair hk
    have hkk := HT.out.2.e.fair.kind (nodeAt_mem hk)
    have hnm := HT.out.2.e.fair.names _ (nodeAt_mem hk)
    have ok := HT.out.2.e.each _ (nodeAt_mem hk)
    have HLK : Hid (∀ W, Below w.heap.size w W → _) := hlook
    have HNM : Hid (∀ W, Below w.heap.size w W → Calls Tryz.prog 60 #[.agg #[.int .i64 2, .slice da (nodeAt t k).data.length dc, .slice sa (nodeAt t k).names.length sc]] W fun e w' => ∃ ao cap, e = .returned (.slice ao (nodeAt t k).names.length cap) ∧ Hid (Sees w' (.slice ao (nodeAt t k).names.length cap) (strs (nodeAt t k).names) ∧ (∀ a, ao = some a → W.heap.size ≤ a.block) ∧ Below W.heap.size W w')) := fun W hW => by
      refine (dnames_any (nodeAt t k) 2 da sa (nodeAt t k).data.length dc sc W (hlook W hW).2.2.2 ok hnm).mono ?_
      rintro e w' ⟨r, rfl, hr, hb⟩
      obtain ⟨ao, cap, e1, _⟩ := hr.sees
      rw [strs_len] at e1
      subst e1
      exact ⟨ao, cap, rfl, ⟨hr.sees, fun a ha => hr.block a.block (by rw [ha]; rfl), hb⟩⟩
    simp only [outW2] at HFd
    have e00 : errV 0 = .nilIface := rfl
    rw [e00] at HFd
    have HRE : Hid (readdirF t (.ok k) = if (nodeAt t k).kind ≠ 2 then (t, noReply, 8) else (t, { noReply with names := (nodeAt t k).names }, 0)) := rfl
    obtain ⟨ii, hii⟩ : ∃ jj, (nodeAt t k).ino = jj := ⟨_, rfl⟩
    rw [hii] at HFd HLK
    obtain ⟨kk, hkq⟩ : ∃ jj, (nodeAt t k).kind = jj := ⟨_, rfl⟩
    rw [hkq] at HLK hkk HRE
    obtain ⟨dn, hdn⟩ : ∃ jj, (nodeAt t k).data.length = jj := ⟨_, rfl⟩
    rw [hdn] at HLK HNM
    clear hlook hnm ok e00 hii hkq hdn
    rcases hkk with rfl | rfl
    · have HR : Hid (readdirF t (.ok k) = (t, noReply, 8)) := by show _ = _; rw [HRE.out, if_pos (by omega)]
      rw [HR.out]
      clear HRE HNM
      go_enter Tryz.func67, Tryz.ntmps67
      go_wp2_with fail
      go_at_call 22
      refine (HFd.out _ HR0.out.2).mono ?_
      rintro e w1 ⟨rfl, hb1⟩
      have H1 : Hid (RBox w1 w.heap.size ∧ Below w.heap.size w w1) := ⟨HR0.out.1.below hb1, bel2v HR0.out.2 hb1⟩
      obtain ⟨hl, c0, _⟩ := HLK.out w1 H1.out.2
      have H2 : Hid (RBox (w1.alloc (.cells #[.int .i64 1, .slice da dn dc, .slice sa (nodeAt t k).names.length sc] 70)) w.heap.size ∧ Below w.heap.size w (w1.alloc (.cells #[.int .i64 1, .slice da dn dc, .slice sa (nodeAt t k).names.length sc] 70))) := ⟨H1.out.1.below ((Below.refl _ _).alloc (Nat.le_refl _) _), H1.out.2.alloc H1.out.2.size _⟩
      obtain ⟨b0, b1, b2, b3, b4, b5, b6, b7, bf, bl⟩ := H1.out.1.c
      clear hb1 HFd HR0 HLK
      go_wp2
      refine bodyPost_ret (v := .tuple #[.agg #[.int .i64 0, .int .i64 0, .int .i64 0, .int .i64 0, .int .i64 0, .slice none 0 0, .slice none 0 0, .slice none 0 0], .iface 80 (.int .i64 8)]) (by simp [results, Tryz.results67, go_sem, *]) rfl ?_
      have hf := told_fin (HT.out.1.below H1.out.2) (turn_below (p := p) (b := b) H1.out.2) H1.out.1 (Nat.le_refl _) HNE.out.1 HNE.out.2 (outR_only w1 w.heap.size (.int .i64 0) (.int .i64 0) (.int .i64 0) (.int .i64 0) (.int .i64 0) (.slice none 0 0) (.slice none 0 0) (.slice none 0 0)) ((Below.refl _ _).alloc (Nat.le_refl _) (.cells #[.int .i64 1, .slice da dn dc, .slice sa (nodeAt t k).names.length sc] 70))
      exact ⟨_, rfl, replyAt_no' _ _ _ _ _ _, hf.1, hf.2⟩
    · have HR : Hid (readdirF t (.ok k) = (t, { noReply with names := (nodeAt t k).names }, 0)) := by show _ = _; rw [HRE.out, if_neg (by omega)]
      rw [HR.out]
      clear HRE
      go_enter Tryz.func67, Tryz.ntmps67
      go_wp2_with fail
      go_at_call 22
      refine (HFd.out _ HR0.out.2).mono ?_
      rintro e w1 ⟨rfl, hb1⟩
      have H1 : Hid (RBox w1 w.heap.size ∧ Below w.heap.size w w1) := ⟨HR0.out.1.below hb1, bel2v HR0.out.2 hb1⟩
      obtain ⟨hl, c0, _⟩ := HLK.out w1 H1.out.2
      have bl := H1.out.1.c.2.2.2.2.2.2.2.2.2
      clear hb1 HFd HR0 HLK
      go_wp2_with fail
      go_at_call 60
      refine (HNM.out _ (H1.out.2.alloc H1.out.2.size _)).mono ?_
      rintro e w2 ⟨ao, cap, rfl, HS⟩
      have H2 : Hid (RBox w2 w.heap.size ∧ Below w.heap.size w w2) := ⟨(H1.out.1.below ((Below.refl _ _).alloc (Nat.le_refl _) _)).below HS.out.2.2, bel2v (H1.out.2.alloc H1.out.2.size _) HS.out.2.2⟩
      obtain ⟨b0, b1, b2, b3, b4, b5, b6, b7, bf, _⟩ := H2.out.1.c
      clear HNM
      go_wp2
      refine bodyPost_ret (v := .tuple #[.agg #[.int .i64 0, .int .i64 0, .int .i64 0, .int .i64 0, .int .i64 0, .slice none 0 0, .slice ao (nodeAt t k).names.length cap, .slice none 0 0], .nilIface]) (by simp [results, Tryz.results67, go_sem, *]) rfl ?_
      have ho := outR_only w2 w.heap.size (.int .i64 0) (.int .i64 0) (.int .i64 0) (.int .i64 0) (.int .i64 0) (.slice none 0 0) (.slice ao (nodeAt t k).names.length cap) (.slice none 0 0)
      have hf := told_fin (HT.out.1.below H2.out.2) (turn_below (p := p) (b := b) H2.out.2) H2.out.1 (Nat.le_refl _) HNE.out.1 HNE.out.2 ho (Below.refl _ _)
      exact ⟨_, rfl, ⟨_, _, _, rfl, sees_nil0 _ _ rfl, sees_only HS.out.1 ho (H2.out.1.nostr _), sees_nil0 _ _ rfl⟩, hf.1, hf.2⟩
end Go.Proofs.YtbebgobboccjcaaGreatDoor
/- onFile: a file's bytes are read, written, cut. -/
namespace Go.Proofs.YtbebgobboccjcaaGreatDoor
open Go.RowKit Kit
set_option linter.unusedVariables false

/-- The box of an operation. -/
def OBox (w : World) (B : Nat) (o : OpB) (dv : Value) : Prop := w.heap[B]? = some (.cells #[.int .i64 o.kind, .string o.path, .string o.to, .int .i64 o.off, .int .i64 o.n, dv, .int .i64 o.snap] 35)
theorem OBox.c {w : World} {B : Nat} {o : OpB} {dv : Value} (h : OBox w B o dv) : w.cell? ⟨B, 0, none⟩ = some (.int .i64 o.kind) ∧ w.cell? ⟨B, 1, none⟩ = some (.string o.path) ∧ w.cell? ⟨B, 2, none⟩ = some (.string o.to) ∧ w.cell? ⟨B, 3, none⟩ = some (.int .i64 o.off) ∧ w.cell? ⟨B, 4, none⟩ = some (.int .i64 o.n) ∧ w.cell? ⟨B, 5, none⟩ = some dv ∧ w.cell? ⟨B, 6, none⟩ = some (.int .i64 o.snap) ∧ B < w.heap.size := by
  have hl := (Array.getElem?_eq_some_iff.1 h).1
  unfold OBox at h
  refine ⟨?_, ?_, ?_, ?_, ?_, ?_, ?_, hl⟩ <;> simp [World.cell?, h]
theorem OBox.below {w w' : World} {B : Nat} {o : OpB} {dv : Value} (h : OBox w B o dv) (hb : Below w.heap.size w w') : OBox w' B o dv := (hb.block B h.c.2.2.2.2.2.2.2).trans h
theorem OBox.turn {w w' : World} {B p b : Nat} {o : OpB} {dv : Value} (h : OBox w B o dv) (ht : Turn p b w w') (hp : B ≠ p) (hb : B ≠ b) : OBox w' B o dv := (ht.block B h.c.2.2.2.2.2.2.2 hp hb).trans h
/-- The two boxes of a function of an operation that hands a reply back. -/
def Two (w W : World) (o : OpB) (dv : Value) : Prop := OBox W w.heap.size o dv ∧ RBox W (w.heap.size + 1) ∧ Below w.heap.size w W
theorem two_new (w : World) (o : OpB) (dv : Value) : Two w ((w.alloc (.cells #[.int .i64 o.kind, .string o.path, .string o.to, .int .i64 o.off, .int .i64 o.n, dv, .int .i64 o.snap] 35)).alloc (.cells #[.int .i64 0, .int .i64 0, .int .i64 0, .int .i64 0, .int .i64 0, .slice none 0 0, .slice none 0 0, .slice none 0 0] 40)) o dv := by
  obtain ⟨W1, hW1⟩ : ∃ z, z = w.alloc (.cells #[.int .i64 o.kind, .string o.path, .string o.to, .int .i64 o.off, .int .i64 o.n, dv, .int .i64 o.snap] 35) := ⟨_, rfl⟩
  have h1 : OBox W1 w.heap.size o dv := by rw [hW1]; exact (MapKept.heap_alloc w _).1
  have hs : W1.heap.size = w.heap.size + 1 := by rw [hW1]; simp
  have hb : Below w.heap.size w W1 := by rw [hW1]; exact (Below.refl _ _).alloc (Nat.le_refl _) _
  rw [← hW1]
  refine ⟨h1.below ((Below.refl _ _).alloc (Nat.le_refl _) _), ?_, hb.alloc hb.size _⟩
  have := rbox_new W1
  rw [hs] at this
  exact this
theorem Two.below {w W W' : World} {o : OpB} {dv : Value} (h : Two w W o dv) (hb : Below W.heap.size W W') : Two w W' o dv := ⟨h.1.below hb, h.2.1.below hb, bel2v h.2.2 hb⟩
def fileF (t : TreeB) (o : OpB) (q : Except Int Nat) : TreeB × ReplyB × Int := match q with
  | .error e => (t, noReply, e)
  | .ok k => if o.kind = 7 then (if o.off < 0 ∨ o.n < 0 then (t, noReply, 12) else (t, { noReply with data := ((nodeAt t k).data.drop o.off.toNat).take o.n.toNat }, 0)) else
    if o.kind = 8 then (if o.off < 0 ∨ o.off > 2000 - (o.data.length : Int) then (t, noReply, 12) else
      (dataB t k (if o.data.length = 0 then (nodeAt t k).data else laidB (bytesB (nodeAt t k).data (max (nodeAt t k).data.length (o.off.toNat + o.data.length))) o.off.toNat o.data), { noReply with n := o.data.length }, 0)) else
    if o.n < 0 ∨ 2000 < o.n then (t, noReply, 12) else (dataB t k (bytesB (nodeAt t k).data o.n.toNat), noReply, 0)
theorem data_same {t : TreeB} {k : Nat} (hk : k < t.nodes.length) : dataB t k (nodeAt t k).data = t := by
  unfold dataB setB
  have : ({ nodeAt t k with data := (nodeAt t k).data } : NodeB) = t.nodes[k] := by rw [nodeAt_eq t k hk]
  rw [this, List.set_getElem_self]
theorem file_eq {t : TreeB} (hG : Good t) (o : OpB) (ho : o.kind = 7 ∨ o.kind = 8 ∨ o.kind = 9) : fileB t o = fileF t o (outFile t (findB t o.path)) := by
  unfold fileB
  cases hf : findB t o.path with
  | error e => rfl
  | ok k =>
    have hk := find_lt hG.e.fair hf
    simp only [outFile]
    by_cases h2 : (nodeAt t k).kind = 2
    · rw [if_pos h2, if_pos h2]; rfl
    · rw [if_neg h2, if_neg h2]
      simp only [fileF]
      by_cases h7 : o.kind = 7
      · rw [if_pos h7, if_pos h7]
      · rw [if_neg h7, if_neg h7]
        by_cases h8 : o.kind = 8
        · rw [if_pos h8, if_pos h8]
          by_cases hr : o.off < 0 ∨ 2000 < o.off ∨ 2000 - o.off < (o.data.length : Int)
          · have hr2 : o.off < 0 ∨ o.off > 2000 - (o.data.length : Int) := by omega
            rw [if_pos hr, if_pos hr2]
          · have hr2 : ¬ (o.off < 0 ∨ o.off > 2000 - (o.data.length : Int)) := by omega
            rw [if_neg hr, if_neg hr2]
            by_cases h0 : o.data.length = 0
            · rw [if_pos h0, if_pos h0, data_same hk, h0]; rfl
            · rw [if_neg h0, if_neg h0]
        · rw [if_neg h8, if_neg h8]
/-- A file's node with other bytes is laid into the map. -/
theorem put_data {w W : World} {p b : Nat} {t : TreeB} {k : Nat} (hT : DTree w p b t) (ht : Fair t) (hk : k < t.nodes.length) (hk1 : (nodeAt t k).kind = 1) (hb : Below w.heap.size w W) (dv : Value) (l : List Int) (hdv : Sees W dv (intsV .u8 l)) :
    ∃ w5, (Instr.mapUpdate 50 (.map (some b)) (.int .i64 (nodeAt t k).ino) (.agg #[.int .i64 1, dv, .slice none 0 0])).run Tryz.prog W = .ok () w5 ∧ DTree w5 p b (dataB t k l) ∧ Turn p b w w5 ∧ Turn p b W w5 := by
  have ok := ht.each _ (nodeAt_mem hk)
  have hn : (nodeAt t k).names = [] := by
    rcases ok.2.2 with h | h
    · omega
    · exact h.2.1
  obtain ⟨w5, h1, h2, h3, _⟩ := (hT.below hb).put (w1 := W) ht hk ⟨{ nodeAt t k with data := l }, dv, .slice none 0 0⟩ rfl ⟨hdv, ⟨none, 0, by simp [pairsB, hn], by simp [pairsB, hn], by simp, fun _ => rfl, fun h => by simp [pairsB, hn] at h⟩⟩
  refine ⟨w5, ?_, h2, (turn_below hb).trans h3, h3⟩
  have e : (⟨{ nodeAt t k with data := l }, dv, .slice none 0 0⟩ : DN).val = .agg #[.int .i64 1, dv, .slice none 0 0] := by unfold DN.val; simp only; rw [hk1]
  rw [e] at h1
  exact h1
theorem dsized9 {W : World} {dv : Value} {l : List Int} {n : Int} (hd : Sees W dv (intsV .u8 l)) (hn : 0 ≤ n ∧ n ≤ 2000) : Calls Tryz.prog 105 #[dv, .int .i64 n] W fun e w' => ∃ r, e = .returned r ∧ Sees w' r (intsV .u8 (bytesB l n.toNat)) ∧ Below W.heap.size W w' := by
  have h9 := dsized_any dv l n.toNat W hd (by omega)
  rw [show ((n.toNat : Nat) : Int) = n by omega] at h9
  refine h9.mono ?_
  rintro e w' ⟨rfl, hg, hb⟩
  have hl3 : W.heap.size < w'.heap.size := (Array.getElem?_eq_some_iff.1 hg).1
  refine ⟨_, rfl, ⟨some ⟨W.heap.size, 0, none⟩, n.toNat, by rw [intsV_len, bytesB_len], by rw [intsV_len, bytesB_len]; exact Nat.le_refl _, by unfold maxLen; omega, by simp, fun _ => ⟨W.heap.size, 0, rfl, hl3, fun i x hx => ?_⟩⟩, hb⟩
  simp only [World.cell?, hg, Nat.zero_add]
  simpa using hx
theorem dwritten9 {W : World} {dv mv : Value} {l m : List Int} {off : Int} (hd : Sees W dv (intsV .u8 l)) (hm : Sees W mv (intsV .u8 m)) (hl : l.length ≤ 2000) (ho : 0 ≤ off ∧ off + (m.length : Int) ≤ 2000) : Calls Tryz.prog 104 #[dv, .int .i64 off, mv] W fun e w' => ∃ r, e = .returned r ∧ Sees w' r (intsV .u8 (if m.length = 0 then l else laidB (bytesB l (max l.length (off.toNat + m.length))) off.toNat m)) ∧ Below W.heap.size W w' := by
  have h9 := dwritten_any dv mv l m off.toNat W hd hm hl (by omega)
  rw [show ((off.toNat : Nat) : Int) = off by omega] at h9
  exact h9
theorem told_two {w w1 W2 : World} {p b : Nat} {t : TreeB} (hT1 : DTree w1 p b t) (ht : Turn p b w w1) (hB : RBox w1 (w.heap.size + 1)) (hp : p < w.heap.size) (hb : b < w.heap.size) (ho : Only (w.heap.size + 1) w1 W2) : DTree W2 p b t ∧ Turn p b w W2 :=
  told_fin hT1 ht hB (by omega) (by omega) (by omega) ho (Below.refl _ _)
end Go.Proofs.YtbebgobboccjcaaGreatDoor
/- unnamePath, remove. -/
namespace Go.Proofs.YtbebgobboccjcaaGreatDoor
open Go.RowKit Kit
set_option linter.unusedVariables false

set_option maxRecDepth 4000 in
set_option maxHeartbeats 8000000 in
theorem dunnamePath_any (path : ByteArray) (w : World) (p b : Nat) (t : TreeB) (hT : DTree w p b t) (ht : Fair t) (hs1 : path.size ≤ maxLen) (d : Nat) (s : ByteArray) (hh : homeB t path = .ok (d, s)) (hs : s ∈ (nodeAt t d).names) :
    Calls Tryz.prog 98 #[.pointer (some ⟨p, 0, none⟩), .string path] w fun e w' => e = .returned (.tuple #[]) ∧ DTree w' p b (unnameB t d s) ∧ Turn p b w w' := by
  have HX : Hid (Calls Tryz.prog 100 _ _ _) := dplace_any path w p b t hT ht hs1
  rw [hh] at HX
  simp only [outP] at HX
  have e00 : errV 0 = .nilIface := rfl
  rw [e00] at HX
  obtain ⟨hd, hdk⟩ := home_lt ht hh
  have HU : Hid (∀ W, Below w.heap.size w W → _) := fun W hW => dunname_any s W p b t d (hT.below hW) ht hd hdk hs
  obtain ⟨jj, hjj⟩ : ∃ jj, (nodeAt t d).ino = jj := ⟨_, rfl⟩
  rw [hjj] at HX HU
  clear hT ht hs1 hh hs e00 hd hdk hjj
  go_enter Tryz.func98, Tryz.ntmps98
  go_wp2_with fail
  go_at_call 100
  refine HX.out.mono ?_
  rintro e w1 ⟨rfl, hb1⟩
  have HU1 : Hid (Calls Tryz.prog 101 _ _ _) := HU.out w1 hb1
  have H1 : Hid (Below w.heap.size w w1) := hb1
  clear hb1 HX HU
  go_wp2_with fail
  go_at_call 101
  refine HU1.out.mono ?_
  rintro e w2 ⟨rfl, hd2, ht2⟩
  have H2 : Hid (DTree w2 p b (unnameB t d s) ∧ Turn p b w w2) := ⟨hd2, (turn_below H1.out).trans ht2⟩
  clear hd2 ht2 HU1
  go_wp2
  go_end0
  exact ⟨rfl, H2.out⟩
def removeK (o : OpB) : Int := if o.kind = 4 then 2 else 1
def removesF (t : TreeB) (o : OpB) (f : Except Int Nat) : TreeB × ReplyB × Int := match f with
  | .error e => (t, noReply, e)
  | .ok k => if unlikeB (removeK o) (nodeAt t k).kind (nodeAt t k).names.length ≠ 0 then (t, noReply, unlikeB (removeK o) (nodeAt t k).kind (nodeAt t k).names.length) else match homeB t o.path with
    | .error _ => (t, noReply, 0)
    | .ok (d, s) => (sweptB (setB t d (withoutB (nodeAt t d) s)), noReply, 0)
theorem removes_eq {t : TreeB} (hG : Good t) (o : OpB) (ho : o.kind = 3 ∨ o.kind = 4) (hp : (parentB o.path).2.2 = 0) : removesB t o = removesF t o (findB t o.path) := by
  unfold removesB
  rw [if_neg (by simp [hp])]
  cases hf : findB t o.path with
  | error e => rfl
  | ok k =>
    have hk := find_lt hG.e.fair hf
    have hkk := hG.e.fair.kind (nodeAt_mem hk)
    have ok := hG.e.each _ (nodeAt_mem hk)
    simp only [removesF, removeK, unlikeB]
    rcases ho with ho | ho <;> rcases hkk with hk1 | hk1
    · have hn : (nodeAt t k).names = [] := by
        rcases ok.2.2 with h | h
        · omega
        · exact h.2.1
      simp [ho, hk1, hn]
      rfl
    · simp [ho, hk1]
    · simp [ho, hk1]
    · by_cases h0 : 0 < (nodeAt t k).names.length
      · simp [ho, hk1, h0]
      · simp [ho, hk1, h0]
        rfl
set_option maxRecDepth 4000 in
set_option maxHeartbeats 8000000 in
theorem dremove_any (o : OpB) (ho : o.kind = 3 ∨ o.kind = 4) (w : World) (p b : Nat) (t : TreeB) (hT : DTree w p b t) (hG : Good t) (hs1 : o.path.size ≤ maxLen) :
    Calls Tryz.prog 62 #[.pointer (some ⟨p, 0, none⟩), .string o.path, .int .i64 (removeK o)] w fun e w' => e = .returned (errV (removesB t o).2.2) ∧ DTree w' p b (removesB t o).1 ∧ Turn p b w w' := by
  have ht := hG.e.fair
  have HX : Hid (Calls Tryz.prog 96 _ _ _) := nparent_any o.path w hs1
  have HFd : Hid (∀ W, Below w.heap.size w W → _) := fun W hW => dfind_any o.path W p b t (hT.below hW) ht hs1
  have HT : Hid (DTree w p b t ∧ Good t ∧ o.path.size ≤ maxLen) := ⟨hT, hG, hs1⟩
  have HL0 : Hid ((parentB o.path).2.2 ≠ 0 → removesB t o = (t, noReply, (parentB o.path).2.2)) := fun h => by unfold removesB; rw [if_pos h]
  have HL1 : Hid ((parentB o.path).2.2 = 0 → removesB t o = removesF t o (findB t o.path)) := fun h => removes_eq hG o ho h
  have HPP : Hid ((parentB o.path).2.2 = 0 → ∀ k, findB t o.path = .ok k → ∃ d s, homeB t o.path = .ok (d, s) ∧ s ∈ (nodeAt t d).names ∧ unnameB t d s = sweptB (setB t d (withoutB (nodeAt t d) s))) := fun h k hf => by
    obtain ⟨d, s, l, h1, _, _, h2, h3, h4, h5⟩ := find_home hG.e h hf
    exact ⟨d, s, h1, has_iff.1 ((has_name (hG.e.each _ (nodeAt_mem h2)) (ht.nz (nodeAt_mem h2)) s).2 h5), unname_swept hG h2 h3 h5⟩
  obtain ⟨⟨d0, q0, e0⟩, he⟩ : ∃ x, parentB o.path = x := ⟨_, rfl⟩
  rw [he] at HX HL0 HL1 HPP
  simp only at HX HL0 HL1 HPP
  obtain ⟨f, hf⟩ : ∃ f, findB t o.path = f := ⟨_, rfl⟩
  have HF0 : Hid (findB t o.path = f) := hf
  rw [hf] at HFd HL1 HPP
  obtain ⟨r, hr⟩ : ∃ r, removesB t o = r := ⟨_, rfl⟩
  rw [hr] at HL0 HL1 ⊢
  have hrk : removeK o = 1 ∨ removeK o = 2 := by unfold removeK; split <;> simp
  clear hs1 he hf hr hT hG ht
  by_cases hp0 : e0 = 0
  case neg =>
    have HR : Hid (r = (t, noReply, e0)) := HL0.out hp0
    have HE : Hid (errV e0 = .iface 80 (.int .i64 e0)) := errV_ne hp0
    rw [errV_ne hp0] at HX
    clear HL0 HL1 HPP hp0
    go_enter Tryz.func62, Tryz.ntmps62
    go_wp2_with fail
    go_at_call 96
    refine HX.out.mono ?_
    rintro e w1 ⟨rfl, hb1⟩
    have H1 : Hid (Below w.heap.size w w1) := hb1
    clear hb1 HX
    go_wp2
    go_ret
    rw [HR.out]
    exact ⟨by rw [HE.out]; rfl, HT.out.1.below H1.out, turn_below H1.out⟩
  subst hp0
  have e00 : errV 0 = .nilIface := rfl
  rw [e00] at HX
  have HR1 : Hid (r = removesF t o f) := HL1.out rfl
  clear HL0 HL1
  cases f with
  | error x =>
    have hx := find_code' HF0.out
    have HE : Hid (errV x = .iface 80 (.int .i64 x)) := errV_ne hx
    simp only [outW2] at HFd
    rw [errV_ne hx] at HFd
    clear HPP hx e00
    go_enter Tryz.func62, Tryz.ntmps62
    go_wp2_with fail
    go_at_call 96
    refine HX.out.mono ?_
    rintro e w1 ⟨rfl, hb1⟩
    have H1 : Hid (Below w.heap.size w w1) := hb1
    clear hb1 HX
    go_wp2_with fail
    go_at_call 22
    refine (HFd.out w1 H1.out).mono ?_
    rintro e w2 ⟨rfl, hb2⟩
    have H2 : Hid (Below w.heap.size w w2) := bel2v H1.out hb2
    clear hb2 HFd H1
    go_wp2
    go_ret
    rw [HR1.out]
    exact ⟨by simp only [removesF]; rw [HE.out]; rfl, HT.out.1.below H2.out, turn_below H2.out⟩
  | ok k =>
    have hk := find_lt HT.out.2.1.e.fair HF0.out
    obtain ⟨d, s, hh, hsm, hsw⟩ := HPP.out rfl k rfl
    obtain ⟨da, dc, sa, sc, hlook⟩ := HT.out.1.lookAt HT.out.2.1.e.fair hk
    have hkk := HT.out.2.1.e.fair.kind (nodeAt_mem hk)
    have hnm := HT.out.2.1.e.fair.names _ (nodeAt_mem hk)
    have HLK : Hid (∀ W, Below w.heap.size w W → _) := hlook
    have HUL : Hid (∀ W, _) := fun W => dunlike_any (removeK o) (nodeAt t k).kind da sa (nodeAt t k).data.length dc (nodeAt t k).names.length sc W hrk hkk (by omega)
    have HUP : Hid (∀ W, Below w.heap.size w W → _) := fun W hW => dunnamePath_any o.path W p b t (HT.out.1.below hW) HT.out.2.1.e.fair HT.out.2.2 d s hh hsm
    rw [hsw] at HUP
    have HR : Hid (r = if unlikeB (removeK o) (nodeAt t k).kind (nodeAt t k).names.length ≠ 0 then (t, noReply, unlikeB (removeK o) (nodeAt t k).kind (nodeAt t k).names.length) else (sweptB (setB t d (withoutB (nodeAt t d) s)), noReply, 0)) := by show _ = _; rw [HR1.out]; simp only [removesF]; rw [hh]
    simp only [outW2] at HFd
    rw [e00] at HFd
    obtain ⟨u, hu⟩ : ∃ u, unlikeB (removeK o) (nodeAt t k).kind (nodeAt t k).names.length = u := ⟨_, rfl⟩
    rw [hu] at HUL HR
    obtain ⟨ii, hii⟩ : ∃ jj, (nodeAt t k).ino = jj := ⟨_, rfl⟩
    rw [hii] at HFd HLK
    obtain ⟨kk, hkq⟩ : ∃ jj, (nodeAt t k).kind = jj := ⟨_, rfl⟩
    rw [hkq] at HUL HLK
    obtain ⟨rk, hrq⟩ : ∃ jj, removeK o = jj := ⟨_, rfl⟩
    rw [hrq] at HUL ⊢
    obtain ⟨t3, ht3⟩ : ∃ t3, sweptB (setB t d (withoutB (nodeAt t d) s)) = t3 := ⟨_, rfl⟩
    rw [ht3] at HUP HR
    clear HPP hh hsm hsw hlook hkk hnm e00 hu hii hkq hrq hrk ht3 HR1
    by_cases hu0 : u = 0
    · subst hu0
      have e00 : errV 0 = .nilIface := rfl
      rw [e00] at HUL
      have HR2 : Hid (r = (t3, noReply, 0)) := by show _ = _; rw [HR.out, if_neg (by simp)]
      clear HR e00
      go_enter Tryz.func62, Tryz.ntmps62
      go_wp2_with fail
      go_at_call 96
      refine HX.out.mono ?_
      rintro e w1 ⟨rfl, hb1⟩
      have H1 : Hid (Below w.heap.size w w1) := hb1
      clear hb1 HX
      go_wp2_with fail
      go_at_call 22
      refine (HFd.out w1 H1.out).mono ?_
      rintro e w2 ⟨rfl, hb2⟩
      have H2 : Hid (Below w.heap.size w w2) := bel2v H1.out hb2
      obtain ⟨hl, c0, _⟩ := HLK.out w2 H2.out
      clear hb2 HFd H1 HLK
      go_wp2_with fail
      go_at_call 97
      refine (HUL.out w2).mono ?_
      rintro e w3 ⟨rfl, hb3⟩
      have H3 : Hid (Below w.heap.size w w3) := bel2v H2.out hb3
      clear hb3 HUL H2
      go_wp2_with fail
      go_at_call 98
      refine (HUP.out w3 H3.out).mono ?_
      rintro e w4 ⟨rfl, hd4, ht4⟩
      have H4 : Hid (DTree w4 p b t3 ∧ Turn p b w w4) := ⟨hd4, (turn_below H3.out).trans ht4⟩
      clear hd4 ht4 HUP H3
      go_wp2
      go_ret
      rw [HR2.out]
      exact ⟨rfl, H4.out⟩
    · have HE : Hid (errV u = .iface 80 (.int .i64 u)) := errV_ne hu0
      have HR2 : Hid (r = (t, noReply, u)) := by show _ = _; rw [HR.out, if_pos hu0]
      rw [errV_ne hu0] at HUL
      clear HR hu0 HUP
      go_enter Tryz.func62, Tryz.ntmps62
      go_wp2_with fail
      go_at_call 96
      refine HX.out.mono ?_
      rintro e w1 ⟨rfl, hb1⟩
      have H1 : Hid (Below w.heap.size w w1) := hb1
      clear hb1 HX
      go_wp2_with fail
      go_at_call 22
      refine (HFd.out w1 H1.out).mono ?_
      rintro e w2 ⟨rfl, hb2⟩
      have H2 : Hid (Below w.heap.size w w2) := bel2v H1.out hb2
      obtain ⟨hl, c0, _⟩ := HLK.out w2 H2.out
      clear hb2 HFd H1 HLK
      go_wp2_with fail
      go_at_call 97
      refine (HUL.out w2).mono ?_
      rintro e w3 ⟨rfl, hb3⟩
      have H3 : Hid (Below w.heap.size w w3) := bel2v H2.out hb3
      clear hb3 HUL H2
      go_wp2
      go_ret
      rw [HR2.out]
      exact ⟨by rw [HE.out]; rfl, HT.out.1.below H3.out, turn_below H3.out⟩
end Go.Proofs.YtbebgobboccjcaaGreatDoor
/- rename: its two ways. (No walk in it.) -/
namespace Go.Proofs.YtbebgobboccjcaaGreatDoor
open Go.RowKit Kit
set_option linter.unusedVariables false

theorem swept_good {t : TreeB} (hG : Good t) : sweptB t = t := by
  unfold sweptB
  have : t.nodes.filter (fun n => decide (0 < linksB t n.ino)) = t.nodes := by
    rw [List.filter_eq_self]
    intro n hn
    apply decide_eq_true
    rw [hG.e.fair.links hn]
    unfold linksD
    split
    · omega
    · rename_i h; exact hG.2 n hn h
  rw [this]
theorem small_names {t : TreeB} (hG : Good t) {d : Nat} (hd : d < t.nodes.length) : (nodeAt t d).names.length < 10000 := by
  have := (names_small hG.e (nodeAt_mem hd)).1
  omega
/-- Nothing stands at the new place. -/
theorem ren_new {t : TreeB} (hG : Good t) {p0 d : Nat} (hp : p0 < t.nodes.length) (hd : d < t.nodes.length) (hpk : (nodeAt t p0).kind = 2) (hdk : (nodeAt t d).kind = 2) {path s old : ByteArray} {l : List ByteArray}
    (hpar : (parentB path).2.2 = 0) (hl : (splitB path).1 = l ++ [old]) (hw : walkB t 0 l = .ok p0) {I : Int} (hI : nameB (nodeAt t p0) old = I) (hI0 : I ≠ 0) (ho : okB s = true ∧ s.size ≤ 12) (hTs : nameB (nodeAt t d) s = 0) :
    ∃ p2, s ∉ (nodeAt t d).names ∧ Fair (setB t d (withB (nodeAt t d) s I)) ∧ homeB (setB t d (withB (nodeAt t d) s I)) path = .ok (p2, old) ∧ old ∈ (nodeAt (setB t d (withB (nodeAt t d) s I)) p2).names ∧ unnameB (setB t d (withB (nodeAt t d) s I)) p2 old = sweptB (movedB t p0 old d s I) := by
  have ht := hG.e.fair
  have hsn := name_free hG.e hd hdk hTs
  have hset : t = setB t d (id (nodeAt t d)) := by
    unfold setB
    rw [nodeAt_eq t d hd]
    simp only [id]
    rw [List.set_getElem_self]
  obtain ⟨x1, d1, p2, h1, h2, h3, h4, h5, h6, h7, h8, h9, h10⟩ := ren_any (X := t) (k := 0) hG hp hd hpk hdk hpar hl hw hI hI0 ho hTs hI0 (by omega) (fun n hn e => by have := ht.pos n hn; omega) id (fun _ => rfl) (fun _ => rfl) (fun q _ _ => rfl) hsn (small_names hG hd) hset ht (fun _ _ => rfl)
  rw [swept_good hG] at h1
  subst h1
  have : d1 = d := rises_inj ht.rise h3 hd h4
  subst this
  exact ⟨p2, h6, h7, h8, h9, h10⟩
/-- Something stands at the new place that may go. -/
theorem ren_there {t : TreeB} (hG : Good t) {p0 d m : Nat} (hp : p0 < t.nodes.length) (hd : d < t.nodes.length) (hpk : (nodeAt t p0).kind = 2) (hdk : (nodeAt t d).kind = 2) {path s old : ByteArray} {l : List ByteArray}
    (hpar : (parentB path).2.2 = 0) (hl : (splitB path).1 = l ++ [old]) (hw : walkB t 0 l = .ok p0) {I T : Int} (hI : nameB (nodeAt t p0) old = I) (hI0 : I ≠ 0) (ho : okB s = true ∧ s.size ≤ 12) (hTs : nameB (nodeAt t d) s = T) (hT0 : T ≠ 0) (hIT : I ≠ T)
    (hm : m < t.nodes.length) (hmT : (nodeAt t m).ino = T) (hmn : (nodeAt t m).names.length = 0) :
    ∃ d1 p2, Fair (unnameB t d s) ∧ d1 < (unnameB t d s).nodes.length ∧ (nodeAt (unnameB t d s) d1).ino = (nodeAt t d).ino ∧ (nodeAt (unnameB t d s) d1).kind = 2 ∧ s ∉ (nodeAt (unnameB t d s) d1).names ∧ Fair (setB (unnameB t d s) d1 (withB (nodeAt (unnameB t d s) d1) s I)) ∧
      homeB (setB (unnameB t d s) d1 (withB (nodeAt (unnameB t d s) d1) s I)) path = .ok (p2, old) ∧ old ∈ (nodeAt (setB (unnameB t d s) d1 (withB (nodeAt (unnameB t d s) d1) s I)) p2).names ∧ unnameB (setB (unnameB t d s) d1 (withB (nodeAt (unnameB t d s) d1) s I)) p2 old = sweptB (movedB (setB t d (withoutB (nodeAt t d) s)) p0 old d s I) := by
  have ht := hG.e.fair
  have okd := ht.each _ (nodeAt_mem hd)
  obtain ⟨k', q1, q2, q3, q4⟩ := ht.step hd (s := s) (by rw [hTs]; exact hT0)
  rw [hTs] at q4
  have hkid := kids_unname ht hd (s := s) (by rw [hTs]; exact hT0)
  rw [hTs] at hkid
  obtain ⟨x1, d1, p2, h1, h2, h3, h4, h5, h6, h7, h8, h9, h10⟩ := ren_any (X := setB t d (withoutB (nodeAt t d) s)) (k := 0) hG hp hd hpk hdk hpar hl hw hI hI0 ho hTs hIT q4 (fun n hn e q => by
      have e2 : n = nodeAt t m := rises_eq ht.rise hn (nodeAt_mem hm) (by rw [e, hmT])
      apply Classical.byContradiction
      intro h
      obtain ⟨_, j, hj, _⟩ := nameB_some (ht.each n hn).len h
      rw [e2] at hj
      omega) (fun n => withoutB n s) (fun _ => rfl) (fun _ => rfl) (fun q hq h0 => without_name okd hdk hq h0) (by
      rw [show (withoutB (nodeAt t d) s).names = (nodeAt t d).names.filter (fun q => decide (q ≠ s)) from names_without_keep _ _ s okd.len]
      intro h
      have := (List.mem_filter.1 h).2
      simp at this) (Nat.lt_of_le_of_lt (without_len s) (small_names hG hd)) rfl (fair_without ht hd hdk s) (fun i hi => by
      have := hkid i
      rw [if_neg (fun e => hi e.symm)] at this
      omega)
  have hu := unname_swept hG hd hdk (s := s) (by rw [hTs]; exact hT0)
  rw [h1] at hu
  rw [hu]
  exact ⟨d1, p2, h2, h3, h4, h5, h6, h7, h8, h9, h10⟩
def renT (t : TreeB) (k d : Nat) (s : ByteArray) (p : Nat) (old : ByteArray) : TreeB × ReplyB × Int :=
  if nameB (nodeAt t d) s ≠ 0 then
    if nameB (nodeAt t d) s = (nodeAt t k).ino then (t, noReply, 0) else
    if unlikeB (nodeAt t k).kind (nodeAt t ((placeO t (nameB (nodeAt t d) s)).getD 0)).kind (nodeAt t ((placeO t (nameB (nodeAt t d) s)).getD 0)).names.length ≠ 0 then (t, noReply, unlikeB (nodeAt t k).kind (nodeAt t ((placeO t (nameB (nodeAt t d) s)).getD 0)).kind (nodeAt t ((placeO t (nameB (nodeAt t d) s)).getD 0)).names.length) else
    (sweptB (movedB (setB t d (withoutB (nodeAt t d) s)) p old d s (nodeAt t k).ino), noReply, 0)
  else (sweptB (movedB t p old d s (nodeAt t k).ino), noReply, 0)
theorem rename_eq {t : TreeB} (hG : Good t) (o : OpB) {k : Nat} (h1 : (parentB o.path).2.2 = 0) (h2 : (parentB o.to).2.2 = 0) (hf : findB t o.path = .ok k) {p : Nat} {old : ByteArray} (hp : homeB t o.path = .ok (p, old)) :
    ((nodeAt t k).kind = 2 ∧ o.to ≠ o.path ∧ underB o.to o.path = true → renameB t o = (t, noReply, 10)) ∧ (¬ ((nodeAt t k).kind = 2 ∧ o.to ≠ o.path ∧ underB o.to o.path = true) → (∀ e, homeB t o.to = .error e → renameB t o = (t, noReply, e)) ∧ ∀ d s, homeB t o.to = .ok (d, s) → renameB t o = renT t k d s p old) := by
  refine ⟨fun h => ?_, fun h => ⟨fun e he => ?_, fun d s he => ?_⟩⟩
  · unfold renameB
    rw [if_neg (by simp [h1]), if_neg (by simp [h2]), hf]
    simp only
    rw [if_pos h]
  · unfold renameB
    rw [if_neg (by simp [h1]), if_neg (by simp [h2]), hf]
    simp only
    rw [if_neg h, he]
  · unfold renameB
    rw [if_neg (by simp [h1]), if_neg (by simp [h2]), hf]
    simp only
    rw [if_neg h, he, hp]
    simp only
    unfold renT
    by_cases c0 : nameB (nodeAt t d) s ≠ 0
    · rw [if_pos c0, if_pos c0]
      by_cases c1 : nameB (nodeAt t d) s = (nodeAt t k).ino
      · rw [if_pos c1, if_pos c1]
      · rw [if_neg c1, if_neg c1]
        unfold unlikeB
        by_cases c2 : (nodeAt t k).kind = 2 ∧ (nodeAt t ((placeO t (nameB (nodeAt t d) s)).getD 0)).kind = 1
        · rw [if_pos c2, if_pos c2, if_pos (by omega)]
        · rw [if_neg c2, if_neg c2]
          by_cases c3 : (nodeAt t k).kind = 1 ∧ (nodeAt t ((placeO t (nameB (nodeAt t d) s)).getD 0)).kind = 2
          · rw [if_pos c3, if_pos c3, if_pos (by omega)]
          · rw [if_neg c3, if_neg c3]
            by_cases c4 : 0 < (nodeAt t ((placeO t (nameB (nodeAt t d) s)).getD 0)).names.length
            · rw [if_pos c4, if_pos c4, if_pos (by omega)]
            · rw [if_neg c4, if_neg c4, if_neg (by omega)]
    · rw [if_neg c0, if_neg c0]
end Go.Proofs.YtbebgobboccjcaaGreatDoor
/- dolmenalike.Code and Is over what tree.Do answers as its error. -/
namespace Go.Proofs.YtbebgobboccjcaaGreatDoor
open Go.RowKit Kit
set_option linter.unusedVariables false

theorem pre_flt {w : World} {g : Nat} {op path : ByteArray} {c : Int} (h : w.heap[g]? = some (.cells #[.string op, .string path, .iface 80 (.int .i64 c)] 89)) (h1 : op.size ≤ 1000) (h2 : path.size ≤ 1000) :
    Pre w 2 (.iface 85 (.pointer (some ⟨g, 0, none⟩))) [(85, .pointer (some ⟨g, 0, none⟩), [(op, path)]), (80, .int .i64 c, [])] := by
  refine .inr (.inr ⟨g, op, path, .iface 80 (.int .i64 c), [(80, .int .i64 c, [])], rfl, ?_, ?_, ?_, ⟨h1, h2⟩, by simp, .inr (.inl ⟨c, rfl, rfl⟩), rfl⟩) <;> simp [World.cell?, h]
theorem hit_fault (k c : Int) (g : Nat) (op path : ByteArray) : hit k [(85, .pointer (some ⟨g, 0, none⟩), [(op, path)]), (80, .int .i64 c, [])] = (c == k) := by
  rw [hit_skip k 85 _ _ (by decide), hit_num]
set_option maxHeartbeats 1000000 in
/-- dolmenalike.Code of a Fault with a number within. -/
theorem code_fault (n : Nat) (w : World) (g : Nat) (op path : ByteArray) (h1 : 1 ≤ n) (h19 : n ≤ 19) (h : w.heap[g]? = some (.cells #[.string op, .string path, .iface 80 (.int .i64 n)] 89)) (hop : op.size ≤ 1000) (hpath : path.size ≤ 1000) :
    Calls Tryz.prog 25 #[.iface 85 (.pointer (some ⟨g, 0, none⟩))] w fun e w' => e = .returned (.int .i64 n) ∧ Below w.heap.size w w' := by
  have HP : Hid (Pre w 2 (.iface 85 (.pointer (some ⟨g, 0, none⟩))) [(85, .pointer (some ⟨g, 0, none⟩), [(op, path)]), (80, .int .i64 n, [])]) := pre_flt h hop hpath
  have HI : Hid (∀ (k : Int) (w1 : World), Below w.heap.size w w1 → Calls Tryz.prog 47 #[.iface 85 (.pointer (some ⟨g, 0, none⟩)), .iface 80 (.int .i64 k)] w1 fun e w' => e = .returned (.bool ((n : Int) == k)) ∧ Below w1.heap.size w1 w') := fun k w1 hb => by
    have := is_any k 2 _ _ w1 (HP.out.below hb)
    rw [hit_fault] at this
    exact this
  clear h hop hpath HP
  go_enter Tryz.func25, Tryz.ntmps25
  go_wp2
  go_loopw [3] (fun i wr => ∃ k : Nat, 1 ≤ k ∧ k ≤ n ∧ i = .int .i64 k ∧ Hid (Below w.heap.size w wr)) (fun i _ => 20 - (intOf i).toNat)
  case atStart => exact ⟨1, by omega, by omega, rfl, Below.refl _ _⟩
  case round =>
    obtain ⟨k, hk1, hk, rfl, HB⟩ := hrel
    by_cases hkn : k = n
    · subst hkn
      have hbb : (((k : Nat) : Int) == (k : Int)) = true := beq_self_eq_true _
      go_wp2_with fail
      go_at_call 47
      refine (HI.out _ _ HB.out).mono ?_
      rintro e w' ⟨rfl, hw⟩
      have HB2 : Hid (Below w.heap.size w w') := bel2e HB.out hw
      clear hw HI HB
      go_wp2
      go_ret
      exact ⟨rfl, HB2.out⟩
    · have hne : ((n : Int) == (k : Int)) = false := beq_eq_false_iff_ne.2 (by omega)
      go_wp2_with fail
      go_at_call 47
      refine (HI.out _ _ HB.out).mono ?_
      rintro e w' ⟨rfl, hw⟩
      have HB2 : Hid (Below w.heap.size w w') := bel2e HB.out hw
      clear hw HI HB
      go_wp2
      go_round
      case rel => exact ⟨k + 1, by omega, by omega, by go_num, HB2⟩
      case measure => simp [intOf]; omega

def Tied (w : World) : Prop := w.cell? ⟨0, 0, none⟩ = some (.iface 159 (.agg #[.pointer (some ⟨4, 42, none⟩)]))
theorem tied_below {w w' : World} (h : Tied w) (hb : Below w.heap.size w w') : Tied w' := cell_old hb h
theorem first_fault (c : Int) (g : Nat) (op path : ByteArray) : firstOf 85 [(85, .pointer (some ⟨g, 0, none⟩), [(op, path)]), (80, .int .i64 c, [])] = some (.pointer (some ⟨g, 0, none⟩)) := firstOf_hit _ _ _ _
theorem str_self (a : ByteArray) : (a.toList == a.toList) = true := beq_self_eq_true _
set_option maxRecDepth 4000 in
set_option maxHeartbeats 4000000 in
/-- dolmenalike.Is of a Fault with just that number, operation and path. -/
theorem ais_fault (n : Nat) (w : World) (g : Nat) (op path : ByteArray) (hg : Tied w) (h1 : 1 ≤ n) (h19 : n ≤ 19) (h : w.heap[g]? = some (.cells #[.string op, .string path, .iface 80 (.int .i64 n)] 89)) (hop : op.size ≤ 1000) (hpath : path.size ≤ 1000) :
    Calls Tryz.prog 19 #[.iface 85 (.pointer (some ⟨g, 0, none⟩)), .int .i64 n, .string op, .string path] w fun e w' => e = .returned (.bool true) ∧ Below w.heap.size w w' := by
  have hgl : g < w.heap.size := (Array.getElem?_eq_some_iff.1 h).1
  have HC : Hid (Calls Tryz.prog 25 _ _ _) := code_fault n w g op path h1 h19 h hop hpath
  have HA : Hid (∀ w1, Below w.heap.size w w1 → Calls Tryz.prog 43 #[.iface 85 (.pointer (some ⟨g, 0, none⟩)), .iface 87 (.pointer (some ⟨w1.heap.size, 0, none⟩))] (w1.alloc (.cells #[.pointer none] 85)) fun e w' => e = .returned (.bool true) ∧
      w'.cell? ⟨w1.heap.size, 0, none⟩ = some (.pointer (some ⟨g, 0, none⟩)) ∧ w'.cell? ⟨g, 0, none⟩ = some (.string op) ∧ w'.cell? ⟨g, 1, none⟩ = some (.string path) ∧ Hid (Below w.heap.size w w')) := fun w1 hb => by
    have hb2 : Below w1.heap.size w1 (w1.alloc (.cells #[.pointer none] 85)) := (Below.refl _ _).alloc (Nat.le_refl _) _
    have hb3 := bel2e hb hb2
    have hx := A0.as_any 2 _ _ (w1.alloc (.cells #[.pointer none] 85)) ((pre_flt h hop hpath).below hb3) ⟨w1.heap.size, 0, none⟩ (.pointer none) (by simp) (by simp only [World.frozen?, (MapKept.heap_alloc w1 _).1]; rfl) (tied_below hg hb3)
    rw [first_fault] at hx
    refine hx.mono ?_
    rintro e w' ⟨rfl, w2, k1, rfl⟩
    have hbl : w2.heap[g]? = w.heap[g]? := ((k1.block g (Nat.lt_of_lt_of_le hgl hb3.size)).trans (hb3.block g hgl))
    have hs : w1.heap.size < w2.heap.size := by have := k1.size; simp at this; omega
    have hne : g ≠ w1.heap.size := by have := hb.size; omega
    have hc0 : w2.cell? ⟨w1.heap.size, 0, none⟩ = some (.pointer none) := cell_old k1 (by simp)
    have hq : (w2.setCell ⟨w1.heap.size, 0, none⟩ (.pointer (some ⟨g, 0, none⟩))).heap[g]? = some (.cells #[.string op, .string path, .iface 80 (.int .i64 n)] 89) := (Below.heap_setCell w2 ⟨w1.heap.size, 0, none⟩ _ g hne).trans (hbl.trans h)
    refine ⟨rfl, ?_, ?_, ?_, ?_⟩
    · exact World.cell?_setCell_same' _ _ _ (by rw [hc0]; rfl)
    · simp [World.cell?, hq]
    · simp [World.cell?, hq]
    · exact (bel2e hb3 k1).setCell (by have := hb.size; simpa using this) _
  have hss1 := str_self op
  have hss2 := str_self path
  have hnz : ((n : Int) == 0) = false := beq_eq_false_iff_ne.2 (by omega)
  have hnn : ((n : Int) == (n : Int)) = true := beq_self_eq_true _
  clear h hop hpath hg h19
  go_enter Tryz.func19, Tryz.ntmps19
  go_wp2_with fail
  go_at_call 25
  refine HC.out.mono ?_
  rintro e w1 ⟨rfl, hw⟩
  have HB : Hid (Below w.heap.size w w1) := hw
  clear hw HC
  go_wp2_with fail
  go_at_call 43
  refine (HA.out _ HB.out).mono ?_
  rintro e w2 ⟨rfl, c0, c1, c2, HB2⟩
  clear HA HB
  go_wp2
  go_ret
  exact ⟨rfl, HB2.out⟩
/-- dolmenalike.Is of no error and nought. -/
theorem ais_nil (op path : ByteArray) (w : World) : Calls Tryz.prog 19 #[.nilIface, .int .i64 0, .string op, .string path] w fun e w' => e = .returned (.bool true) ∧ w' = w := by
  have HC : Hid (∀ w, Calls Tryz.prog 25 #[.nilIface] w fun e w' => e = .returned (.int .i64 0) ∧ w' = w) := code_nil
  go_enter Tryz.func19, Tryz.ntmps19
  go_wp2_with fail
  go_at_call 25
  refine (HC.out _).mono ?_
  rintro e w1 ⟨rfl, rfl⟩
  go_wp2
  go_ret
  exact ⟨rfl, rfl⟩
end Go.Proofs.YtbebgobboccjcaaGreatDoor
/- What the rows list of variables: two tables, and a type's handle; a state that meets it. -/
namespace Go.Proofs.YtbebgobboccjcaaGreatDoor
open Go.ChangeShapes Go.WideShapes Go.ChangeAt Go.RowKit

/-- The list of the rows. -/
def laid1 : List (String × DataW Unit) := Rows.treeMovesRow.laid
def tabs1 : List (String × DataW Unit) := laid1.filter fun x => x.2.handleName?.isNone
def great1 : List String := tabs1.map (·.1)
theorem own : ownKnob Tryz.prog.godebug = none := by kernel_rfl
theorem laidOut : laidOutB Tryz.prog = true := by kernel_rfl
noncomputable def startW (os : Os) : World := (World.doorLaid Tryz.prog 26 os).layVars Tryz.prog (tabs1.filter fun x => great1.contains x.1)
theorem startW_os (os : Os) : (startW os).os = os := World.layVars_os _ _ _
theorem gET : Tryz.prog.globalNamed "errors.errorType" = some 0 := by kernel_rfl
theorem oneRow : ((List.range 254).filter fun t => Tryz.prog.rowNamed t [101, 114, 114, 111, 114]) = [42] := by kernel_rfl
theorem nTypes : Tryz.prog.types.size = 254 := by kernel_rfl
set_option maxRecDepth 100000 in
theorem door_met (os : Os) (args : Array Value) : laidMetH Tryz.prog laid1 ((startW os).forCall (fun _ _ => 0) ⟨#[], args, []⟩).memory :=
  laidMetH_of_parts (laidMet_layVars (w0 := World.doorLaid Tryz.prog 26 os) great1 [] (by simp [World.memory, World.forCall, Input.heap]; rfl) (by kernel_rfl) (by kernel_rfl) (by
    have e : ((laid1.filter fun x => x.2.handleName?.isNone).filter fun x => !great1.contains x.1) = [] := by kernel_rfl
    rw [e]
    exact LaidIn.none)) (by kernel_rfl)
/-- The variable's cell. -/
theorem tied_of_laid {W : World} (h : laidMetH Tryz.prog laid1 W) : Tied W := by
  have h' := (laidMetH_iff.1 h).2
  have hm0 : ("errors.errorType", Rows.laid_errors_errorType) ∈ laid1.filter fun x => x.2.handleName?.isSome := by
    rw [show (laid1.filter fun x => x.2.handleName?.isSome) = [("errors.errorType", Rows.laid_errors_errorType)] by kernel_rfl]
    exact List.mem_singleton.2 rfl
  obtain ⟨name, u, ty, e1, e2, e3, e4, e5⟩ := h' _ hm0
  have en : name = [101, 114, 114, 111, 114] := (Option.some.inj e1).symm
  subst en
  obtain rfl : u = 159 := Option.some.inj (e2.symm.trans (by kernel_rfl))
  have hm : ty ∈ (List.range 254).filter fun t => Tryz.prog.rowNamed t [101, 114, 114, 111, 114] := List.mem_filter.2 ⟨List.mem_range.2 (by rw [← nTypes]; exact e3), e4⟩
  rw [oneRow] at hm
  obtain rfl := List.mem_singleton.1 hm
  have hh : typeHandle Tryz.prog 42 = .pointer (some ⟨4, 42, none⟩) := by kernel_rfl
  rw [hh] at e5
  unfold Tied
  simpa using World.var?_cell gET e5 0
end Go.Proofs.YtbebgobboccjcaaGreatDoor
/- What is found behind a rename. (No walk of the program in it.) -/
namespace Go.Proofs.YtbebgobboccjcaaGreatDoor
open Go.RowKit Kit
set_option linter.unusedVariables false

theorem nameB_not {n : NodeB} {q : ByteArray} (h : q ∉ n.names) : nameB n q = 0 := by
  unfold nameB
  split
  · have : (n.names.findIdx? fun r => decide (r = q)) = none := by
      rw [List.findIdx?_eq_none_iff]
      intro r hr
      simp
      intro e
      subst e
      exact h hr
    rw [this]
  · rfl
theorem without_not {n : NodeB} (ok : NodeOK n) {s q : ByteArray} (h : q ∉ n.names ∨ q = s) : q ∉ (withoutB n s).names := by
  rw [show (withoutB n s).names = n.names.filter (fun q => decide (q ≠ s)) from names_without_keep _ _ s ok.len]
  intro hm
  obtain ⟨h1, h2⟩ := List.mem_filter.1 hm
  rcases h with h | h
  · exact h h1
  · simp [h] at h2
theorem with_not {n : NodeB} {s q : ByteArray} {a : Int} (h : q ∉ n.names) (hq : q ≠ s) : q ∉ (withB n s a).names := by
  unfold withB
  simp only
  intro hm
  rcases List.mem_append.1 hm with h1 | h1
  · exact h (List.mem_of_mem_take h1)
  · rcases List.mem_cons.1 h1 with h2 | h2
    · exact hq h2
    · exact h (List.mem_of_mem_drop h2)
/-- A walk goes the same way in another tree, if each step of it does. -/
theorem walk_keep {t x : TreeB} (ht : Fair t) (hx : Fair x) : ∀ (l : List ByteArray) (k k2 p : Nat), k < t.nodes.length → k2 < x.nodes.length → (nodeAt x k2).ino = (nodeAt t k).ino → walkB t k l = .ok p →
    (∀ l1 s l2 y, l = l1 ++ s :: l2 → walkB t k l1 = .ok y → y < t.nodes.length → nameB (nodeAt t y) s ≠ 0 → (nodeAt t y).kind = 2 → ∃ y2, y2 < x.nodes.length ∧ (nodeAt x y2).ino = (nodeAt t y).ino ∧ (nodeAt x y2).kind = 2 ∧ nameB (nodeAt x y2) s = nameB (nodeAt t y) s) →
    ∃ p2, walkB x k2 l = .ok p2 ∧ p2 < x.nodes.length ∧ (nodeAt x p2).ino = (nodeAt t p).ino
  | [], k, k2, p, hk, hk2, e, hw, _ => by
    rw [walkB] at hw
    injection hw with hw
    subst hw
    exact ⟨k2, rfl, hk2, e⟩
  | s :: r, k, k2, p, hk, hk2, e, hw, H => by
    rw [walkB] at hw
    split at hw
    · cases hw
    · rename_i hkd
      have hkd : (nodeAt t k).kind = 2 := Decidable.byContradiction hkd
      split at hw
      · cases hw
      · rename_i hn
        obtain ⟨k', p1, p2, p3, p4⟩ := ht.step hk hn
        rw [p1] at hw
        simp only [Option.getD_some] at hw
        obtain ⟨m2, q1, q2, q3, q5⟩ := H [] s r k rfl rfl hk hn hkd
        have em : m2 = k2 := rises_inj hx.rise q1 hk2 (q2.trans e.symm)
        subst em
        obtain ⟨x', r1, r2', r3, _⟩ := hx.step hk2 (s := s) (by rw [q5]; exact hn)
        obtain ⟨pp, t1, t2, t3⟩ := walk_keep ht hx r k' x' p p2 r2' (by rw [r3, p3, q5]) hw (fun l1 s1 l2 y el hy hyl hyn hyk => by
          refine H (s :: l1) s1 l2 y (by rw [el]; rfl) ?_ hyl hyn hyk
          rw [walkB, if_neg (by omega), if_neg hn, p1]
          exact hy)
        refine ⟨pp, ?_, t2, t3⟩
        rw [walkB, if_neg (by omega), if_neg (by rw [q5]; exact hn), r1]
        exact t1
/-- The tree whose name is gone ahead of a move. -/
structure Gone (t x : TreeB) (d : Nat) (s : ByteArray) (T : Int) : Prop where
  fair : Fair x
  len : x.nodes.length = t.nodes.length
  ino : ∀ j, (nodeAt x j).ino = (nodeAt t j).ino
  kind : ∀ j, (nodeAt x j).kind = (nodeAt t j).kind
  free : s ∉ (nodeAt x d).names
  name : ∀ j q, ¬ (j = d ∧ q = s) → nameB (nodeAt t j) q ≠ 0 → nameB (nodeAt x j) q = nameB (nodeAt t j) q
  kids : ∀ i, i ≠ T → kidsB x i = kidsB t i
  few : (nodeAt x d).names.length ≤ (nodeAt t d).names.length
  same : ∀ j, j ≠ d → nodeAt x j = nodeAt t j
theorem gone_none {t : TreeB} (hG : Good t) {d : Nat} (hd : d < t.nodes.length) (hdk : (nodeAt t d).kind = 2) {s : ByteArray} (h : nameB (nodeAt t d) s = 0) : Gone t t d s 0 :=
  ⟨hG.e.fair, rfl, fun _ => rfl, fun _ => rfl, name_free hG.e hd hdk h, fun _ _ _ _ => rfl, fun _ _ => rfl, Nat.le_refl _, fun _ _ => rfl⟩
theorem gone_there {t : TreeB} (hG : Good t) {d : Nat} (hd : d < t.nodes.length) (hdk : (nodeAt t d).kind = 2) {s : ByteArray} {T : Int} (h : nameB (nodeAt t d) s = T) (hT : T ≠ 0) : Gone t (setB t d (withoutB (nodeAt t d) s)) d s T := by
  have ht := hG.e.fair
  have ok := ht.each _ (nodeAt_mem hd)
  have hat : ∀ j, nodeAt (setB t d (withoutB (nodeAt t d) s)) j = if j = d then withoutB (nodeAt t d) s else nodeAt t j := fun j => by
    by_cases e : j = d
    · subst e; rw [set_at hd, if_pos rfl]
    · rw [set_at_ne (fun x => e x.symm), if_neg e]
  refine ⟨fair_without ht hd hdk s, set_len _ _ _, fun j => ?_, fun j => ?_, ?_, fun j q hjq hn => ?_, fun i hi => ?_, ?_, fun j hj => by rw [hat, if_neg hj]⟩
  · rw [hat]; split
    · rename_i e; subst e; rfl
    · rfl
  · rw [hat]; split
    · rename_i e; subst e; rfl
    · rfl
  · rw [set_at hd]; exact without_not ok (.inr rfl)
  · rw [hat]; split
    · rename_i e; subst e
      exact without_name ok hdk (fun e => hjq ⟨rfl, e⟩) hn
    · rfl
  · have := kids_unname ht hd (s := s) (by rw [h]; exact hT) i
    rw [h, if_neg (fun e => hi e.symm)] at this
    omega
  · rw [set_at hd]; exact without_len s
/-- The names behind a move. -/
theorem moved_facts {t x : TreeB} (hG : Good t) {p d : Nat} (hp : p < t.nodes.length) (hd : d < t.nodes.length) (hpk : (nodeAt t p).kind = 2) (hdk : (nodeAt t d).kind = 2) {s old : ByteArray} {I T : Int}
    (hI : nameB (nodeAt t p) old = I) (hI0 : I ≠ 0) (ho : okB s = true ∧ s.size ≤ 12) (hne : ¬ (p = d ∧ old = s)) (hx : Gone t x d s T) :
    Fair (movedB x p old d s I) ∧ (movedB x p old d s I).nodes.length = t.nodes.length ∧ (∀ j, (nodeAt (movedB x p old d s I) j).ino = (nodeAt t j).ino ∧ (nodeAt (movedB x p old d s I) j).kind = (nodeAt t j).kind) ∧
    nameB (nodeAt (movedB x p old d s I) d) s = I ∧ nameB (nodeAt (movedB x p old d s I) p) old = 0 ∧ (∀ j q, ¬ (j = d ∧ q = s) → ¬ (j = p ∧ q = old) → nameB (nodeAt t j) q ≠ 0 → nameB (nodeAt (movedB x p old d s I) j) q = nameB (nodeAt t j) q) ∧ (∀ i, i ≠ T → kidsB (movedB x p old d s I) i = kidsB t i) ∧
    (∀ j, j ≠ p → j ≠ d → nodeAt (movedB x p old d s I) j = nodeAt x j) := by
  have hpx : p < x.nodes.length := by rw [hx.len]; exact hp
  have hdx : d < x.nodes.length := by rw [hx.len]; exact hd
  have hkp : (nodeAt x p).kind = 2 := by rw [hx.kind]; exact hpk
  have hIx : nameB (nodeAt x p) old = I := by rw [hx.name p old hne (by rw [hI]; exact hI0)]; exact hI
  have okp := hx.fair.each _ (nodeAt_mem hpx)
  obtain ⟨x1, hx1⟩ : ∃ z, z = setB x p (withoutB (nodeAt x p) old) := ⟨_, rfl⟩
  have f1 : Fair x1 := by rw [hx1]; exact fair_without hx.fair hpx hkp old
  have l1 : x1.nodes.length = t.nodes.length := by rw [hx1, set_len, hx.len]
  have hat1 : ∀ j, nodeAt x1 j = if j = p then withoutB (nodeAt x p) old else nodeAt x j := fun j => by
    rw [hx1]
    by_cases e : j = p
    · subst e; rw [set_at hpx, if_pos rfl]
    · rw [set_at_ne (fun x => e x.symm), if_neg e]
  have hi1 : ∀ j, (nodeAt x1 j).ino = (nodeAt t j).ino ∧ (nodeAt x1 j).kind = (nodeAt t j).kind := fun j => by
    rw [hat1]; split
    · rename_i e; subst e; exact ⟨hx.ino _, hx.kind _⟩
    · exact ⟨hx.ino _, hx.kind _⟩
  have hdx1 : d < x1.nodes.length := by rw [l1]; exact hd
  have hkd1 : (nodeAt x1 d).kind = 2 := by rw [(hi1 d).2]; exact hdk
  have hfree : s ∉ (nodeAt x1 d).names := by
    rw [hat1]; split
    · rename_i e; subst e; exact without_not okp (.inl hx.free)
    · exact hx.free
  have okd := f1.each _ (nodeAt_mem hdx1)
  have hold : old ∉ (nodeAt x1 p).names := by rw [hat1, if_pos rfl]; exact without_not okp (.inr rfl)
  have hname1 : ∀ j q, ¬ (j = d ∧ q = s) → ¬ (j = p ∧ q = old) → nameB (nodeAt t j) q ≠ 0 → nameB (nodeAt x1 j) q = nameB (nodeAt t j) q := fun j q h1 h2 hn => by
    have e1 := hx.name j q h1 hn
    rw [hat1]; split
    · rename_i e; subst e
      rw [without_name okp hkp (fun e => h2 ⟨rfl, e⟩) (by rw [e1]; exact hn), e1]
    · exact e1
  have hfew : (nodeAt x1 d).names.length < 10000 := by
    have h0 := small_names hG hd
    have h1 := hx.few
    rw [hat1]; split
    · rename_i e; subst e
      have := without_len (n := nodeAt x d) old
      omega
    · omega
  have hm : movedB x p old d s I = setB x1 d (withB (nodeAt x1 d) s I) := by rw [hx1]; rfl
  have hlead : I ≠ 1 ∧ ∃ m ∈ x1.nodes, m.ino = I := by
    obtain ⟨k', q1, q2, q3, q4⟩ := hG.e.fair.step hp (s := old) (by rw [hI]; exact hI0)
    rw [hI] at q3 q4
    refine ⟨q4, nodeAt x1 k', nodeAt_mem (by rw [l1]; exact q2), ?_⟩
    rw [(hi1 k').1, q3]
  have hat2 : ∀ j, nodeAt (movedB x p old d s I) j = if j = d then withB (nodeAt x1 d) s I else nodeAt x1 j := fun j => by
    rw [hm]
    by_cases e : j = d
    · subst e; rw [set_at hdx1, if_pos rfl]
    · rw [set_at_ne (fun x => e x.symm), if_neg e]
  refine ⟨?_, ?_, fun j => ?_, ?_, ?_, fun j q h1 h2 hn => ?_, fun i hi => ?_, fun j h1 h2 => ?_⟩
  · rw [hm]; exact fair_with f1 hdx1 hkd1 hfree ho hlead hfew
  · rw [hm, set_len, l1]
  · rw [hat2]; split
    · rename_i e; subst e; exact hi1 _
    · exact hi1 _
  · rw [hat2, if_pos rfl]; exact with_name_self okd hkd1 hfree ho I
  · rw [hat2]; split
    · rename_i e; subst e
      exact nameB_not (with_not hold (fun e => hne ⟨rfl, e⟩))
    · exact nameB_not hold
  · rw [hat2]; split
    · rename_i e; subst e
      rw [with_name_ne okd hkd1 hfree ho (fun e => h1 ⟨rfl, e⟩) I (by rw [hname1 _ _ h1 h2 hn]; exact hn)]
      exact hname1 _ _ h1 h2 hn
    · exact hname1 _ _ h1 h2 hn
  · rw [hm, kids_with hdx1 s I i]
    have := kids_unname hx.fair hpx (s := old) (by rw [hIx]; exact hI0) i
    rw [hIx, ← hx1] at this
    rw [← hx.kids i hi]
    exact this
  · rw [hat2, if_neg h2, hat1, if_neg h1]
/-- Who stays when what has no name is swept. -/
theorem swept_stays {t y : TreeB} (hG : Good t) (hy : Fair y) (hlen : y.nodes.length = t.nodes.length) (hino : ∀ j, (nodeAt y j).ino = (nodeAt t j).ino) {T : Int} (hk : ∀ i, i ≠ T → kidsB y i = kidsB t i) (hs : Fair (sweptB y)) {j : Nat} (hj : j < t.nodes.length) (hjT : (nodeAt t j).ino ≠ T) :
    ∃ j2, j2 < (sweptB y).nodes.length ∧ nodeAt (sweptB y) j2 = nodeAt y j := by
  have hjy : j < y.nodes.length := by omega
  have hm : nodeAt y j ∈ (sweptB y).nodes := by
    unfold sweptB
    refine List.mem_filter.2 ⟨nodeAt_mem hjy, decide_eq_true ?_⟩
    rw [hy.links (nodeAt_mem hjy)]
    unfold linksD
    split
    · omega
    · rename_i h1
      rw [hino j] at h1 ⊢
      rw [hk _ hjT]
      exact hG.2 _ (nodeAt_mem hj) h1
  exact place_of hs.rise hm
end Go.Proofs.YtbebgobboccjcaaGreatDoor
