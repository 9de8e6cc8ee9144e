/- Several texts in one: DLink DMath2 DRen DRen2 DRen3 DRen4 DReply DRen5. -/
import Derived.Test.YtchajlaflehodaaGreatDoorMDName
import Derived.Test.YtchajlaflehodaaGreatDoorMDUnname
import Derived.Test.YtchajlaflehodaaGreatDoorG3
import Derived.Test.YtchajlaflehodaaGreatDoorG1
/- link. -/
namespace Go.Proofs.YtchajlaflehodaaGreatDoor
open Go.RowKit Kit
set_option linter.unusedVariables false

theorem links_eq {t : TreeB} (h : Good t) {k : Nat} (hk : k < t.nodes.length) : linksD t (nodeAt t k).ino = linksB t (nodeAt t k).ino := by
  unfold linksD
  by_cases e : (nodeAt t k).ino = 1
  · rw [if_pos e, e, links_root h.e]
  · rw [if_neg e, links_kids h.e (nodeAt_mem hk) e]
set_option maxRecDepth 4000 in
set_option maxHeartbeats 8000000 in
theorem dlink_any (o : OpB) (w : World) (p b : Nat) (t : TreeB) (hT : DTree w p b t) (hG : Good t) (hs1 : o.path.size ≤ maxLen) (hs2 : o.to.size ≤ maxLen) :
    Calls Tryz.prog 44 #[.pointer (some ⟨p, 0, none⟩), .string o.path, .string o.to] w fun e w' => e = .returned (errV (linkB t o).2.2) ∧ DTree w' p b (linkB t o).1 ∧ Turn p b w w' := by
  have ht := hG.e.fair
  have HX : Hid (Calls Tryz.prog 66 _ _ _) := nparent_any o.to w hs2
  have HFi : Hid (∀ W, Below w.heap.size w W → _) := fun W hW => dfile_any o.path W p b t (hT.below hW) ht hs1
  have HFr : Hid (∀ W, Below w.heap.size w W → _) := fun W hW => dfree_any o.to W p b t (hT.below hW) ht hs2
  have HT : Hid (DTree w p b t ∧ Good t) := ⟨hT, hG⟩
  have HL : Hid (linkB t o = if (parentB o.to).2.2 ≠ 0 then (t, noReply, (parentB o.to).2.2) else match findB t o.path with
    | .error e => (t, noReply, e)
    | .ok k => if (nodeAt t k).kind = 2 then (t, noReply, 7) else match homeB t o.to with
      | .error e => (t, noReply, e)
      | .ok (d, s) => if nameB (nodeAt t d) s ≠ 0 then (t, noReply, 6) else if 20 ≤ linksB t (nodeAt t k).ino then (t, noReply, 16)
        else (setB t d (withB (nodeAt t d) s (nodeAt t k).ino), noReply, 0)) := rfl
  obtain ⟨⟨d0, q0, e0⟩, he⟩ : ∃ x, parentB o.to = x := ⟨_, rfl⟩
  rw [he] at HX HL
  simp only at HX HL
  obtain ⟨f, hf⟩ : ∃ f, findB t o.path = f := ⟨_, rfl⟩
  have HF0 : Hid (findB t o.path = f) := hf
  rw [hf] at HFi HL
  obtain ⟨h, hh⟩ : ∃ h, homeB t o.to = h := ⟨_, rfl⟩
  have HH0 : Hid (homeB t o.to = h) := hh
  rw [hh] at HFr HL
  obtain ⟨r, hr⟩ : ∃ r, linkB t o = r := ⟨_, rfl⟩
  rw [hr] at HL ⊢
  clear hs1 hs2 he hf hh hr hT hG ht
  by_cases hp0 : e0 = 0
  case neg =>
    have HR : Hid (r = (t, noReply, e0)) := by show _ = _; rw [HL.out, if_pos hp0]
    have HE : Hid (errV e0 = .iface 68 (.int .i64 e0)) := errV_ne hp0
    rw [errV_ne hp0] at HX
    clear HL hp0
    go_enter Tryz.func44, Tryz.ntmps44
    go_wp2_with fail
    go_at_call 66
    refine HX.out.mono ?_
    rintro e w1 ⟨rfl, hb1⟩
    have H1 : Hid (Below w.heap.size w w1) := hb1
    clear hb1 HX
    go_wp2
    go_ret
    rw [HR.out]
    exact ⟨by rw [HE.out]; rfl, HT.out.1.below H1.out, turn_below H1.out⟩
  subst hp0
  have e00 : errV 0 = .nilIface := rfl
  rw [e00] at HX
  have HL1 : Hid (r = match (generalizing := false) f with
    | .error e => (t, noReply, e)
    | .ok k => if (nodeAt t k).kind = 2 then (t, noReply, 7) else match (generalizing := false) h with
      | .error e => (t, noReply, e)
      | .ok (d, s) => if nameB (nodeAt t d) s ≠ 0 then (t, noReply, 6) else if 20 ≤ linksB t (nodeAt t k).ino then (t, noReply, 16)
        else (setB t d (withB (nodeAt t d) s (nodeAt t k).ino), noReply, 0)) := by show _ = _; rw [HL.out, if_neg (by simp)]
  clear HL
  -- what the file's finding says
  obtain ⟨q, hq⟩ : ∃ q, outFile t f = q := ⟨_, rfl⟩
  rw [hq] at HFi
  cases q with
  | error x =>
    have hx : x ≠ 0 := by
      cases f with
      | error y => simp only [outFile] at hq; injection hq with hq; rw [← hq]; exact find_code' HF0.out
      | ok k =>
        simp only [outFile] at hq
        split at hq
        · injection hq with hq; omega
        · cases hq
    have HR : Hid (r = (t, noReply, x)) := by
      show _ = _
      rw [HL1.out]
      cases f with
      | error y => simp only [outFile] at hq; injection hq with hq; rw [hq]
      | ok k =>
        simp only [outFile] at hq
        split at hq
        · rename_i h2; injection hq with hq; simp only; rw [if_pos h2, hq]
        · cases hq
    have HE : Hid (errV x = .iface 68 (.int .i64 x)) := errV_ne hx
    simp only [outW2] at HFi
    rw [errV_ne hx] at HFi
    clear HL1 hx hq e00
    go_enter Tryz.func44, Tryz.ntmps44
    go_wp2_with fail
    go_at_call 66
    refine HX.out.mono ?_
    rintro e w1 ⟨rfl, hb1⟩
    have H1 : Hid (Below w.heap.size w w1) := hb1
    clear hb1 HX
    go_wp2_with fail
    go_at_call 72
    refine (HFi.out w1 H1.out).mono ?_
    rintro e w2 ⟨rfl, hb2⟩
    have H2 : Hid (Below w.heap.size w w2) := bel2v H1.out hb2
    clear hb2 HFi H1
    go_wp2
    go_ret
    rw [HR.out]
    exact ⟨by rw [HE.out]; rfl, HT.out.1.below H2.out, turn_below H2.out⟩
  | ok k =>
    obtain ⟨hfk, hkk⟩ : f = .ok k ∧ (nodeAt t k).kind ≠ 2 := by
      cases f with
      | error y => simp only [outFile] at hq; cases hq
      | ok k' =>
        simp only [outFile] at hq
        split at hq
        · cases hq
        · rename_i h2; injection hq with hq; subst hq; exact ⟨rfl, h2⟩
    subst hfk
    have hk := find_lt HT.out.2.e.fair HF0.out
    have HL2 : Hid (r = match (generalizing := false) h with
      | .error e => (t, noReply, e)
      | .ok (d, s) => if nameB (nodeAt t d) s ≠ 0 then (t, noReply, 6) else if 20 ≤ linksB t (nodeAt t k).ino then (t, noReply, 16)
        else (setB t d (withB (nodeAt t d) s (nodeAt t k).ino), noReply, 0)) := by show _ = _; rw [HL1.out]; simp only; rw [if_neg hkk]
    clear HL1
    simp only [outW2] at HFi
    rw [e00] at HFi
    have hlk := links_eq HT.out.2 hk
    have HLN : Hid (∀ W, Below w.heap.size w W → _) := fun W hW => dlinks_any (nodeAt t k).ino W p b t (HT.out.1.below hW) HT.out.2.e.fair
    have HSM : Hid (linksD t (nodeAt t k).ino ≤ 610000) := by
      have := HT.out.2.e.fair.kids_small (nodeAt t k).ino
      show linksD _ _ ≤ _
      unfold linksD
      split <;> omega
    obtain ⟨L, hL⟩ : ∃ L, linksD t (nodeAt t k).ino = L := ⟨_, rfl⟩
    rw [hL] at HLN HSM
    rw [← hlk, hL] at HL2
    obtain ⟨q2, hq2⟩ : ∃ q, outF t h = q := ⟨_, rfl⟩
    rw [hq2] at HFr
    have Hino : Hid (∃ ii, (nodeAt t k).ino = ii) := ⟨_, rfl⟩
    cases q2 with
    | error x =>
      have hx : x ≠ 0 := by
        cases h with
        | error y => simp only [outF] at hq2; injection hq2 with hq2; rw [← hq2]; exact home_code' HH0.out
        | ok ds =>
          obtain ⟨d, s⟩ := ds
          simp only [outF] at hq2
          split at hq2
          · injection hq2 with hq2; omega
          · cases hq2
      have HR : Hid (r = (t, noReply, x)) := by
        show _ = _
        rw [HL2.out]
        cases h with
        | error y => simp only [outF] at hq2; injection hq2 with hq2; rw [hq2]
        | ok ds =>
          obtain ⟨d, s⟩ := ds
          simp only [outF] at hq2
          split at hq2
          · rename_i h2; injection hq2 with hq2; simp only; rw [if_pos h2, hq2]
          · cases hq2
      have HE : Hid (errV x = .iface 68 (.int .i64 x)) := errV_ne hx
      simp only [outP] at HFr
      rw [errV_ne hx] at HFr
      obtain ⟨ii, hii⟩ := Hino.out
      rw [hii] at HFi
      clear HL2 hx hq e00 hq2 hkk hlk hL HLN hii Hino
      go_enter Tryz.func44, Tryz.ntmps44
      go_wp2_with fail
      go_at_call 66
      refine HX.out.mono ?_
      rintro e w1 ⟨rfl, hb1⟩
      have H1 : Hid (Below w.heap.size w w1) := hb1
      clear hb1 HX
      go_wp2_with fail
      go_at_call 72
      refine (HFi.out w1 H1.out).mono ?_
      rintro e w2 ⟨rfl, hb2⟩
      have H2 : Hid (Below w.heap.size w w2) := bel2v H1.out hb2
      clear hb2 HFi H1
      go_wp2_with fail
      go_at_call 64
      refine (HFr.out w2 H2.out).mono ?_
      rintro e w3 ⟨rfl, hb3⟩
      have H3 : Hid (Below w.heap.size w w3) := bel2v H2.out hb3
      clear hb3 HFr H2
      go_wp2
      go_ret
      rw [HR.out]
      exact ⟨by rw [HE.out]; rfl, HT.out.1.below H3.out, turn_below H3.out⟩
    | ok ds =>
      obtain ⟨d, s⟩ := ds
      obtain ⟨hfk, hn0⟩ : h = .ok (d, s) ∧ nameB (nodeAt t d) s = 0 := by
        cases h with
        | error y => simp only [outF] at hq2; cases hq2
        | ok ds' =>
          obtain ⟨d', s'⟩ := ds'
          simp only [outF] at hq2
          split at hq2
          · cases hq2
          · rename_i h2
            injection hq2 with hq2
            injection hq2 with e1 e2
            subst e1 e2
            exact ⟨rfl, Decidable.byContradiction h2⟩
      subst hfk
      obtain ⟨hd, hdk, o1, o2, _⟩ := home_ok HT.out.2.e HH0.out
      have hfr := name_free HT.out.2.e hd hdk hn0
      have HL3 : Hid (r = if 20 ≤ L then (t, noReply, 16) else (setB t d (withB (nodeAt t d) s (nodeAt t k).ino), noReply, 0)) := by show _ = _; rw [HL2.out]; simp only; rw [if_neg (by simp [hn0])]
      clear HL2
      have HN : Hid (∀ W, Below w.heap.size w W → _) := fun W hW => dname_any s (nodeAt t k).ino W p b t d (HT.out.1.below hW) HT.out.2.e.fair hd hdk hfr o2
      simp only [outP] at HFr
      rw [e00] at HFr
      obtain ⟨ii, hii⟩ := Hino.out
      obtain ⟨jj, hjj⟩ : ∃ jj, (nodeAt t d).ino = jj := ⟨_, rfl⟩
      rw [hii] at HFi HLN HN HL3
      rw [hjj] at HFr HN
      clear hq e00 hq2 hkk hlk hL hii Hino hn0 hd hdk o1 o2 hfr hjj
      go_enter Tryz.func44, Tryz.ntmps44
      go_wp2_with fail
      go_at_call 66
      refine HX.out.mono ?_
      rintro e w1 ⟨rfl, hb1⟩
      have H1 : Hid (Below w.heap.size w w1) := hb1
      clear hb1 HX
      go_wp2_with fail
      go_at_call 72
      refine (HFi.out w1 H1.out).mono ?_
      rintro e w2 ⟨rfl, hb2⟩
      have H2 : Hid (Below w.heap.size w w2) := bel2v H1.out hb2
      clear hb2 HFi H1
      go_wp2_with fail
      go_at_call 64
      refine (HFr.out w2 H2.out).mono ?_
      rintro e w3 ⟨rfl, hb3⟩
      have H3 : Hid (Below w.heap.size w w3) := bel2v H2.out hb3
      clear hb3 HFr H2
      go_wp2_with fail
      go_at_call 18
      refine (HLN.out w3 H3.out).mono ?_
      rintro e w4 ⟨rfl, hb4⟩
      have H4 : Hid (Below w.heap.size w w4) := bel2v H3.out hb4
      clear hb4 HLN H3
      by_cases h20 : 20 ≤ L
      · have HR : Hid (r = (t, noReply, 16)) := by show _ = _; rw [HL3.out, if_pos h20]
        have h20i : (L : Int) ≥ 20 := by omega
        clear HL3 h20 HN
        go_wp2
        go_ret
        rw [HR.out]
        exact ⟨rfl, HT.out.1.below H4.out, turn_below H4.out⟩
      · have HR : Hid (r = (setB t d (withB (nodeAt t d) s ii), noReply, 0)) := by show _ = _; rw [HL3.out, if_neg h20]
        have h20i : ¬ (L : Int) ≥ 20 := by omega
        clear HL3 h20
        go_wp2_with fail
        go_at_call 65
        refine (HN.out w4 H4.out).mono ?_
        rintro e w5 ⟨rfl, hd5, ht5⟩
        have H5 : Hid (DTree w5 p b (setB t d (withB (nodeAt t d) s ii)) ∧ Turn p b w w5) := ⟨hd5, (turn_below H4.out).trans ht5⟩
        clear hd5 ht5 HN H4
        go_wp2
        go_ret
        rw [HR.out]
        exact ⟨rfl, H5.out⟩
end Go.Proofs.YtchajlaflehodaaGreatDoor
/- The program's ways of turning a tree are the document's. (No walk in it.) -/
namespace Go.Proofs.YtchajlaflehodaaGreatDoor
open Go.RowKit Kit
set_option linter.unusedVariables false

theorem Fair.links {x : TreeB} (h : Fair x) {n : NodeB} (hn : n ∈ x.nodes) : linksB x n.ino = linksD x n.ino := by
  unfold linksB linksD
  obtain ⟨k, hk⟩ := placeO_of hn
  rw [hk, if_neg (by simp)]
  by_cases e : n.ino = 1
  · rw [if_pos e, if_pos e]
  · rw [if_neg e, if_neg e]
    unfold kidsB
    congr 1
    apply List.map_congr_left
    intro m hm
    exact countB_eq (h.each m hm) _
/-- Which index a name has. -/
theorem name_index {n : NodeB} (ok : NodeOK n) {s : ByteArray} (h : nameB n s ≠ 0) : ∃ j, ∃ hj : j < n.names.length, n.names[j] = s ∧ n.inos[j]'(by rw [← ok.len]; exact hj) = nameB n s := by
  obtain ⟨_, i, hi, e1, e2⟩ := nameB_some ok.len h
  exact ⟨i, hi, e1, e2⟩
theorem kids_unname {t : TreeB} (h : Fair t) {d : Nat} (hd : d < t.nodes.length) {s : ByteArray} (hn : nameB (nodeAt t d) s ≠ 0) (i : Int) : kidsB (setB t d (withoutB (nodeAt t d) s)) i + (if nameB (nodeAt t d) s = i then 1 else 0) = kidsB t i := by
  have ok := h.each _ (nodeAt_mem hd)
  obtain ⟨j, hj, e1, e2⟩ := name_index ok hn
  have := kids_without hd ok hj i
  rw [e1, e2] at this
  exact this
/-- Taking a name away is taking it away and sweeping. -/
theorem unname_swept {t : TreeB} (h : Good t) {d : Nat} (hd : d < t.nodes.length) (hk : (nodeAt t d).kind = 2) {s : ByteArray} (hn : nameB (nodeAt t d) s ≠ 0) : unnameB t d s = sweptB (setB t d (withoutB (nodeAt t d) s)) := by
  have hf := h.e.fair
  have hx := fair_without hf hd hk s
  obtain ⟨k', p1, p2, p3, p4⟩ := hf.step hd hn
  have hkid := kids_unname hf hd hn
  unfold unnameB
  obtain ⟨c, hc⟩ : ∃ c, nameB (nodeAt t d) s = c := ⟨_, rfl⟩
  rw [hc] at hkid p4 ⊢
  obtain ⟨x, hxe⟩ : ∃ x, setB t d (withoutB (nodeAt t d) s) = x := ⟨_, rfl⟩
  have hnx : x.next = t.next := by rw [← hxe]; rfl
  have hin : ∀ n ∈ x.nodes, ∃ m ∈ t.nodes, m.ino = n.ino := fun n hn2 => by
    have : (∃ m ∈ x.nodes, m.ino = n.ino) := ⟨n, hn2, rfl⟩
    rw [← hxe] at this
    exact (set_has (n := withoutB (nodeAt t d) s) hd rfl n.ino).1 this
  rw [hxe] at hkid hx ⊢
  have hother : ∀ n ∈ x.nodes, n.ino ≠ c → 0 < linksB x n.ino := fun n hn2 hne => by
    rw [hx.links hn2]
    unfold linksD
    split
    · omega
    · rename_i h1
      obtain ⟨m, hm, e⟩ := hin n hn2
      have h2 := h.2 m hm (by rw [e]; exact h1)
      have h3 := hkid n.ino
      rw [if_neg (fun e => hne e.symm)] at h3
      rw [e] at h2
      omega
  have hcl : ∀ n ∈ x.nodes, n.ino = c → linksB x n.ino = linksD x c := fun n hn2 e => by rw [hx.links hn2, e]
  unfold sweptB
  by_cases h0 : linksD x c = 0
  · rw [if_pos h0]
    congr 1
    · apply List.filter_congr
      intro n hn2
      by_cases e : n.ino = c
      · rw [hcl n hn2 e, h0, e]; simp
      · have h1 := hother n hn2 e
        have h2 : (n.ino == c) = false := beq_eq_false_iff_ne.2 e
        rw [h2, decide_eq_true h1]; rfl
    · exact hnx.symm
  · rw [if_neg h0]
    have : x.nodes.filter (fun n => decide (0 < linksB x n.ino)) = x.nodes := by
      rw [List.filter_eq_self]
      intro n hn2
      apply decide_eq_true
      by_cases e : n.ino = c
      · rw [hcl n hn2 e]; omega
      · exact hother n hn2 e
    rw [this]
end Go.Proofs.YtchajlaflehodaaGreatDoor
/- rename: the program's way is the document's. (No walk in it.) -/
namespace Go.Proofs.YtchajlaflehodaaGreatDoor
open Go.RowKit Kit
set_option linter.unusedVariables false

/-- A node by its number. -/
def Has (t : TreeB) (n : NodeB) : Prop := n ∈ t.nodes
theorem with_name_ne {n : NodeB} (ok : NodeOK n) (hk : n.kind = 2) {s q : ByteArray} (hs : s ∉ n.names) (ho : okB s = true ∧ s.size ≤ 12) (hq : q ≠ s) (a : Int) (hn : nameB n q ≠ 0) : nameB (withB n s a) q = nameB n q := by
  have okw := with_ok ok hk hs ho a
  obtain ⟨j, hj, e1, e2⟩ := name_index ok hn
  have hmem : (q, nameB n q) ∈ pairsB n := by
    have hj2 : j < n.inos.length := by rw [← ok.len]; exact hj
    have hj3 : j < (pairsB n).length := by unfold pairsB; rw [List.length_zip]; omega
    have : (pairsB n)[j] = (q, nameB n q) := by simp [pairsB, e1, e2]
    rw [← this]; exact List.getElem_mem hj3
  have hmem2 : (q, nameB n q) ∈ pairsB (withB n s a) := by
    rw [pairs_with ok hs]
    rw [← List.take_append_drop (lowB n.names s) (pairsB n)] at hmem
    rcases List.mem_append.1 hmem with h | h
    · exact List.mem_append.2 (.inl h)
    · exact List.mem_append.2 (.inr (List.mem_cons_of_mem _ h))
  obtain ⟨i, hi, e⟩ := List.mem_iff_getElem.1 hmem2
  have hl := okw.len
  have hi2 : i < (withB n s a).names.length := by unfold pairsB at hi; rw [List.length_zip] at hi; omega
  have := nameB_at (n := withB n s a) hk hl okw.1 hi2
  have e3 : (withB n s a).names[i] = q ∧ (withB n s a).inos[i]'(by omega) = nameB n q := by
    have : (pairsB (withB n s a))[i] = ((withB n s a).names[i], (withB n s a).inos[i]'(by omega)) := by simp [pairsB]
    rw [this] at e
    injection e with h1 h2
    exact ⟨h1, h2⟩
  rw [e3.1, e3.2] at this
  exact this
theorem with_name_self {n : NodeB} (ok : NodeOK n) (hk : n.kind = 2) {s : ByteArray} (hs : s ∉ n.names) (ho : okB s = true ∧ s.size ≤ 12) (a : Int) : nameB (withB n s a) s = a := by
  have okw := with_ok ok hk hs ho a
  have hmem2 : (s, a) ∈ pairsB (withB n s a) := by rw [pairs_with ok hs]; simp
  obtain ⟨i, hi, e⟩ := List.mem_iff_getElem.1 hmem2
  have hl := okw.len
  have hi2 : i < (withB n s a).names.length := by unfold pairsB at hi; rw [List.length_zip] at hi; omega
  have := nameB_at (n := withB n s a) hk hl okw.1 hi2
  have e3 : (withB n s a).names[i] = s ∧ (withB n s a).inos[i]'(by omega) = a := by
    have : (pairsB (withB n s a))[i] = ((withB n s a).names[i], (withB n s a).inos[i]'(by omega)) := by simp [pairsB]
    rw [this] at e
    injection e with h1 h2
    exact ⟨h1, h2⟩
  rw [e3.1, e3.2] at this
  exact this
/-- A walk goes the same way in another tree, if all that it goes through is alike. -/
theorem walk_alike {t x : TreeB} (ht : Fair t) (hx : Fair x) (bad : Int)
    (h : ∀ k, k < t.nodes.length → (nodeAt t k).ino ≠ bad → ∃ k2, k2 < x.nodes.length ∧ (nodeAt x k2).ino = (nodeAt t k).ino ∧ (nodeAt x k2).kind = (nodeAt t k).kind ∧ ∀ q, nameB (nodeAt t k) q ≠ 0 → nameB (nodeAt t k) q ≠ bad → nameB (nodeAt x k2) q = nameB (nodeAt t k) q)
    (hbad : ∀ k, k < t.nodes.length → (nodeAt t k).ino = bad → ∀ q, nameB (nodeAt t k) q = 0) :
    ∀ (l : List ByteArray) (k k2 p : Nat), k < t.nodes.length → k2 < x.nodes.length → (nodeAt x k2).ino = (nodeAt t k).ino → (nodeAt t k).ino ≠ bad → walkB t k l = .ok p → (nodeAt t p).ino ≠ bad → ∃ p2, walkB x k2 l = .ok p2 ∧ p2 < x.nodes.length ∧ (nodeAt x p2).ino = (nodeAt t p).ino
  | [], k, k2, p, hk, hk2, e, hb, hw, hp => by
    rw [walkB] at hw
    injection hw with hw
    subst hw
    exact ⟨k2, rfl, hk2, e⟩
  | s :: r, k, k2, p, hk, hk2, e, hb, hw, hp => by
    rw [walkB] at hw
    split at hw
    · cases hw
    · rename_i hkd
      split at hw
      · cases hw
      · rename_i hn
        obtain ⟨k', p1, p2, p3, p4⟩ := ht.step hk hn
        rw [p1] at hw
        simp only [Option.getD_some] at hw
        have hnb : nameB (nodeAt t k) s ≠ bad := fun e2 => by
          rw [← p3] at e2
          -- the walk goes on from a node without names, or ends there
          cases r with
          | nil =>
            rw [walkB] at hw
            injection hw with hw
            subst hw
            exact hp e2
          | cons s2 r2 =>
            rw [walkB] at hw
            split at hw
            · cases hw
            · rw [if_pos (hbad k' p2 e2 s2)] at hw
              cases hw
        obtain ⟨m2, q1, q2, q3, q4⟩ := h k hk hb
        have em : m2 = k2 := rises_inj hx.rise q1 hk2 (q2.trans e.symm)
        subst em
        have q5 := q4 s hn hnb
        obtain ⟨x', r1, r2', r3, _⟩ := hx.step hk2 (s := s) (by rw [q5]; exact hn)
        have hb2 : (nodeAt t k').ino ≠ bad := by rw [p3]; exact hnb
        obtain ⟨pp, t1, t2, t3⟩ := walk_alike ht hx bad h hbad r k' x' p p2 r2' (by rw [r3, p3, q5]) hb2 hw hp
        refine ⟨pp, ?_, t2, t3⟩
        rw [walkB, if_neg (by rw [q3]; exact hkd), if_neg (by rw [q5]; exact hn), r1]
        exact t1
end Go.Proofs.YtchajlaflehodaaGreatDoor
/- rename: what the program makes of a tree is what the document does. (No walk in it.) -/
namespace Go.Proofs.YtchajlaflehodaaGreatDoor
open Go.RowKit Kit
set_option linter.unusedVariables false

def atI (i : Int) (g : NodeB → NodeB) (n : NodeB) : NodeB := if n.ino = i then g n else n
theorem atI_ino {i : Int} {g : NodeB → NodeB} (hg : ∀ n, (g n).ino = n.ino) (n : NodeB) : (atI i g n).ino = n.ino := by
  unfold atI
  split
  · exact hg n
  · rfl
theorem set_map_list (g : NodeB → NodeB) : ∀ (l : List NodeB) (d : Nat) (hd : d < l.length), l.Pairwise (fun a b => a.ino < b.ino) → l.set d (g l[d]) = l.map (atI l[d].ino g)
  | a :: r, 0, _, h => by
    obtain ⟨h1, h2⟩ := List.pairwise_cons.1 h
    simp only [List.getElem_cons_zero, List.set_cons_zero, List.map_cons]
    have e1 : atI a.ino g a = g a := by unfold atI; rw [if_pos rfl]
    have e2 : r.map (atI a.ino g) = r := by
      rw [List.map_congr_left (g := id) (fun n hn => by
        have := h1 n hn
        unfold atI
        rw [if_neg (by omega)]; rfl), List.map_id]
    rw [e1, e2]
  | a :: r, d + 1, hd, h => by
    obtain ⟨h1, h2⟩ := List.pairwise_cons.1 h
    have hd2 : d < r.length := by simpa using hd
    have := h1 r[d] (List.getElem_mem hd2)
    simp only [List.getElem_cons_succ, List.set_cons_succ, List.map_cons]
    have e1 : atI r[d].ino g a = a := by unfold atI; rw [if_neg (by omega)]
    rw [e1, set_map_list g r d hd2 h2]
theorem set_map {t : TreeB} (h : Rises t) {d : Nat} (hd : d < t.nodes.length) (g : NodeB → NodeB) : setB t d (g (nodeAt t d)) = ⟨t.nodes.map (atI (nodeAt t d).ino g), t.next⟩ := by
  have := set_map_list g t.nodes d hd h
  rw [nodeAt_eq t d hd]
  unfold setB
  rw [this]
theorem filter_map_ino {l : List NodeB} {f : NodeB → NodeB} (hf : ∀ n, (f n).ino = n.ino) (keep : Int → Bool) : (l.map f).filter (fun n => keep n.ino) = (l.filter (fun n => keep n.ino)).map f := by
  rw [List.filter_map]
  congr 1
  apply List.filter_congr
  intro n _
  simp only [Function.comp]
  rw [hf n]
theorem with_ino (s : ByteArray) (i : Int) : ∀ n, (withB n s i).ino = n.ino := fun _ => rfl
theorem without_ino (s : ByteArray) : ∀ n, (withoutB n s).ino = n.ino := fun _ => rfl
theorem pairs_filter (n : NodeB) (s : ByteArray) : pairsB (withoutB n s) = (pairsB n).filter fun p => decide (p.1 ≠ s) := by
  have : ∀ l : List (ByteArray × Int), (l.map Prod.fst).zip (l.map Prod.snd) = l := fun l => by
    induction l with
    | nil => rfl
    | cons a r ih => simp only [List.map_cons, List.zip_cons_cons, ih]
  unfold withoutB
  rw [pairsB]
  simp only
  rw [this]
theorem pairs_rise {n : NodeB} (ok : NodeOK n) : (pairsB n).Pairwise fun a b => less a.1 b.1 := by
  have e : (pairsB n).map Prod.fst = n.names := List.map_fst_zip (by have := ok.len; omega)
  have := ok.1
  unfold Rising at this
  rw [← e, List.pairwise_map] at this
  exact this
/-- A name more and another one less, in whatever order. -/
theorem with_without {m : NodeB} (ok : NodeOK m) (hk : m.kind = 2) {s old : ByteArray} (hs : s ∉ m.names) (ho : okB s = true ∧ s.size ≤ 12) (hold : old ∈ m.names) (i : Int) : withoutB (withB m s i) old = withB (withoutB m old) s i := by
  have hne : s ≠ old := fun e => hs (e ▸ hold)
  have ok1 := with_ok ok hk hs ho i
  have ok2 := without_ok ok hk old
  have hs2 : s ∉ (withoutB m old).names := by
    rw [show (withoutB m old).names = m.names.filter (fun q => decide (q ≠ old)) from names_without_keep m.names m.inos old ok.len]
    intro h
    exact hs (List.mem_filter.1 h).1
  have okA := without_ok ok1 hk old
  have okB2 := with_ok ok2 hk hs2 ho i
  -- both hold the same names with the same numbers
  have hA : (pairsB (withoutB (withB m s i) old)).Perm (pairsB (withB (withoutB m old) s i)) := by
    have e1 : pairsB (withoutB (withB m s i) old) = (pairsB (withB m s i)).filter fun p => decide (p.1 ≠ old) := pairs_filter _ _
    have e2 : pairsB (withoutB m old) = (pairsB m).filter fun p => decide (p.1 ≠ old) := pairs_filter _ _
    rw [e1, pairs_with ok hs, pairs_with ok2 hs2, e2, List.filter_append, List.filter_cons, if_pos (decide_eq_true hne)]
    refine List.perm_middle.trans (List.Perm.trans ?_ List.perm_middle.symm)
    apply List.Perm.cons
    rw [← List.filter_append, List.take_append_drop, List.take_append_drop]
  have hp : pairsB (withoutB (withB m s i) old) = pairsB (withB (withoutB m old) s i) := by
    refine hA.eq_of_pairwise (le := fun a b => less a.1 b.1) ?_ ?_ ?_
    · intro a b _ _ h1 h2
      exact absurd (less_trans h1 h2) (less_irrefl _)
    · exact pairs_rise okA
    · exact pairs_rise okB2
  have l1 := okA.len
  have l2 := okB2.len
  have n1 : (withoutB (withB m s i) old).names = (withB (withoutB m old) s i).names := by
    rw [← List.map_fst_zip (l₁ := (withoutB (withB m s i) old).names) (l₂ := (withoutB (withB m s i) old).inos) (by omega), ← List.map_fst_zip (l₁ := (withB (withoutB m old) s i).names) (l₂ := (withB (withoutB m old) s i).inos) (by omega)]
    exact congrArg (List.map Prod.fst) hp
  have n2 : (withoutB (withB m s i) old).inos = (withB (withoutB m old) s i).inos := by
    rw [← List.map_snd_zip (l₁ := (withoutB (withB m s i) old).names) (l₂ := (withoutB (withB m s i) old).inos) (by omega), ← List.map_snd_zip (l₁ := (withB (withoutB m old) s i).names) (l₂ := (withB (withoutB m old) s i).inos) (by omega)]
    exact congrArg (List.map Prod.snd) hp
  have : ∀ a b : NodeB, a.ino = b.ino → a.kind = b.kind → a.data = b.data → a.names = b.names → a.inos = b.inos → a = b := by
    intro a b h1 h2 h3 h4 h5
    cases a; cases b
    simp only at h1 h2 h3 h4 h5
    subst h1 h2 h3 h4 h5
    rfl
  exact this _ _ rfl rfl rfl n1 n2
theorem fair_filter {x : TreeB} (h : Fair x) (keep : Int → Bool) (h1 : keep 1 = true) (h2 : ∀ n ∈ x.nodes, ∀ i ∈ n.inos, keep i = true) : Fair ⟨x.nodes.filter (fun n => keep n.ino), x.next⟩ := by
  obtain ⟨r, l, e, e1, e2⟩ := h.root
  refine ⟨⟨r, l.filter (fun n => keep n.ino), ?_, e1, e2⟩, Nat.le_trans (List.length_filter_le _ _) h.size, h.next, h.rise.filter _, fun n hn => h.below n (List.mem_filter.1 hn).1, fun n hn => h.each n (List.mem_filter.1 hn).1, fun n hn i hi => ?_, fun n hn => h.names n (List.mem_filter.1 hn).1⟩
  · simp only
    rw [e, List.filter_cons, if_pos (by rw [e1]; exact h1)]
  · have hn2 := (List.mem_filter.1 hn).1
    obtain ⟨k1, m, hm, k2⟩ := h.leads n hn2 i hi
    exact ⟨k1, m, List.mem_filter.2 ⟨hm, by rw [k2]; exact h2 n hn2 i hi⟩, k2⟩
theorem fair_with {t : TreeB} (h : Fair t) {d : Nat} (hd : d < t.nodes.length) (hk : (nodeAt t d).kind = 2) {s : ByteArray} (hs : s ∉ (nodeAt t d).names) (ho : okB s = true ∧ s.size ≤ 12) {i : Int} (hi : i ≠ 1 ∧ ∃ m ∈ t.nodes, m.ino = i) (hn : (nodeAt t d).names.length < 10000) : Fair (setB t d (withB (nodeAt t d) s i)) := by
  have ok := h.each _ (nodeAt_mem hd)
  refine fair_set h hd rfl rfl (with_ok ok hk hs ho i) (fun j hj => ?_) ?_
  · rcases with_sub hj with e | e
    · subst e; exact hi
    · exact h.leads _ (nodeAt_mem hd) j e
  · unfold withB
    simp only [List.length_append, List.length_cons, List.length_take, List.length_drop]
    omega
theorem place_of {x : TreeB} (h : Rises x) {n : NodeB} (hn : n ∈ x.nodes) : ∃ k, k < x.nodes.length ∧ nodeAt x k = n := by
  obtain ⟨k, hk, e⟩ := List.mem_iff_getElem.1 hn
  exact ⟨k, hk, by rw [nodeAt_eq x k hk]; exact e⟩
end Go.Proofs.YtchajlaflehodaaGreatDoor
/- rename: the heart. (No walk in it.) -/
namespace Go.Proofs.YtchajlaflehodaaGreatDoor
open Go.RowKit Kit
set_option linter.unusedVariables false

theorem kids_with {t : TreeB} {d : Nat} (hd : d < t.nodes.length) (s : ByteArray) (i j : Int) : kidsB (setB t d (withB (nodeAt t d) s i)) j = kidsB t j + if i = j then 1 else 0 := by
  have h1 := kids_set t d (withB (nodeAt t d) s i) hd j
  rw [count_with] at h1
  omega
theorem ren_core {X : TreeB} (hX : Fair X) {p0 d : Nat} (hp : p0 < X.nodes.length) (hd : d < X.nodes.length) (hpk : (nodeAt X p0).kind = 2) (hdk : (nodeAt X d).kind = 2) {s old : ByteArray} {I : Int} (hs : s ∉ (nodeAt X d).names) (ho : okB s = true ∧ s.size ≤ 12)
    (hI : nameB (nodeAt X p0) old = I) (hI0 : I ≠ 0) (hnl : (nodeAt X d).names.length < 10000) (keep : Int → Bool) (hkeep : ∀ n ∈ X.nodes, keep n.ino = decide (0 < linksD X n.ino))
    {x1 x2 : TreeB} (hx1 : x1 = ⟨X.nodes.filter (fun n => keep n.ino), X.next⟩) (hf1 : Fair x1) {d1 : Nat} (hd1 : d1 < x1.nodes.length) (hde : nodeAt x1 d1 = nodeAt X d)
    (hx2 : x2 = setB x1 d1 (withB (nodeAt x1 d1) s I)) (hf2 : Fair x2) {p2 : Nat} (hp2 : p2 < x2.nodes.length) (hpe : (nodeAt x2 p2).ino = (nodeAt X p0).ino) :
    old ∈ (nodeAt x2 p2).names ∧ unnameB x2 p2 old = sweptB (movedB X p0 old d s I) := by
  have okp := hX.each _ (nodeAt_mem hp)
  have okd := hX.each _ (nodeAt_mem hd)
  have holdm : old ∈ (nodeAt X p0).names := has_iff.1 ((has_name okp (hX.nz (nodeAt_mem hp)) old).2 (by rw [hI]; exact hI0))
  obtain ⟨kI, i1, i2, i3, i4⟩ := hX.step hp (s := old) (by rw [hI]; exact hI0)
  rw [hI] at i3 i4
  -- the maps
  obtain ⟨D, hD⟩ : ∃ D, (nodeAt X d).ino = D := ⟨_, rfl⟩
  obtain ⟨P, hP⟩ : ∃ P, (nodeAt X p0).ino = P := ⟨_, rfl⟩
  have hx2n : x2 = ⟨x1.nodes.map (atI D fun n => withB n s I), x1.next⟩ := by
    rw [hx2, set_map hf1.rise hd1 (fun n => withB n s I), hde, hD]
  have hsub : ∀ n ∈ x1.nodes, n ∈ X.nodes := fun n hn => by rw [hx1] at hn; exact (List.mem_filter.1 hn).1
  have hdm : nodeAt X d ∈ x1.nodes := by rw [← hde]; exact nodeAt_mem hd1
  -- who stands at the old place
  have hpn : nodeAt x2 p2 = atI D (fun n => withB n s I) (nodeAt X p0) := by
    have hm := nodeAt_mem hp2
    rw [hx2n] at hm
    obtain ⟨m, hm1, hm2⟩ := List.mem_map.1 hm
    rw [← hx2n] at hm2
    have hmi : m.ino = (nodeAt X p0).ino := by rw [← hpe, ← hm2, atI_ino (with_ino s I)]
    rw [← hm2, rises_eq hX.rise (hsub m hm1) (nodeAt_mem hp) hmi]
  have hpd : P = D → p0 = d := fun e => rises_inj hX.rise hp hd (by rw [hP, hD, e])
  have hne : s ≠ old ∨ P ≠ D := by
    by_cases e : P = D
    · left
      intro e2
      have := hpd e
      subst this
      exact hs (e2 ▸ holdm)
    · exact .inr e
  have hnm2 : nameB (nodeAt x2 p2) old = I := by
    rw [hpn]
    unfold atI
    split
    · rename_i e
      have e3 : P = D := by rw [← hP]; exact e
      have e2 := hpd e3
      subst e2
      rw [with_name_ne okd hdk hs ho (fun e4 => hs (e4 ▸ holdm)) I (by rw [hI]; exact hI0), hI]
    · exact hI
  have ok2 := hf2.each _ (nodeAt_mem hp2)
  refine ⟨has_iff.1 ((has_name ok2 (hf2.nz (nodeAt_mem hp2)) old).2 (by rw [hnm2]; exact hI0)), ?_⟩
  have hx3 : setB x2 p2 (withoutB (nodeAt x2 p2) old) = ⟨x2.nodes.map (atI P fun n => withoutB n old), x2.next⟩ := by
    rw [set_map hf2.rise hp2 (fun n => withoutB n old), hpe, hP]
  -- one element
  have hcomm : ∀ n ∈ x1.nodes, atI P (fun n => withoutB n old) (atI D (fun n => withB n s I) n) = atI D (fun n => withB n s I) (atI P (fun n => withoutB n old) n) := by
    intro n hn
    unfold atI
    by_cases a : n.ino = D
    · by_cases c : n.ino = P
      · have e2 : P = D := c.symm.trans a
        have e3 := hpd e2
        have e4 : n = nodeAt X d := rises_eq hX.rise (hsub n hn) (nodeAt_mem hd) (by rw [hD]; exact a)
        simp only [if_pos a, if_pos c, with_ino, without_ino]
        subst e4
        subst e3
        exact with_without okd hdk hs ho holdm I
      · simp only [if_pos a, if_neg c, with_ino]
    · by_cases c : n.ino = P
      · simp only [if_neg a, if_pos c, without_ino]
      · simp only [if_neg a, if_neg c]
  -- the number still has a name
  have hlk : linksD (setB x2 p2 (withoutB (nodeAt x2 p2) old)) I ≠ 0 := by
    unfold linksD
    rw [if_neg i4]
    have : 0 < kidsB (setB x2 p2 (withoutB (nodeAt x2 p2) old)) I := by
      rw [kids_pos, hx3, hx2n]
      simp only
      refine ⟨_, List.mem_map.2 ⟨_, List.mem_map.2 ⟨nodeAt X d, hdm, rfl⟩, rfl⟩, ?_⟩
      rw [hcomm _ hdm]
      have e5 : (atI P (fun n => withoutB n old) (nodeAt X d)).ino = D := by rw [atI_ino (without_ino old), hD]
      unfold atI at e5 ⊢
      rw [if_pos e5]
      unfold withB
      simp
    omega
  have hleft : unnameB x2 p2 old = ⟨(x1.nodes.map (atI P fun n => withoutB n old)).map (atI D fun n => withB n s I), X.next⟩ := by
    unfold unnameB
    rw [hnm2, if_neg hlk, hx3, hx2n]
    have hnx : x1.next = X.next := by rw [hx1]
    simp only
    rw [hnx, List.map_map, List.map_map]
    congr 1
    apply List.map_congr_left
    intro n hn
    exact hcomm n hn
  -- the document's tree
  have hfX1 := fair_without hX hp hpk old
  obtain ⟨X1, hX1⟩ : ∃ z, setB X p0 (withoutB (nodeAt X p0) old) = z := ⟨_, rfl⟩
  have hX1n : X1 = ⟨X.nodes.map (atI P fun n => withoutB n old), X.next⟩ := by rw [← hX1, set_map hX.rise hp (fun n => withoutB n old), hP]
  rw [hX1] at hfX1
  have hd2 : d < X1.nodes.length := by rw [hX1n]; simpa using hd
  have hXd : nodeAt X1 d = atI P (fun n => withoutB n old) (nodeAt X d) := by
    rw [nodeAt_eq X1 d hd2, nodeAt_eq X d hd]
    simp only [hX1n, List.getElem_map]
  have hXdi : (nodeAt X1 d).ino = D := by rw [hXd, atI_ino (without_ino old), hD]
  have hXdk : (nodeAt X1 d).kind = 2 := by
    rw [hXd]
    unfold atI
    split
    · exact hdk
    · exact hdk
  have hXds : s ∉ (nodeAt X1 d).names := by
    rw [hXd]
    unfold atI
    split
    · rw [show (withoutB (nodeAt X d) old).names = (nodeAt X d).names.filter (fun q => decide (q ≠ old)) from names_without_keep _ _ old okd.len]
      exact fun h => hs (List.mem_filter.1 h).1
    · exact hs
  have hXdl : (nodeAt X1 d).names.length < 10000 := by
    rw [hXd]
    unfold atI
    split
    · exact Nat.lt_of_le_of_lt (without_len old) hnl
    · exact hnl
  have hmem : ∀ i, (∃ m ∈ X.nodes, m.ino = i) → ∃ m ∈ X1.nodes, m.ino = i := fun i ⟨m, hm, e⟩ => by
    rw [hX1n]
    exact ⟨_, List.mem_map.2 ⟨m, hm, rfl⟩, by rw [atI_ino (without_ino old)]; exact e⟩
  have hIx : ∃ m ∈ X.nodes, m.ino = I := ⟨nodeAt X kI, nodeAt_mem i2, i3⟩
  have hY : movedB X p0 old d s I = setB X1 d (withB (nodeAt X1 d) s I) := by unfold movedB; rw [hX1]
  have hfY := fair_with hfX1 hd2 hXdk hXds ho ⟨i4, hmem I hIx⟩ hXdl
  have hYn : setB X1 d (withB (nodeAt X1 d) s I) = ⟨(X.nodes.map (atI P fun n => withoutB n old)).map (atI D fun n => withB n s I), X.next⟩ := by
    rw [set_map hfX1.rise hd2 (fun n => withB n s I), hXdi, hX1n]
  have hlY : ∀ i, linksD (setB X1 d (withB (nodeAt X1 d) s I)) i = linksD X i := fun i => by
    unfold linksD
    split
    · rfl
    · rw [kids_with hd2 s I i]
      have := kids_unname hX hp (s := old) (by rw [hI]; exact hI0) i
      rw [hI, hX1] at this
      exact this
  rw [hleft, hY]
  unfold sweptB
  have hflt : (setB X1 d (withB (nodeAt X1 d) s I)).nodes.filter (fun n => decide (0 < linksB (setB X1 d (withB (nodeAt X1 d) s I)) n.ino)) = (setB X1 d (withB (nodeAt X1 d) s I)).nodes.filter (fun n => keep n.ino) := by
    apply List.filter_congr
    intro n hn
    rw [hfY.links hn, hlY]
    rw [hYn] at hn
    obtain ⟨m1, hm1, e1⟩ := List.mem_map.1 hn
    obtain ⟨m2, hm2, e2⟩ := List.mem_map.1 hm1
    have : n.ino = m2.ino := by rw [← e1, atI_ino (with_ino s I), ← e2, atI_ino (without_ino old)]
    rw [this, hkeep m2 hm2]
  rw [hflt, hYn]
  simp only
  rw [filter_map_ino (atI_ino (with_ino s I)) keep, filter_map_ino (atI_ino (without_ino old)) keep]
  have : x1.nodes = X.nodes.filter (fun n => keep n.ino) := by rw [hx1]
  rw [this]
end Go.Proofs.YtchajlaflehodaaGreatDoor
/- rename: where the program finds its ways again. (No walk in it.) -/
namespace Go.Proofs.YtchajlaflehodaaGreatDoor
open Go.RowKit Kit
set_option linter.unusedVariables false

theorem home_walk {y : TreeB} (hy : Fair y) {path : ByteArray} {l : List ByteArray} {old : ByteArray} (hp : (parentB path).2.2 = 0) (hl : (splitB path).1 = l ++ [old]) {p2 : Nat} (hw : walkB y 0 l = .ok p2) (hk : (nodeAt y p2).kind = 2) : homeB y path = .ok (p2, old) := by
  obtain ⟨_, l', s', h1, h2, h3, _⟩ := parent_ok hp
  have e := hl.symm.trans h1
  obtain ⟨e1, e2⟩ := List.append_inj' e rfl
  injection e2 with e2 _
  subst e1 e2
  unfold homeB
  rw [if_neg (by simp [hp])]
  have hf : findB y (parentB path).1 = .ok p2 := by
    rw [h2]
    unfold findB
    simp only
    rw [h3, hy.rootP]
    simp only [ne_eq, not_true_eq_false, if_false]
    exact hw
  rw [hf]
  simp only
  rw [if_neg (by omega), h2]
/-- What the program does when it moves a name: t with the other name gone is X; swept it is x1. -/
theorem ren_any {t X : TreeB} (hG : Good t) {p0 d k : Nat} (hp : p0 < t.nodes.length) (hd : d < t.nodes.length) (hpk : (nodeAt t p0).kind = 2) (hdk : (nodeAt t d).kind = 2) {path s old : ByteArray} {l : List ByteArray}
    (hpar : (parentB path).2.2 = 0) (hl : (splitB path).1 = l ++ [old]) (hw : walkB t 0 l = .ok p0) {I T : Int} (hI : nameB (nodeAt t p0) old = I) (hI0 : I ≠ 0) (ho : okB s = true ∧ s.size ≤ 12)
    (hTs : nameB (nodeAt t d) s = T) (hIT : I ≠ T) (hT1 : T ≠ 1) (hTn : ∀ n ∈ t.nodes, n.ino = T → ∀ q, nameB n q = 0) (f : NodeB → NodeB) (hfi : ∀ n, (f n).ino = n.ino) (hfk : ∀ n, (f n).kind = n.kind)
    (hfn : ∀ q, q ≠ s → nameB (nodeAt t d) q ≠ 0 → nameB (f (nodeAt t d)) q = nameB (nodeAt t d) q) (hfs : s ∉ (f (nodeAt t d)).names) (hfl : (f (nodeAt t d)).names.length < 10000)
    (hX : X = setB t d (f (nodeAt t d))) (hfX : Fair X) (hkids : ∀ i, i ≠ T → kidsB X i = kidsB t i) :
    ∃ x1 d1 p2, sweptB X = x1 ∧ Fair x1 ∧ d1 < x1.nodes.length ∧ (nodeAt x1 d1).ino = (nodeAt t d).ino ∧ (nodeAt x1 d1).kind = 2 ∧ s ∉ (nodeAt x1 d1).names ∧ Fair (setB x1 d1 (withB (nodeAt x1 d1) s I)) ∧
      homeB (setB x1 d1 (withB (nodeAt x1 d1) s I)) path = .ok (p2, old) ∧ old ∈ (nodeAt (setB x1 d1 (withB (nodeAt x1 d1) s I)) p2).names ∧ unnameB (setB x1 d1 (withB (nodeAt x1 d1) s I)) p2 old = sweptB (movedB X p0 old d s I) := by
  have hg := hG.e
  have ht := hg.fair
  obtain ⟨D, hD⟩ : ∃ D, (nodeAt t d).ino = D := ⟨_, rfl⟩
  have hXn : X = ⟨t.nodes.map (atI D f), t.next⟩ := by rw [hX, set_map ht.rise hd f, hD]
  have hlen : X.nodes.length = t.nodes.length := by rw [hXn]; simp
  have hXat : ∀ j, j < t.nodes.length → nodeAt X j = atI D f (nodeAt t j) := fun j hj => by
    rw [nodeAt_eq X j (by omega), nodeAt_eq t j hj]
    simp only [hXn, List.getElem_map]
  have hXd : nodeAt X d = f (nodeAt t d) := by rw [hXat d hd]; unfold atI; rw [if_pos hD]
  have hPT : (nodeAt t p0).ino ≠ T := fun e => by have := hTn _ (nodeAt_mem hp) e old; rw [hI] at this; exact hI0 this
  have hosne : p0 = d → old ≠ s := fun e e2 => by subst e; subst e2; exact hIT (hI.symm.trans hTs)
  have hXp : nameB (nodeAt X p0) old = I := by
    rw [hXat p0 hp]
    unfold atI
    split
    · rename_i e
      have e2 : p0 = d := rises_inj ht.rise hp hd (by rw [e, hD])
      subst e2
      rw [hfn old (hosne rfl) (by rw [hI]; exact hI0), hI]
    · exact hI
  obtain ⟨kI, i1, i2, i3, i4⟩ := ht.step hp (s := old) (by rw [hI]; exact hI0)
  rw [hI] at i3 i4
  -- who stays
  have hkeep1 : ∀ n ∈ t.nodes, n.ino ≠ T → 0 < linksD X n.ino := fun n hn hne => by
    unfold linksD
    split
    · omega
    · rename_i h1
      rw [hkids _ hne]
      exact hG.2 n hn h1
  have hDT : D ≠ T ∨ D = 1 := by
    by_cases e : D = T
    · right
      apply Classical.byContradiction
      intro h1
      -- a directory that is T has no name s, so T is 0
      have h2 := hTn _ (nodeAt_mem hd) (by rw [hD]; exact e) s
      rw [hTs] at h2
      have h3 := ht.pos _ (nodeAt_mem hd)
      rw [hD, e, h2] at h3
      omega
    · exact .inl e
  have hDk : 0 < linksD X D := by
    rcases hDT with h | h
    · have := hkeep1 _ (nodeAt_mem hd) (by rw [hD]; exact h)
      rw [hD] at this
      exact this
    · rw [h]; unfold linksD; rw [if_pos rfl]; omega
  obtain ⟨x1, hx1⟩ : ∃ x1, sweptB X = x1 := ⟨_, rfl⟩
  have hx1n : x1 = ⟨X.nodes.filter (fun n => decide (0 < linksD X n.ino)), X.next⟩ := by
    rw [← hx1]
    unfold sweptB
    congr 1
    apply List.filter_congr
    intro n hn
    rw [hfX.links hn]
  have hf1 : Fair x1 := by
    rw [hx1n]
    refine fair_filter hfX (fun i => decide (0 < linksD X i)) (by unfold linksD; simp) (fun n hn i hi => ?_)
    apply decide_eq_true
    unfold linksD
    split
    · omega
    · exact kids_pos.2 ⟨n, hn, hi⟩
  have hdm : nodeAt X d ∈ x1.nodes := by
    rw [hx1n]
    refine List.mem_filter.2 ⟨nodeAt_mem (by omega), decide_eq_true ?_⟩
    rw [hXd, hfi, hD]; exact hDk
  obtain ⟨d1, hd1, hde⟩ := place_of hf1.rise hdm
  have hd1i : (nodeAt x1 d1).ino = D := by rw [hde, hXd, hfi, hD]
  have hd1k : (nodeAt x1 d1).kind = 2 := by rw [hde, hXd, hfk]; exact hdk
  have hd1s : s ∉ (nodeAt x1 d1).names := by rw [hde, hXd]; exact hfs
  have hd1l : (nodeAt x1 d1).names.length < 10000 := by rw [hde, hXd]; exact hfl
  have hin1 : ∀ n ∈ t.nodes, n.ino ≠ T → atI D f n ∈ x1.nodes := fun n hn hne => by
    rw [hx1n]
    refine List.mem_filter.2 ⟨by rw [hXn]; exact List.mem_map.2 ⟨n, hn, rfl⟩, decide_eq_true ?_⟩
    rw [atI_ino hfi]; exact hkeep1 n hn hne
  have hI1 : ∃ m ∈ x1.nodes, m.ino = I := ⟨_, hin1 _ (nodeAt_mem i2) (by rw [i3]; exact hIT), by rw [atI_ino hfi]; exact i3⟩
  have hf2 := fair_with hf1 hd1 hd1k hd1s ho ⟨i4, hI1⟩ hd1l
  obtain ⟨x2, hx2⟩ : ∃ x2, setB x1 d1 (withB (nodeAt x1 d1) s I) = x2 := ⟨_, rfl⟩
  rw [hx2] at hf2
  have hx2n : x2 = ⟨x1.nodes.map (atI D fun n => withB n s I), x1.next⟩ := by
    rw [← hx2, set_map hf1.rise hd1 (fun n => withB n s I), hd1i]
  -- the way to the old place is the same
  have hsame : ∀ j, j < t.nodes.length → (nodeAt t j).ino ≠ T → ∃ k2, k2 < x2.nodes.length ∧ (nodeAt x2 k2).ino = (nodeAt t j).ino ∧ (nodeAt x2 k2).kind = (nodeAt t j).kind ∧ ∀ q, nameB (nodeAt t j) q ≠ 0 → nameB (nodeAt t j) q ≠ T → nameB (nodeAt x2 k2) q = nameB (nodeAt t j) q := fun j hj hne => by
    have hm1 := hin1 _ (nodeAt_mem hj) hne
    have hm2 : atI D (fun n => withB n s I) (atI D f (nodeAt t j)) ∈ x2.nodes := by rw [hx2n]; exact List.mem_map.2 ⟨_, hm1, rfl⟩
    obtain ⟨k2, hk2, e⟩ := place_of hf2.rise hm2
    refine ⟨k2, hk2, by rw [e, atI_ino (with_ino s I), atI_ino hfi], ?_, fun q hq0 hqT => ?_⟩
    · rw [e]
      unfold atI
      by_cases a : (nodeAt t j).ino = D
      · simp only [if_pos a, hfi]
        exact hfk _
      · simp only [if_neg a]
    · rw [e]
      unfold atI
      by_cases a : (nodeAt t j).ino = D
      · have e2 : j = d := rises_inj ht.rise hj hd (by rw [a, hD])
        subst e2
        simp only [if_pos a, hfi]
        have hqs : q ≠ s := fun e3 => by subst e3; exact hqT hTs
        have h1 := hfn q hqs hq0
        have okf : NodeOK (f (nodeAt t j)) := by rw [← hXd]; exact hfX.each _ (nodeAt_mem (by omega))
        rw [with_name_ne okf (by rw [hfk]; exact hdk) hfs ho hqs I (by rw [h1]; exact hq0), h1]
      · simp only [if_neg a]
  have hr := ht.root0
  have hr2 := hf2.root0
  obtain ⟨p2, w1, w2, w3⟩ := walk_alike ht hf2 T hsame (fun j hj e q => hTn _ (nodeAt_mem hj) e q) l 0 0 p0 hr.1 hr2.1 (by rw [hr.2.1, hr2.2.1]) (by rw [hr.2.1]; exact fun e => hT1 e.symm) hw hPT
  have hXpi : (nodeAt X p0).ino = (nodeAt t p0).ino := by rw [hXat p0 hp, atI_ino hfi]
  have hXpk : (nodeAt X p0).kind = 2 := by
    rw [hXat p0 hp]
    unfold atI
    split
    · rw [hfk]; exact hpk
    · exact hpk
  have core := ren_core hfX (p0 := p0) (d := d) (by omega) (by omega) hXpk (by rw [hXd, hfk]; exact hdk) (s := s) (old := old) (I := I) (by rw [hXd]; exact hfs) ho hXp hI0 (by rw [hXd]; exact hfl) (fun i => decide (0 < linksD X i)) (fun n _ => rfl) hx1n hf1 hd1 hde hx2.symm hf2 w2 (by rw [w3, hXpi])
  have hp2k : (nodeAt x2 p2).kind = 2 := by
    obtain ⟨k2, q1, q2, q3, _⟩ := hsame p0 hp hPT
    have : k2 = p2 := rises_inj hf2.rise q1 w2 (q2.trans w3.symm)
    rw [← this, q3]; exact hpk
  refine ⟨x1, d1, p2, hx1, hf1, hd1, hd1i.trans hD.symm, hd1k, hd1s, ?_, ?_, ?_, ?_⟩
  · rw [hx2]; exact hf2
  · rw [hx2]; exact home_walk hf2 hpar hl w1 hp2k
  · rw [hx2]; exact core.1
  · rw [hx2]; exact core.2
end Go.Proofs.YtchajlaflehodaaGreatDoor
/- The box of a reply that is handed back. -/
namespace Go.Proofs.YtchajlaflehodaaGreatDoor
open Go.RowKit Kit
set_option linter.unusedVariables false

/-- The box of a reply, nothing in it yet. -/
def RBox (w : World) (B : Nat) : Prop := w.heap[B]? = some (.cells #[.int .i64 0, .int .i64 0, .int .i64 0, .int .i64 0, .int .i64 0, .slice none 0 0, .slice none 0 0, .slice none 0 0] 34)
theorem RBox.c {w : World} {B : Nat} (h : RBox w B) : w.cell? ⟨B, 0, none⟩ = some (.int .i64 0) ∧ w.cell? ⟨B, 1, none⟩ = some (.int .i64 0) ∧ w.cell? ⟨B, 2, none⟩ = some (.int .i64 0) ∧ w.cell? ⟨B, 3, none⟩ = some (.int .i64 0) ∧ w.cell? ⟨B, 4, none⟩ = some (.int .i64 0) ∧ w.cell? ⟨B, 5, none⟩ = some (.slice none 0 0) ∧ w.cell? ⟨B, 6, none⟩ = some (.slice none 0 0) ∧ w.cell? ⟨B, 7, none⟩ = some (.slice none 0 0) ∧ (∀ j, w.frozen? ⟨B, j, none⟩ = false) ∧ B < w.heap.size := by
  have hl := (Array.getElem?_eq_some_iff.1 h).1
  unfold RBox at h
  refine ⟨?_, ?_, ?_, ?_, ?_, ?_, ?_, ?_, ?_, hl⟩ <;> simp [World.cell?, World.frozen?, h]
theorem rbox_new (w : World) : RBox (w.alloc (.cells #[.int .i64 0, .int .i64 0, .int .i64 0, .int .i64 0, .int .i64 0, .slice none 0 0, .slice none 0 0, .slice none 0 0] 34)) w.heap.size := (MapKept.heap_alloc w _).1
theorem RBox.below {w w' : World} {B : Nat} (h : RBox w B) (hb : Below w.heap.size w w') : RBox w' B := (hb.block B h.c.2.2.2.2.2.2.2.2.2).trans h
theorem RBox.turn {w w' : World} {B p b : Nat} (h : RBox w B) (ht : Turn p b w w') (hp : B ≠ p) (hb : B ≠ b) : RBox w' B := (ht.block B h.c.2.2.2.2.2.2.2.2.2 hp hb).trans h
theorem RBox.cell {w : World} {B : Nat} (h : RBox w B) (o : Nat) (x : Value) (hx : w.cell? ⟨B, o, none⟩ = some x) : x = .int .i64 0 ∨ x = .slice none 0 0 := by
  unfold RBox at h
  simp only [World.cell?, h] at hx
  match o with
  | 0 => simp at hx; exact .inl hx.symm
  | 1 => simp at hx; exact .inl hx.symm
  | 2 => simp at hx; exact .inl hx.symm
  | 3 => simp at hx; exact .inl hx.symm
  | 4 => simp at hx; exact .inl hx.symm
  | 5 => simp at hx; exact .inr hx.symm
  | 6 => simp at hx; exact .inr hx.symm
  | 7 => simp at hx; exact .inr hx.symm
  | o + 8 => simp at hx
/-- Nothing has turned but block B. -/
structure Only (B : Nat) (w w' : World) : Prop where
  os : w'.os = w.os
  tape : w'.tape = w.tape
  output : w'.output = w.output
  size : w.heap.size ≤ w'.heap.size
  block : ∀ k, k < w.heap.size → k ≠ B → w'.heap[k]? = w.heap[k]?
theorem only_set (B : Nat) (w : World) (o : Nat) (v : Value) : Only B w (w.setCell ⟨B, o, none⟩ v) := ⟨rfl, rfl, rfl, by simp [World.setCell], fun k _ h => Below.heap_setCell _ _ _ k h⟩
theorem Only.trans {B : Nat} {w w1 w2 : World} (h : Only B w w1) (k : Only B w1 w2) : Only B w w2 :=
  ⟨k.os.trans h.os, k.tape.trans h.tape, k.output.trans h.output, Nat.le_trans h.size k.size, fun i h1 h2 => (k.block i (Nat.lt_of_lt_of_le h1 h.size) h2).trans (h.block i h1 h2)⟩
theorem sees_only {w w' : World} {B : Nat} {v : Value} {xs : List Value} (h : Sees w v xs) (ho : Only B w w') (hne : ∀ o x, w.cell? ⟨B, o, none⟩ = some x → x ∉ xs) : Sees w' v xs := by
  obtain ⟨ao, cap, h1, h2, h3, h4, h5⟩ := h
  refine ⟨ao, cap, h1, h2, h3, h4, fun h0 => ?_⟩
  obtain ⟨g, off, e, hl, hh⟩ := h5 h0
  have h00 := hh 0 _ (List.getElem?_eq_getElem h0)
  have hB : g ≠ B := fun e2 => by
    subst e2
    exact hne _ _ h00 (List.getElem_mem h0)
  refine ⟨g, off, e, Nat.lt_of_lt_of_le hl ho.size, fun i x hx => ?_⟩
  rw [← hh i x hx]
  simp only [World.cell?, ho.block g hl hB]
theorem seesS_only {w w' : World} {B : Nat} {v : Value} {ps : List (ByteArray × Int)} (h : SeesS w v ps) (ho : Only B w w') (hne : ∀ o s, w.cell? ⟨B, o, none⟩ ≠ some (.string s)) : SeesS w' v ps := by
  obtain ⟨ao, cap, h1, h2, h3, h4, h5⟩ := h
  refine ⟨ao, cap, h1, h2, h3, h4, fun h0 => ?_⟩
  obtain ⟨g, off, e, hl, hh⟩ := h5 h0
  have h00 := (at2_of hh h0).1
  have hB : g ≠ B := fun e2 => by
    subst e2
    exact hne _ _ h00
  refine ⟨g, off, e, Nat.lt_of_lt_of_le hl ho.size, fun i x hx => ?_⟩
  rw [← hh i x hx]
  simp only [World.cell?, ho.block g hl hB]
theorem DTree.only {w w' : World} {p b B : Nat} {t : TreeB} (h : DTree w p b t) (ho : Only B w w') (hB : RBox w B) (hp : B ≠ p) (hb : B ≠ b) : DTree w' p b t := by
  obtain ⟨ds, hd, hn⟩ := h
  refine ⟨ds, ⟨(ho.block p hd.lt.1 (Ne.symm hp)).trans hd.1, hd.2.1.block (ho.block b hd.lt.2 (Ne.symm hb)), fun f hf => ⟨sees_only (hd.2.2 f hf).1 ho (fun o x hx hm => ?_), seesS_only (hd.2.2 f hf).2 ho (fun o s hx => ?_)⟩⟩, hn⟩
  · unfold intsV at hm
    obtain ⟨y, _, e⟩ := List.mem_map.1 hm
    rcases hB.cell o x hx with e2 | e2
    · rw [e2] at e; cases e
    · rw [e2] at e; cases e
  · rcases hB.cell o _ hx with e2 | e2 <;> cases e2
theorem turn_only {w w1 w2 : World} {p b B : Nat} (h : Turn p b w w1) (ho : Only B w1 w2) (hB : w.heap.size ≤ B) : Turn p b w w2 :=
  ⟨ho.os.trans h.os, ho.tape.trans h.tape, ho.output.trans h.output, Nat.le_trans h.size ho.size, fun k h1 h2 h3 => (ho.block k (Nat.lt_of_lt_of_le h1 h.size) (by omega)).trans (h.block k h1 h2 h3)⟩
/-- The reply's box written. -/
def outR (W : World) (B : Nat) (r0 r1 r2 r3 r4 r5 r6 r7 : Value) : World :=
  (((((((W.setCell ⟨B, 0, none⟩ r0).setCell ⟨B, 1, none⟩ r1).setCell ⟨B, 2, none⟩ r2).setCell ⟨B, 3, none⟩ r3).setCell ⟨B, 4, none⟩ r4).setCell ⟨B, 5, none⟩ r5).setCell ⟨B, 6, none⟩ r6).setCell ⟨B, 7, none⟩ r7
theorem outR_only (W : World) (B : Nat) (r0 r1 r2 r3 r4 r5 r6 r7 : Value) : Only B W (outR W B r0 r1 r2 r3 r4 r5 r6 r7) :=
  (((((((only_set B W 0 r0).trans (only_set B _ 1 r1)).trans (only_set B _ 2 r2)).trans (only_set B _ 3 r3)).trans (only_set B _ 4 r4)).trans (only_set B _ 5 r5)).trans (only_set B _ 6 r6)).trans (only_set B _ 7 r7)
/-- What is told behind a call that hands a reply back. -/
def Told (w : World) (p b : Nat) (x : TreeB × ReplyB × Int) (e : Ending) (w' : World) : Prop := ∃ rv, e = .returned (.tuple #[rv, errV x.2.2]) ∧ ReplyAt w' rv x.2.1 ∧ DTree w' p b x.1 ∧ Turn p b w w'
theorem told_fin {w w1 W2 W' : World} {p b B : Nat} {t : TreeB} (hT1 : DTree w1 p b t) (ht : Turn p b w w1) (hB : RBox w1 B) (hBw : w.heap.size ≤ B) (hp : B ≠ p) (hb : B ≠ b) (ho : Only B w1 W2) (hbe : Below W2.heap.size W2 W') : DTree W' p b t ∧ Turn p b w W' :=
  ⟨(hT1.only ho hB hp hb).below hbe, (turn_only ht ho hBw).trans (turn_below hbe)⟩
theorem RBox.nostr {w : World} {B : Nat} (h : RBox w B) (l : List ByteArray) : ∀ o x, w.cell? ⟨B, o, none⟩ = some x → x ∉ strs l := by
  intro o x hx hm
  unfold strs at hm
  obtain ⟨y, _, e⟩ := List.mem_map.1 hm
  rcases h.cell o x hx with e2 | e2 <;> rw [e2] at e <;> cases e
theorem RBox.nobyte {w : World} {B : Nat} (h : RBox w B) (l : List Int) : ∀ o x, w.cell? ⟨B, o, none⟩ = some x → x ∉ intsV .u8 l := by
  intro o x hx hm
  unfold intsV at hm
  obtain ⟨y, _, e⟩ := List.mem_map.1 hm
  rcases h.cell o x hx with e2 | e2 <;> rw [e2] at e <;> cases e
end Go.Proofs.YtchajlaflehodaaGreatDoor
/- rename: its two ways. (No walk in it.) -/
namespace Go.Proofs.YtchajlaflehodaaGreatDoor
open Go.RowKit Kit
set_option linter.unusedVariables false

theorem swept_good {t : TreeB} (hG : Good t) : sweptB t = t := by
  unfold sweptB
  have : t.nodes.filter (fun n => decide (0 < linksB t n.ino)) = t.nodes := by
    rw [List.filter_eq_self]
    intro n hn
    apply decide_eq_true
    rw [hG.e.fair.links hn]
    unfold linksD
    split
    · omega
    · rename_i h; exact hG.2 n hn h
  rw [this]
theorem small_names {t : TreeB} (hG : Good t) {d : Nat} (hd : d < t.nodes.length) : (nodeAt t d).names.length < 10000 := by
  have := (names_small hG.e (nodeAt_mem hd)).1
  omega
/-- Nothing stands at the new place. -/
theorem ren_new {t : TreeB} (hG : Good t) {p0 d : Nat} (hp : p0 < t.nodes.length) (hd : d < t.nodes.length) (hpk : (nodeAt t p0).kind = 2) (hdk : (nodeAt t d).kind = 2) {path s old : ByteArray} {l : List ByteArray}
    (hpar : (parentB path).2.2 = 0) (hl : (splitB path).1 = l ++ [old]) (hw : walkB t 0 l = .ok p0) {I : Int} (hI : nameB (nodeAt t p0) old = I) (hI0 : I ≠ 0) (ho : okB s = true ∧ s.size ≤ 12) (hTs : nameB (nodeAt t d) s = 0) :
    ∃ p2, s ∉ (nodeAt t d).names ∧ Fair (setB t d (withB (nodeAt t d) s I)) ∧ homeB (setB t d (withB (nodeAt t d) s I)) path = .ok (p2, old) ∧ old ∈ (nodeAt (setB t d (withB (nodeAt t d) s I)) p2).names ∧ unnameB (setB t d (withB (nodeAt t d) s I)) p2 old = sweptB (movedB t p0 old d s I) := by
  have ht := hG.e.fair
  have hsn := name_free hG.e hd hdk hTs
  have hset : t = setB t d (id (nodeAt t d)) := by
    unfold setB
    rw [nodeAt_eq t d hd]
    simp only [id]
    rw [List.set_getElem_self]
  obtain ⟨x1, d1, p2, h1, h2, h3, h4, h5, h6, h7, h8, h9, h10⟩ := ren_any (X := t) (k := 0) hG hp hd hpk hdk hpar hl hw hI hI0 ho hTs hI0 (by omega) (fun n hn e => by have := ht.pos n hn; omega) id (fun _ => rfl) (fun _ => rfl) (fun q _ _ => rfl) hsn (small_names hG hd) hset ht (fun _ _ => rfl)
  rw [swept_good hG] at h1
  subst h1
  have : d1 = d := rises_inj ht.rise h3 hd h4
  subst this
  exact ⟨p2, h6, h7, h8, h9, h10⟩
/-- Something stands at the new place that may go. -/
theorem ren_there {t : TreeB} (hG : Good t) {p0 d m : Nat} (hp : p0 < t.nodes.length) (hd : d < t.nodes.length) (hpk : (nodeAt t p0).kind = 2) (hdk : (nodeAt t d).kind = 2) {path s old : ByteArray} {l : List ByteArray}
    (hpar : (parentB path).2.2 = 0) (hl : (splitB path).1 = l ++ [old]) (hw : walkB t 0 l = .ok p0) {I T : Int} (hI : nameB (nodeAt t p0) old = I) (hI0 : I ≠ 0) (ho : okB s = true ∧ s.size ≤ 12) (hTs : nameB (nodeAt t d) s = T) (hT0 : T ≠ 0) (hIT : I ≠ T)
    (hm : m < t.nodes.length) (hmT : (nodeAt t m).ino = T) (hmn : (nodeAt t m).names.length = 0) :
    ∃ d1 p2, Fair (unnameB t d s) ∧ d1 < (unnameB t d s).nodes.length ∧ (nodeAt (unnameB t d s) d1).ino = (nodeAt t d).ino ∧ (nodeAt (unnameB t d s) d1).kind = 2 ∧ s ∉ (nodeAt (unnameB t d s) d1).names ∧ Fair (setB (unnameB t d s) d1 (withB (nodeAt (unnameB t d s) d1) s I)) ∧
      homeB (setB (unnameB t d s) d1 (withB (nodeAt (unnameB t d s) d1) s I)) path = .ok (p2, old) ∧ old ∈ (nodeAt (setB (unnameB t d s) d1 (withB (nodeAt (unnameB t d s) d1) s I)) p2).names ∧ unnameB (setB (unnameB t d s) d1 (withB (nodeAt (unnameB t d s) d1) s I)) p2 old = sweptB (movedB (setB t d (withoutB (nodeAt t d) s)) p0 old d s I) := by
  have ht := hG.e.fair
  have okd := ht.each _ (nodeAt_mem hd)
  obtain ⟨k', q1, q2, q3, q4⟩ := ht.step hd (s := s) (by rw [hTs]; exact hT0)
  rw [hTs] at q4
  have hkid := kids_unname ht hd (s := s) (by rw [hTs]; exact hT0)
  rw [hTs] at hkid
  obtain ⟨x1, d1, p2, h1, h2, h3, h4, h5, h6, h7, h8, h9, h10⟩ := ren_any (X := setB t d (withoutB (nodeAt t d) s)) (k := 0) hG hp hd hpk hdk hpar hl hw hI hI0 ho hTs hIT q4 (fun n hn e q => by
      have e2 : n = nodeAt t m := rises_eq ht.rise hn (nodeAt_mem hm) (by rw [e, hmT])
      apply Classical.byContradiction
      intro h
      obtain ⟨_, j, hj, _⟩ := nameB_some (ht.each n hn).len h
      rw [e2] at hj
      omega) (fun n => withoutB n s) (fun _ => rfl) (fun _ => rfl) (fun q hq h0 => without_name okd hdk hq h0) (by
      rw [show (withoutB (nodeAt t d) s).names = (nodeAt t d).names.filter (fun q => decide (q ≠ s)) from names_without_keep _ _ s okd.len]
      intro h
      have := (List.mem_filter.1 h).2
      simp at this) (Nat.lt_of_le_of_lt (without_len s) (small_names hG hd)) rfl (fair_without ht hd hdk s) (fun i hi => by
      have := hkid i
      rw [if_neg (fun e => hi e.symm)] at this
      omega)
  have hu := unname_swept hG hd hdk (s := s) (by rw [hTs]; exact hT0)
  rw [h1] at hu
  rw [hu]
  exact ⟨d1, p2, h2, h3, h4, h5, h6, h7, h8, h9, h10⟩
def renT (t : TreeB) (k d : Nat) (s : ByteArray) (p : Nat) (old : ByteArray) : TreeB × ReplyB × Int :=
  if nameB (nodeAt t d) s ≠ 0 then
    if nameB (nodeAt t d) s = (nodeAt t k).ino then (t, noReply, 0) else
    if unlikeB (nodeAt t k).kind (nodeAt t ((placeO t (nameB (nodeAt t d) s)).getD 0)).kind (nodeAt t ((placeO t (nameB (nodeAt t d) s)).getD 0)).names.length ≠ 0 then (t, noReply, unlikeB (nodeAt t k).kind (nodeAt t ((placeO t (nameB (nodeAt t d) s)).getD 0)).kind (nodeAt t ((placeO t (nameB (nodeAt t d) s)).getD 0)).names.length) else
    (sweptB (movedB (setB t d (withoutB (nodeAt t d) s)) p old d s (nodeAt t k).ino), noReply, 0)
  else (sweptB (movedB t p old d s (nodeAt t k).ino), noReply, 0)
theorem rename_eq {t : TreeB} (hG : Good t) (o : OpB) {k : Nat} (h1 : (parentB o.path).2.2 = 0) (h2 : (parentB o.to).2.2 = 0) (hf : findB t o.path = .ok k) {p : Nat} {old : ByteArray} (hp : homeB t o.path = .ok (p, old)) :
    ((nodeAt t k).kind = 2 ∧ o.to ≠ o.path ∧ underB o.to o.path = true → renameB t o = (t, noReply, 10)) ∧ (¬ ((nodeAt t k).kind = 2 ∧ o.to ≠ o.path ∧ underB o.to o.path = true) → (∀ e, homeB t o.to = .error e → renameB t o = (t, noReply, e)) ∧ ∀ d s, homeB t o.to = .ok (d, s) → renameB t o = renT t k d s p old) := by
  refine ⟨fun h => ?_, fun h => ⟨fun e he => ?_, fun d s he => ?_⟩⟩
  · unfold renameB
    rw [if_neg (by simp [h1]), if_neg (by simp [h2]), hf]
    simp only
    rw [if_pos h]
  · unfold renameB
    rw [if_neg (by simp [h1]), if_neg (by simp [h2]), hf]
    simp only
    rw [if_neg h, he]
  · unfold renameB
    rw [if_neg (by simp [h1]), if_neg (by simp [h2]), hf]
    simp only
    rw [if_neg h, he, hp]
    simp only
    unfold renT
    by_cases c0 : nameB (nodeAt t d) s ≠ 0
    · rw [if_pos c0, if_pos c0]
      by_cases c1 : nameB (nodeAt t d) s = (nodeAt t k).ino
      · rw [if_pos c1, if_pos c1]
      · rw [if_neg c1, if_neg c1]
        unfold unlikeB
        by_cases c2 : (nodeAt t k).kind = 2 ∧ (nodeAt t ((placeO t (nameB (nodeAt t d) s)).getD 0)).kind = 1
        · rw [if_pos c2, if_pos c2, if_pos (by omega)]
        · rw [if_neg c2, if_neg c2]
          by_cases c3 : (nodeAt t k).kind = 1 ∧ (nodeAt t ((placeO t (nameB (nodeAt t d) s)).getD 0)).kind = 2
          · rw [if_pos c3, if_pos c3, if_pos (by omega)]
          · rw [if_neg c3, if_neg c3]
            by_cases c4 : 0 < (nodeAt t ((placeO t (nameB (nodeAt t d) s)).getD 0)).names.length
            · rw [if_pos c4, if_pos c4, if_pos (by omega)]
            · rw [if_neg c4, if_neg c4, if_neg (by omega)]
    · rw [if_neg c0, if_neg c0]
end Go.Proofs.YtchajlaflehodaaGreatDoor
