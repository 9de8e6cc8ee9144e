/- create. -/
import Derived.Test.YtbebgobboccjcaaGreatDoorG4
namespace Go.Proofs.YtbebgobboccjcaaGreatDoor
open Go.RowKit Kit
set_option linter.unusedVariables false

def kindOf (o : OpB) : Int := if o.kind = 2 then 2 else 1
def makesF (t : TreeB) (o : OpB) (h : Except Int (Nat × ByteArray)) : TreeB × ReplyB × Int := match h with
  | .error e => (t, noReply, e)
  | .ok (d, s) => if 60 ≤ t.nodes.length ∨ 1099511627776 ≤ t.next then (t, noReply, 16)
    else (⟨t.nodes.set d (withB (nodeAt t d) s t.next) ++ [⟨t.next, kindOf o, [], [], []⟩], t.next + 1⟩, { noReply with ino := t.next }, 0)
theorem makes_eq (t : TreeB) (o : OpB) : makesB t o = makesF t o (outF t (homeB t o.path)) := by
  unfold makesB
  cases homeB t o.path with
  | error e => rfl
  | ok ds =>
    obtain ⟨d, s⟩ := ds
    simp only [outF]
    split
    · rfl
    · rfl
theorem outF_code {t : TreeB} {s : ByteArray} {x : Int} (h : outF t (homeB t s) = .error x) : x ≠ 0 := by
  cases hh : homeB t s with
  | error y => rw [hh] at h; simp only [outF] at h; injection h with h; rw [← h]; exact home_code' hh
  | ok ds =>
    obtain ⟨d, q⟩ := ds
    rw [hh] at h
    simp only [outF] at h
    split at h
    · injection h with h; omega
    · cases h
theorem outF_ok {t : TreeB} (hG : Good t) {s q : ByteArray} {d : Nat} (h : outF t (homeB t s) = .ok (d, q)) : d < t.nodes.length ∧ (nodeAt t d).kind = 2 ∧ okB q = true ∧ q.size ≤ 12 ∧ nameB (nodeAt t d) q = 0 ∧ q ∉ (nodeAt t d).names := by
  cases hh : homeB t s with
  | error y => rw [hh] at h; simp only [outF] at h; cases h
  | ok ds =>
    obtain ⟨d', q'⟩ := ds
    rw [hh] at h
    simp only [outF] at h
    split at h
    · cases h
    · rename_i h2
      injection h with h
      injection h with e1 e2
      subst e1 e2
      obtain ⟨hd, hdk, o1, o2, _⟩ := home_ok hG.e hh
      have h0 := Decidable.byContradiction h2
      exact ⟨hd, hdk, o1, o2, h0, name_free hG.e hd hdk h0⟩
theorem nodeAt_app {t : TreeB} {d : Nat} (hd : d < t.nodes.length) (n : NodeB) (x : Int) : nodeAt ⟨t.nodes ++ [n], x⟩ d = nodeAt t d := by
  unfold nodeAt
  simp only
  simp only [List.getD, List.getElem?_append_left hd]
set_option maxRecDepth 4000 in
set_option maxHeartbeats 8000000 in
theorem dcreate_any (o : OpB) (w : World) (p b : Nat) (t : TreeB) (hT : DTree w p b t) (hG : Good t) (hs1 : o.path.size ≤ maxLen) :
    Calls Tryz.prog 61 #[.pointer (some ⟨p, 0, none⟩), .string o.path, .int .i64 (kindOf o)] w fun e w' => Told w p b (makesB t o) e w' := by
  have ht := hG.e.fair
  rw [makes_eq]
  have HR0 : Hid (RBox (w.alloc (.cells #[.int .i64 0, .int .i64 0, .int .i64 0, .int .i64 0, .int .i64 0, .slice none 0 0, .slice none 0 0, .slice none 0 0] 40)) w.heap.size ∧ Below w.heap.size w (w.alloc (.cells #[.int .i64 0, .int .i64 0, .int .i64 0, .int .i64 0, .int .i64 0, .slice none 0 0, .slice none 0 0, .slice none 0 0] 40))) := ⟨rbox_new w, (Below.refl _ _).alloc (Nat.le_refl _) _⟩
  have HFr : Hid (∀ W, Below w.heap.size w W → _) := fun W hW => dfree_any o.path W p b t (hT.below hW) ht hs1
  have HT : Hid (DTree w p b t ∧ Good t) := ⟨hT, hG⟩
  obtain ⟨h, hh⟩ : ∃ h, outF t (homeB t o.path) = h := ⟨_, rfl⟩
  have HH0 : Hid (outF t (homeB t o.path) = h) := hh
  rw [hh] at HFr ⊢
  have hpb := hT.cells.2.2.2
  have HNE : Hid (w.heap.size ≠ p ∧ w.heap.size ≠ b) := ⟨by omega, by omega⟩
  clear hs1 hh hT hG ht
  cases h with
  | error x =>
    have hx := outF_code HH0.out
    have HE : Hid (errV x = .iface 80 (.int .i64 x)) := errV_ne hx
    simp only [outP] at HFr
    rw [errV_ne hx] at HFr
    clear hx
    go_enter Tryz.func61, Tryz.ntmps61
    go_wp2_with fail
    go_at_call 94
    refine (HFr.out _ HR0.out.2).mono ?_
    rintro e w1 ⟨rfl, hb1⟩
    have H1 : Hid (RBox w1 w.heap.size ∧ Below w.heap.size w w1) := ⟨HR0.out.1.below hb1, bel2v HR0.out.2 hb1⟩
    obtain ⟨b0, b1, b2, b3, b4, b5, b6, b7, bf, _⟩ := H1.out.1.c
    clear hb1 HFr HR0
    go_wp2
    refine bodyPost_ret (v := .tuple #[.agg #[.int .i64 0, .int .i64 0, .int .i64 0, .int .i64 0, .int .i64 0, .slice none 0 0, .slice none 0 0, .slice none 0 0], .iface 80 (.int .i64 x)]) (by simp [results, Tryz.results61, go_sem, *]) rfl ?_
    have ho := outR_only w1 w.heap.size (.int .i64 0) (.int .i64 0) (.int .i64 0) (.int .i64 0) (.int .i64 0) (.slice none 0 0) (.slice none 0 0) (.slice none 0 0)
    exact ⟨_, by simp only [makesF]; rw [HE.out], replyAt_no' _ _ _ _ _ _, (HT.out.1.below H1.out.2).only ho H1.out.1 HNE.out.1 HNE.out.2, turn_only (turn_below H1.out.2) ho (Nat.le_refl _)⟩
  | ok ds =>
    obtain ⟨d, s⟩ := ds
    obtain ⟨hd, hdk, o1, o2, h0, hfr⟩ := outF_ok HT.out.2 HH0.out
    have hg := HT.out.2.e
    simp only [outP] at HFr
    have e00 : errV 0 = .nilIface := rfl
    rw [e00] at HFr
    have hn60 := hg.size
    have hnx := hg.next
    have hnp := hg.fair.next
    have HLN : Hid (∀ W, Below w.heap.size w W → (Builtin.len_ #[50] 3 #[.map (some b)]).run Tryz.prog W = .ok (.int .i64 (t.nodes.length : Int)) W ∧ W.cell? ⟨p, 0, none⟩ = some (.map (some b)) ∧ W.cell? ⟨p, 1, none⟩ = some (.int .i64 t.next) ∧ (∀ j, W.frozen? ⟨p, j, none⟩ = false)) := fun W hW => ⟨(HT.out.1.below hW).size 3, (HT.out.1.below hW).cells.1, (HT.out.1.below hW).cells.2.1, (HT.out.1.below hW).cells.2.2.1⟩
    have n60 : (t.nodes.length : Int) ≤ 60 := by omega
    obtain ⟨jj, hjj⟩ : ∃ jj, (nodeAt t d).ino = jj := ⟨_, rfl⟩
    rw [hjj] at HFr
    by_cases hfull : 60 ≤ t.nodes.length ∨ 1099511627776 ≤ t.next
    · have HM : Hid (makesF t o (.ok (d, s)) = (t, noReply, 16)) := by show _ = _; simp only [makesF]; rw [if_pos hfull]
      have hfi : (t.nodes.length : Int) ≥ 60 ∨ t.next ≥ 1099511627776 := by omega
      obtain ⟨nl, hnl⟩ : ∃ nl : Int, (t.nodes.length : Int) = nl := ⟨_, rfl⟩
      obtain ⟨nx, hnx2⟩ : ∃ nx : Int, t.next = nx := ⟨_, rfl⟩
      rw [hnl, hnx2] at hfi HLN
      have TAIL : Hid (∀ w1, RBox w1 w.heap.size ∧ Below w.heap.size w w1 → Told w p b (t, noReply, 16) (.returned (.tuple #[.agg #[.int .i64 0, .int .i64 0, .int .i64 0, .int .i64 0, .int .i64 0, .slice none 0 0, .slice none 0 0, .slice none 0 0], .iface 80 (.int .i64 16)])) (outR w1 w.heap.size (.int .i64 0) (.int .i64 0) (.int .i64 0) (.int .i64 0) (.int .i64 0) (.slice none 0 0) (.slice none 0 0) (.slice none 0 0))) := fun w1 H1 => by
        have ho := outR_only w1 w.heap.size (.int .i64 0) (.int .i64 0) (.int .i64 0) (.int .i64 0) (.int .i64 0) (.slice none 0 0) (.slice none 0 0) (.slice none 0 0)
        exact ⟨_, rfl, replyAt_no' _ _ _ _ _ _, (HT.out.1.below H1.2).only ho H1.1 HNE.out.1 HNE.out.2, turn_only (turn_below H1.2) ho (Nat.le_refl _)⟩
      clear hfull hd hdk o1 o2 h0 hfr hg e00 hn60 hnx hnp n60 hnl hnx2 hjj
      rw [HM.out]
      by_cases h60 : nl ≥ 60
      · clear hfi
        go_enter Tryz.func61, Tryz.ntmps61
        go_wp2_with fail
        go_at_call 94
        refine (HFr.out _ HR0.out.2).mono ?_
        rintro e w1 ⟨rfl, hb1⟩
        have H1 : Hid (RBox w1 w.heap.size ∧ Below w.heap.size w w1) := ⟨HR0.out.1.below hb1, bel2v HR0.out.2 hb1⟩
        obtain ⟨b0, b1, b2, b3, b4, b5, b6, b7, bf, _⟩ := H1.out.1.c
        obtain ⟨hln, c0, c1, cf⟩ := HLN.out w1 H1.out.2
        clear hb1 HFr HR0 HLN
        go_wp2
        refine bodyPost_ret (v := .tuple #[.agg #[.int .i64 0, .int .i64 0, .int .i64 0, .int .i64 0, .int .i64 0, .slice none 0 0, .slice none 0 0, .slice none 0 0], .iface 80 (.int .i64 16)]) (by simp [results, Tryz.results61, go_sem, *]) rfl ?_
        exact TAIL.out w1 H1.out
      · have h40 : nx ≥ 1099511627776 := by omega
        clear hfi
        go_enter Tryz.func61, Tryz.ntmps61
        go_wp2_with fail
        go_at_call 94
        refine (HFr.out _ HR0.out.2).mono ?_
        rintro e w1 ⟨rfl, hb1⟩
        have H1 : Hid (RBox w1 w.heap.size ∧ Below w.heap.size w w1) := ⟨HR0.out.1.below hb1, bel2v HR0.out.2 hb1⟩
        obtain ⟨b0, b1, b2, b3, b4, b5, b6, b7, bf, _⟩ := H1.out.1.c
        obtain ⟨hln, c0, c1, cf⟩ := HLN.out w1 H1.out.2
        clear hb1 HFr HR0 HLN
        go_wp2
        refine bodyPost_ret (v := .tuple #[.agg #[.int .i64 0, .int .i64 0, .int .i64 0, .int .i64 0, .int .i64 0, .slice none 0 0, .slice none 0 0, .slice none 0 0], .iface 80 (.int .i64 16)]) (by simp [results, Tryz.results61, go_sem, *]) rfl ?_
        exact TAIL.out w1 H1.out
    · obtain ⟨nn, hnn⟩ : ∃ nn : NodeB, nn = ⟨t.next, kindOf o, [], [], []⟩ := ⟨_, rfl⟩
      have hok : NodeOK nn := by
        rw [hnn]
        refine ⟨List.Pairwise.nil, by simp, ?_⟩
        unfold kindOf
        split
        · exact .inl ⟨rfl, rfl, rfl⟩
        · exact .inr ⟨rfl, rfl, rfl, by simp, by intro x hx; simp at hx⟩
      have hmore := (good_more hg (by omega) (by omega) nn (by rw [hnn]) (by rw [hnn]) hok).1
      obtain ⟨t2, ht2⟩ : ∃ t2 : TreeB, t2 = ⟨t.nodes ++ [nn], t.next + 1⟩ := ⟨_, rfl⟩
      rw [← ht2] at hmore
      have hd2 : d < t2.nodes.length := by rw [ht2]; simp; omega
      have hn2 : nodeAt t2 d = nodeAt t d := by rw [ht2]; exact nodeAt_app hd nn _
      have HM : Hid (makesF t o (.ok (d, s)) = (setB t2 d (withB (nodeAt t2 d) s t.next), ⟨t.next, 0, 0, 0, 0, [], [], []⟩, 0)) := by
        show _ = _
        simp only [makesF]
        rw [if_neg hfull, hn2, ht2, hnn]
        unfold setB
        simp only
        rw [List.set_append_left _ _ hd]
        rfl
      have HN : Hid (∀ W, DTree W p b t2 → _) := fun W hW => dname_any s t.next W p b t2 d hW hmore.fair hd2 (by rw [hn2]; exact hdk) (by rw [hn2]; exact hfr) o2
      rw [hn2, hjj] at HN
      have HP1 : Hid (∀ W, DTree W p b t → DTree (W.setCell ⟨p, 1, none⟩ (.int .i64 (t.next + 1))) p b ⟨t.nodes, t.next + 1⟩) := fun W hW => hW.setNext (t.next + 1)
      have hfa1 : Fair ⟨t.nodes, t.next + 1⟩ := by
        have hf := hg.fair
        exact ⟨hf.root, hf.size, ⟨by simp only; omega, by simp only; omega⟩, hf.rise, hf.below, hf.each, hf.leads, hf.names⟩
      have HP2 : Hid (∀ W, DTree W p b ⟨t.nodes, t.next + 1⟩ → ∃ w', (Instr.mapUpdate 50 (.map (some b)) (.int .i64 t.next) (.agg #[.int .i64 (kindOf o), .slice none 0 0, .slice none 0 0])).run Tryz.prog W = .ok () w' ∧ DTree w' p b t2 ∧ Turn p b W w') := fun W hW => by
        obtain ⟨w', k1, k2, k3, _⟩ := hW.more hfa1 ⟨nn, .slice none 0 0, .slice none 0 0⟩ (fun n hn => by rw [hnn]; exact hg.below n hn) (by rw [hnn]; simp only; omega) ⟨by rw [hnn]; exact sees_nil0 _ _ rfl, by rw [hnn]; exact ⟨none, 0, rfl, by simp [pairsB], by simp, fun _ => rfl, fun h => by simp [pairsB] at h⟩⟩
        refine ⟨w', ?_, by rw [ht2]; exact k2, k3⟩
        have : (⟨nn, .slice none 0 0, .slice none 0 0⟩ : DN).val = .agg #[.int .i64 (kindOf o), .slice none 0 0, .slice none 0 0] := by unfold DN.val; simp only; rw [hnn]
        rw [this] at k1
        have e2 : (⟨nn, .slice none 0 0, .slice none 0 0⟩ : DN).n.ino = t.next := by simp only; rw [hnn]
        rw [e2] at k1
        exact k1
      have hl60 : ¬ (t.nodes.length : Int) ≥ 60 := by omega
      have hl40 : ¬ t.next ≥ 1099511627776 := by omega
      have hx1 : 0 ≤ t.next ∧ t.next ≤ 1099511627776 := by omega
      obtain ⟨nx, hnx2⟩ : ∃ nx : Int, t.next = nx := ⟨_, rfl⟩
      rw [hnx2] at HM HN HP1 HP2 hl40 hx1 HLN
      rw [HM.out]
      obtain ⟨t3, ht3⟩ : ∃ t3, setB t2 d (withB (nodeAt t2 d) s nx) = t3 := ⟨_, rfl⟩
      rw [← hn2] at HN
      rw [ht3] at HN ⊢
      obtain ⟨hx2, hx3⟩ := hx1
      obtain ⟨kd, hkd⟩ : ∃ kd, kindOf o = kd := ⟨_, rfl⟩
      rw [hkd] at HP2 ⊢
      clear hfull hd hdk o1 o2 h0 hfr hg e00 hn60 hnx hnp n60 hnx2 hjj hok hmore ht2 hd2 hn2 hfa1 hnn ht3 HM hkd
      go_enter Tryz.func61, Tryz.ntmps61
      go_wp2_with fail
      go_at_call 94
      refine (HFr.out _ HR0.out.2).mono ?_
      rintro e w1 ⟨rfl, hb1⟩
      have H1 : Hid (RBox w1 w.heap.size ∧ Below w.heap.size w w1) := ⟨HR0.out.1.below hb1, bel2v HR0.out.2 hb1⟩
      obtain ⟨hln, c0, c1, cf⟩ := HLN.out w1 H1.out.2
      have hd1 := HP1.out w1 (HT.out.1.below H1.out.2)
      obtain ⟨w2, hput, hd2, ht2⟩ := HP2.out _ hd1
      have H2 : Hid (RBox w2 w.heap.size ∧ Turn p b w w2 ∧ DTree w2 p b t2) := ⟨(H1.out.1.turn (turn_set p b w1 1 _) HNE.out.1 HNE.out.2).turn ht2 HNE.out.1 HNE.out.2, ((turn_below H1.out.2).trans (turn_set p b w1 1 _)).trans ht2, hd2⟩
      have HN2 : Hid (Calls Tryz.prog 95 _ _ _) := HN.out w2 hd2
      have c0' : (w1.setCell ⟨p, 1, none⟩ (.int .i64 (nx + 1))).cell? ⟨p, 0, none⟩ = some (.map (some b)) := hd1.cells.1
      clear hb1 HFr HR0 HLN hd1 hd2 ht2 HP1 HP2 H1 HN
      go_wp2_with fail
      go_at_call 95
      refine HN2.out.mono ?_
      rintro e w3 ⟨rfl, hd3, ht3⟩
      have H3 : Hid (RBox w3 w.heap.size ∧ Turn p b w w3 ∧ DTree w3 p b t3) := ⟨H2.out.1.turn ht3 HNE.out.1 HNE.out.2, H2.out.2.1.trans ht3, hd3⟩
      obtain ⟨b0, b1, b2, b3, b4, b5, b6, b7, bf, _⟩ := H3.out.1.c
      clear hd3 ht3 HN2 H2
      go_wp2
      refine bodyPost_ret (v := .tuple #[.agg #[.int .i64 nx, .int .i64 0, .int .i64 0, .int .i64 0, .int .i64 0, .slice none 0 0, .slice none 0 0, .slice none 0 0], .nilIface]) (by simp [results, Tryz.results61, go_sem, *]) rfl ?_
      have ho := outR_only w3 w.heap.size (.int .i64 nx) (.int .i64 0) (.int .i64 0) (.int .i64 0) (.int .i64 0) (.slice none 0 0) (.slice none 0 0) (.slice none 0 0)
      exact ⟨_, rfl, replyAt_no' _ _ _ _ _ _, H3.out.2.2.only ho H3.out.1 HNE.out.1 HNE.out.2, turn_only H3.out.2.1 ho (Nat.le_refl _)⟩
end Go.Proofs.YtbebgobboccjcaaGreatDoor
