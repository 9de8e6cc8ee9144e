/- stat. -/
import Derived.Test.YtbebgobboccjcaaGreatDoorH3
import Derived.Deep.RegionWith
namespace Go.Proofs.YtbebgobboccjcaaGreatDoor
open Go.RowKit Kit
set_option linter.unusedVariables false

theorem size_sum {n : NodeB} (ok : NodeOK n) : ((n.data.length : Int) + (n.names.length : Int)) = (sizeB n : Nat) := by
 unfold sizeB
 rcases ok.2.2 with h | h
 · rw [if_neg (by omega), h.2.1]; simp
 · rw [if_pos h.1, h.2.1]; simp
set_option maxRecDepth 4000 in
set_option maxHeartbeats 16000000 in
theorem dstat_any (o : OpB) (w : World) (p b : Nat) (t : TreeB) (hT : DTree w p b t) (hG : Good t) (hs1 : o.path.size ≤ maxLen) :
 Calls Tryz.prog 66 #[.pointer (some ⟨p, 0, none⟩), .string o.path] w fun e w' => Told w p b (statF t (findB t o.path)) e w' := by
 have ht := hG.e.fair
 have HR0 : Hid (RBox (w.alloc (.cells #[.int .i64 0, .int .i64 0, .int .i64 0, .int .i64 0, .int .i64 0, .slice none 0 0, .slice none 0 0, .slice none 0 0] 40)) w.heap.size ∧ Below w.heap.size w (w.alloc (.cells #[.int .i64 0, .int .i64 0, .int .i64 0, .int .i64 0, .int .i64 0, .slice none 0 0, .slice none 0 0, .slice none 0 0] 40))) := ⟨rbox_new w, (Below.refl _ _).alloc (Nat.le_refl _) _⟩
 have HFd : Hid (∀ W, Below w.heap.size w W → _) := fun W hW => dfind_any o.path W p b t (hT.below hW) ht hs1
 have HT : Hid (DTree w p b t ∧ Good t) := ⟨hT, hG⟩
 obtain ⟨f, hf⟩ : ∃ h, findB t o.path = h := ⟨_, rfl⟩
 have HF0 : Hid (findB t o.path = f) := hf
 rw [hf] at HFd ⊢
 have hpb := hT.cells.2.2.2
 have HNE : Hid (w.heap.size ≠ p ∧ w.heap.size ≠ b) := ⟨by omega, by omega⟩
 clear hs1 hf hT hG ht
 cases f with
 | error x =>
   have hx := find_code' HF0.out
   have HE : Hid (errV x = .iface 80 (.int .i64 x)) := errV_ne hx
   simp only [outW2] at HFd
   rw [errV_ne hx] at HFd
   clear hx
   go_enter Tryz.func66, Tryz.ntmps66
   go_wp2_with fail
   go_at_call 22
   refine (HFd.out _ HR0.out.2).mono ?_
   rintro e w1 ⟨rfl, hb1⟩
   have H1 : Hid (RBox w1 w.heap.size ∧ Below w.heap.size w w1) := ⟨HR0.out.1.below hb1, bel2v HR0.out.2 hb1⟩
   obtain ⟨b0, b1, b2, b3, b4, b5, b6, b7, bf, _⟩ := H1.out.1.c
   clear hb1 HFd HR0
   go_wp2
   refine bodyPost_ret (v := .tuple #[.agg #[.int .i64 0, .int .i64 0, .int .i64 0, .int .i64 0, .int .i64 0, .slice none 0 0, .slice none 0 0, .slice none 0 0], .iface 80 (.int .i64 x)]) (by simp [results, Tryz.results66, go_sem, *]) rfl ?_
   have ho := outR_only w1 w.heap.size (.int .i64 0) (.int .i64 0) (.int .i64 0) (.int .i64 0) (.int .i64 0) (.slice none 0 0) (.slice none 0 0) (.slice none 0 0)
   exact ⟨_, by simp only [statF]; rw [HE.out], replyAt_no' _ _ _ _ _ _, (HT.out.1.below H1.out.2).only ho H1.out.1 HNE.out.1 HNE.out.2, turn_only (turn_below H1.out.2) ho (Nat.le_refl _)⟩
 | ok k =>
   have hk := find_lt HT.out.2.e.fair HF0.out
   obtain ⟨da, dc, sa, sc, hlook⟩ := HT.out.1.lookAt HT.out.2.e.fair hk
   have hnm := HT.out.2.e.fair.names _ (nodeAt_mem hk)
   have ok := HT.out.2.e.each _ (nodeAt_mem hk)
   have hdl : (nodeAt t k).data.length ≤ 2000 := by
    rcases ok.2.2 with h | h
    · rw [h.2.1]; simp
    · exact h.2.2.2.1
   have HLK : Hid (∀ W, Below w.heap.size w W → _) := hlook
   have hlk := links_eq HT.out.2 hk
   have HLN : Hid (∀ W, Below w.heap.size w W → Calls Tryz.prog 29 #[.pointer (some ⟨p, 0, none⟩), .int .i64 (nodeAt t k).ino] W fun e w' => e = .returned (.int .i64 (linksB t (nodeAt t k).ino : Nat)) ∧ Below W.heap.size W w') := fun W hW => by
    have := dlinks_any (nodeAt t k).ino W p b t (HT.out.1.below hW) HT.out.2.e.fair
    rw [hlk] at this
    exact this
   have hsum := size_sum ok
   simp only [outW2] at HFd
   have e00 : errV 0 = .nilIface := rfl
   rw [e00] at HFd
   have HRE : Hid (statF t (.ok k) = (t, ⟨(nodeAt t k).ino, (nodeAt t k).kind, sizeB (nodeAt t k), linksB t (nodeAt t k).ino, 0, [], [], []⟩, 0)) := rfl
   obtain ⟨L, hL⟩ : ∃ L, linksB t (nodeAt t k).ino = L := ⟨_, rfl⟩
   rw [hL] at HLN HRE
   obtain ⟨ii, hii⟩ : ∃ jj, (nodeAt t k).ino = jj := ⟨_, rfl⟩
   rw [hii] at HFd HLK HLN HRE
   obtain ⟨kk, hkq⟩ : ∃ jj, (nodeAt t k).kind = jj := ⟨_, rfl⟩
   rw [hkq] at HLK HRE
   obtain ⟨sz, hsz⟩ : ∃ jj : Int, ((sizeB (nodeAt t k) : Nat) : Int) = jj := ⟨_, rfl⟩
   rw [hsz] at hsum HRE
   obtain ⟨dn, hdn⟩ : ∃ jj, (nodeAt t k).data.length = jj := ⟨_, rfl⟩
   rw [hdn] at HLK hdl hsum
   obtain ⟨sn, hsn⟩ : ∃ jj, (nodeAt t k).names.length = jj := ⟨_, rfl⟩
   rw [hsn] at HLK hnm hsum
   have hwr : IntKind.i64.wrap ((dn : Int) + (sn : Int)) = sz := by rw [IntKind.wrap_i64]; omega
   have HC1 : Hid (∀ w1, RBox w1 w.heap.size ∧ Below w.heap.size w w1 → Calls Tryz.prog 29 #[.pointer (some ⟨p, 0, none⟩), .int .i64 ii] (w1.alloc (.cells #[.int .i64 kk, .slice da dn dc, .slice sa sn sc] 70)).drew fun e w' => e = .returned (.int .i64 (L : Nat)) ∧ w'.cell? ⟨w1.heap.size, 0, none⟩ = some (.int .i64 kk) ∧ w'.cell? ⟨w1.heap.size, 1, none⟩ = some (.slice da dn dc) ∧ w'.cell? ⟨w1.heap.size, 2, none⟩ = some (.slice sa sn sc) ∧
    w'.cell? ⟨w.heap.size, 0, none⟩ = some (.int .i64 0) ∧ w'.cell? ⟨w.heap.size, 1, none⟩ = some (.int .i64 0) ∧ w'.cell? ⟨w.heap.size, 2, none⟩ = some (.int .i64 0) ∧ w'.cell? ⟨w.heap.size, 3, none⟩ = some (.int .i64 0) ∧ w'.cell? ⟨w.heap.size, 4, none⟩ = some (.int .i64 0) ∧ w'.cell? ⟨w.heap.size, 5, none⟩ = some (.slice none 0 0) ∧ w'.cell? ⟨w.heap.size, 6, none⟩ = some (.slice none 0 0) ∧ w'.cell? ⟨w.heap.size, 7, none⟩ = some (.slice none 0 0) ∧ (∀ j, w'.frozen? ⟨w.heap.size, j, none⟩ = false) ∧ Hid (RBox w' w.heap.size ∧ Below w.heap.size w w')) := fun w1 H1 => by
    have b1 : Below w1.heap.size w1 (w1.alloc (.cells #[.int .i64 kk, .slice da dn dc, .slice sa sn sc] 70)).drew := ((Below.refl _ _).alloc (Nat.le_refl _) _).drew
    have nb : NBox (w1.alloc (.cells #[.int .i64 kk, .slice da dn dc, .slice sa sn sc] 70)).drew w1.heap.size kk (.slice da dn dc) (.slice sa sn sc) := (MapKept.heap_alloc w1 _).1
    refine (HLN.out _ (bel2v H1.2 b1)).mono ?_
    rintro e w' ⟨rfl, hb⟩
    have nc := (nb.below hb).c
    have rb := (H1.1.below b1).below hb
    have rc := rb.c
    exact ⟨rfl, nc.1, nc.2.1, nc.2.2.1, rc.1, rc.2.1, rc.2.2.1, rc.2.2.2.1, rc.2.2.2.2.1, rc.2.2.2.2.2.1, rc.2.2.2.2.2.2.1, rc.2.2.2.2.2.2.2.1, rc.2.2.2.2.2.2.2.2.1, ⟨rb, bel2v (bel2v H1.2 b1) hb⟩⟩
   rw [HRE.out]
   clear hlook hnm ok e00 hii hkq hdn hsn hL hlk hsum hdl hsz HLN HRE
   go_enter Tryz.func66, Tryz.ntmps66
   go_wp2_with fail
   go_at_call 22
   refine (HFd.out _ HR0.out.2).mono ?_
   rintro e w1 ⟨rfl, hb1⟩
   have H1 : Hid (RBox w1 w.heap.size ∧ Below w.heap.size w w1) := ⟨HR0.out.1.below hb1, bel2v HR0.out.2 hb1⟩
   obtain ⟨hl, c0, _⟩ := HLK.out w1 H1.out.2
   have HC2 : Hid (Calls Tryz.prog 29 _ _ _) := HC1.out w1 H1.out
   clear hb1 HFd HR0 HLK HC1
   go_wp2
   go_region_with (first
    | (go_at_call 29; refine HC2.out.mono ?_; rintro e w2 ⟨rfl, n0, n1, n2, b0, b1, b2, b3, b4, b5, b6, b7, bf, H2⟩))
   all_goals (
    clear HC2 hl c0
    go_wp2
    refine bodyPost_ret (v := .tuple #[.agg #[.int .i64 ii, .int .i64 kk, .int .i64 sz, .int .i64 (L : Nat), .int .i64 0, .slice none 0 0, .slice none 0 0, .slice none 0 0], .nilIface]) (by simp [results, Tryz.results66, go_sem, *]) rfl ?_
    have hf := told_fin (HT.out.1.below H2.out.2) (turn_below (p := p) (b := b) H2.out.2) H2.out.1 (Nat.le_refl _) HNE.out.1 HNE.out.2 (outR_only w2 w.heap.size (.int .i64 ii) (.int .i64 kk) (.int .i64 sz) (.int .i64 (L : Nat)) (.int .i64 0) (.slice none 0 0) (.slice none 0 0) (.slice none 0 0)) (Below.refl _ _)
    exact ⟨_, rfl, replyAt_no' _ _ _ _ _ _, hf.1, hf.2⟩)
end Go.Proofs.YtbebgobboccjcaaGreatDoor
