/- A node's names; readdir, stat. -/
import Derived.Test.YtchajlaflehodaaGreatDoorG4
namespace Go.Proofs.YtchajlaflehodaaGreatDoor
open Go.RowKit Kit
set_option linter.unusedVariables false

theorem strs_one (l : List ByteArray) : ∀ v ∈ strs l, v.oneCell' = true := by
  intro v hv
  unfold strs at hv
  obtain ⟨x, _, rfl⟩ := List.mem_map.1 hv
  rfl
theorem strs_append (a b : List ByteArray) : strs (a ++ b) = strs a ++ strs b := by unfold strs; rw [List.map_append]
set_option maxRecDepth 4000 in
set_option maxHeartbeats 8000000 in
theorem dnames_any (n : NodeB) (kd : Int) (da sa : Option Addr) (dn dc sc : Nat) (w : World) (hs : SeesS w (.slice sa n.names.length sc) (pairsB n)) (ok : NodeOK n) (hsm : n.names.length ≤ 10000) :
    Calls Tryz.prog 52 #[.agg #[.int .i64 kd, .slice da dn dc, .slice sa n.names.length sc]] w fun e w' => ∃ r, e = .returned r ∧ RowV w' w.heap.size 9 r (strs n.names) ∧ Below w.heap.size w w' := by
  obtain ⟨ao, cap, e, h1, h2, h3, h4⟩ := hs
  injection e with e1 e2 e3
  subst e1 e3
  have hpl : (pairsB n).length = n.names.length := e2.symm
  rw [hpl] at h4
  have H4 : Hid (0 < n.names.length → _) := h4
  have HAT : Hid (∀ j (hj : j < n.names.length) (h2 : j < (pairsB n).length) (h3 : j < n.inos.length), (pairsB n)[j] = (n.names[j], n.inos[j])) := fun j hj _ _ => by simp [pairsB]
  have HPL : Hid ((pairsB n).length = n.names.length ∧ n.names.length = n.inos.length) := ⟨hpl, ok.len⟩
  have nl : (n.names.length : Int) ≤ 10000 := by omega
  clear h1 h2 h3 h4 e2 hpl ok
  go_enter Tryz.func52, Tryz.ntmps52
  go_wp2
  go_loopw [3, 9] (fun s3 s9 wr => ∃ j : Nat, j ≤ n.names.length ∧ s9 = .int .i64 (j : Int) ∧ Hid (RowV wr w.heap.size 9 s3 (strs (n.names.take j)) ∧ Below w.heap.size w wr)) (fun _ s9 _ => n.names.length - (intOf s9).toNat)
  case atStart => exact ⟨0, Nat.zero_le _, rfl, ⟨rowV_nil _ _ _, (Below.refl _ _).alloc (Nat.le_refl _) _⟩⟩
  case round =>
    obtain ⟨j, hj, rfl, HI⟩ := hrel
    by_cases hlt : j < n.names.length
    · obtain ⟨g, off, hao, hb, hc⟩ := H4.out (by omega)
      subst hao
      have hj2 : j < (pairsB n).length := by rw [HPL.out.1]; exact hlt
      have hj3 : j < n.inos.length := by rw [← HPL.out.2]; exact hlt
      have cc := at2_of hc (k := j) hj2
      have c0 := (HI.out.2.cell hb).trans cc.1
      have c1 := (HI.out.2.cell hb).trans cc.2
      rw [HAT.out j hlt hj2 hj3] at c0 c1
      simp only at c0 c1
      obtain ⟨y, hy⟩ : ∃ y, n.inos[j] = y := ⟨_, rfl⟩
      obtain ⟨x, hx⟩ : ∃ x, n.names[j] = x := ⟨_, rfl⟩
      rw [hx] at c0
      rw [hy] at c1
      have HX : Hid (n.names.take (j + 1) = n.names.take j ++ [x]) := by show _ = _; rw [List.take_succ_eq_append_getElem hlt, hx]
      have jl : (j : Int) < (n.names.length : Int) := by omega
      obtain ⟨w0, hw0⟩ : ∃ z, z = (wr.alloc (.cells #[.string x, .int .i64 y] 80)) := ⟨_, rfl⟩
      have HW0 : Hid (RowV (w0.alloc (.cells #[.string x] 9)) w.heap.size 9 u3 (strs (n.names.take j)) ∧ Below w.heap.size w (w0.alloc (.cells #[.string x] 9)) ∧ Sees (w0.alloc (.cells #[.string x] 9)) (.slice (some ⟨wr.heap.size + 1, 0, none⟩) 1 1) [.string x] ∧ w.heap.size ≤ (w0.alloc (.cells #[.string x] 9)).heap.size) := by
        have b1 : Below wr.heap.size wr w0 := by rw [hw0]; exact (Below.refl _ _).alloc (Nat.le_refl _) _
        have b2 : Below w0.heap.size w0 (w0.alloc (.cells #[.string x] 9)) := (Below.refl _ _).alloc (Nat.le_refl _) _
        have hs0 : w0.heap.size = wr.heap.size + 1 := by rw [hw0]; simp
        have b3 := bel2v (bel2v HI.out.2 b1) b2
        exact ⟨(HI.out.1.below b1).below b2, b3, sees_one w0 9 (.string x) _ hs0, b3.size⟩
      rw [hw0] at HW0
      have HLE : Hid (((strs (n.names.take j)).length + ([.string x] : List Value).length) * 16 ≤ 140737488355328) := by
        show _ ≤ _
        rw [strs_len, List.length_take]
        simp
        omega
      clear cc hc hx hy hw0 hj2 hj3
      go_wp2_with (at_builtin; refine wpList_appV Tryz.underlying31 infoSt rfl (by omega) rfl _ _ rfl w.heap.size _ (strs (n.names.take j)) rfl HW0.out.1 _ [.string x] rfl HW0.out.2.2.1 (by intro u hu; simp at hu; subst hu; rfl) HLE.out HW0.out.2.2.2 ?_; intro v' w' k1 k2)
      have HK : Hid (RowV w' w.heap.size 9 v' (strs (n.names.take (j + 1))) ∧ Below w.heap.size w w') := by
        refine ⟨?_, HW0.out.2.1.trans k2⟩
        rw [HX.out, strs_append]
        exact k1
      clear k1 k2
      go_wp2
      go_roundw
      case rel => exact ⟨j + 1, by omega, by simp, HK⟩
      case measure => simp [intOf]; omega
    · have ej : j = n.names.length := by omega
      subst ej
      have HT : Hid (n.names.take n.names.length = n.names) := List.take_length
      go_wp2
      go_ret
      refine ⟨_, rfl, ?_, HI.out.2⟩
      have := HI.out.1
      rw [HT.out] at this
      exact this
def readdirF (t : TreeB) (f : Except Int Nat) : TreeB × ReplyB × Int := match f with
  | .error e => (t, noReply, e)
  | .ok k => if (nodeAt t k).kind ≠ 2 then (t, noReply, 8) else (t, { noReply with names := (nodeAt t k).names }, 0)
def statF (t : TreeB) (f : Except Int Nat) : TreeB × ReplyB × Int := match f with
  | .error e => (t, noReply, e)
  | .ok k => (t, ⟨(nodeAt t k).ino, (nodeAt t k).kind, sizeB (nodeAt t k), linksB t (nodeAt t k).ino, 0, [], [], []⟩, 0)
theorem readdir_eq (t : TreeB) (o : OpB) (ho : o.kind = 11) : looksB t o = readdirF t (findB t o.path) := by
  unfold looksB
  cases findB t o.path with
  | error e => rfl
  | ok k => simp only [readdirF]; rw [if_neg (by omega)]
theorem stat_eq (t : TreeB) (o : OpB) (ho : o.kind = 10) : looksB t o = statF t (findB t o.path) := by
  unfold looksB
  cases findB t o.path with
  | error e => rfl
  | ok k => simp only [statF]; rw [if_pos ho]; rfl
set_option maxRecDepth 4000 in
set_option maxHeartbeats 8000000 in
theorem dreaddir_any (o : OpB) (w : World) (p b : Nat) (t : TreeB) (hT : DTree w p b t) (hG : Good t) (hs1 : o.path.size ≤ maxLen) :
    Calls Tryz.prog 47 #[.pointer (some ⟨p, 0, none⟩), .string o.path] w fun e w' => Told w p b (readdirF t (findB t o.path)) e w' := by
  have ht := hG.e.fair
  have HR0 : Hid (RBox (w.alloc (.cells #[.int .i64 0, .int .i64 0, .int .i64 0, .int .i64 0, .int .i64 0, .slice none 0 0, .slice none 0 0, .slice none 0 0] 34)) w.heap.size ∧ Below w.heap.size w (w.alloc (.cells #[.int .i64 0, .int .i64 0, .int .i64 0, .int .i64 0, .int .i64 0, .slice none 0 0, .slice none 0 0, .slice none 0 0] 34))) := ⟨rbox_new w, (Below.refl _ _).alloc (Nat.le_refl _) _⟩
  have HFd : Hid (∀ W, Below w.heap.size w W → _) := fun W hW => dfind_any o.path W p b t (hT.below hW) ht hs1
  have HT : Hid (DTree w p b t ∧ Good t) := ⟨hT, hG⟩
  obtain ⟨f, hf⟩ : ∃ h, findB t o.path = h := ⟨_, rfl⟩
  have HF0 : Hid (findB t o.path = f) := hf
  rw [hf] at HFd ⊢
  have hpb := hT.cells.2.2.2
  have HNE : Hid (w.heap.size ≠ p ∧ w.heap.size ≠ b) := ⟨by omega, by omega⟩
  clear hs1 hf hT hG ht
  cases f with
  | error x =>
    have hx := find_code' HF0.out
    have HE : Hid (errV x = .iface 68 (.int .i64 x)) := errV_ne hx
    simp only [outW2] at HFd
    rw [errV_ne hx] at HFd
    clear hx
    go_enter Tryz.func47, Tryz.ntmps47
    go_wp2_with fail
    go_at_call 20
    refine (HFd.out _ HR0.out.2).mono ?_
    rintro e w1 ⟨rfl, hb1⟩
    have H1 : Hid (RBox w1 w.heap.size ∧ Below w.heap.size w w1) := ⟨HR0.out.1.below hb1, bel2v HR0.out.2 hb1⟩
    obtain ⟨b0, b1, b2, b3, b4, b5, b6, b7, bf, _⟩ := H1.out.1.c
    clear hb1 HFd HR0
    go_wp2
    refine bodyPost_ret (v := .tuple #[.agg #[.int .i64 0, .int .i64 0, .int .i64 0, .int .i64 0, .int .i64 0, .slice none 0 0, .slice none 0 0, .slice none 0 0], .iface 68 (.int .i64 x)]) (by simp [results, Tryz.results47, go_sem, *]) rfl ?_
    have ho := outR_only w1 w.heap.size (.int .i64 0) (.int .i64 0) (.int .i64 0) (.int .i64 0) (.int .i64 0) (.slice none 0 0) (.slice none 0 0) (.slice none 0 0)
    exact ⟨_, by simp only [readdirF]; rw [HE.out], replyAt_no' _ _ _ _ _ _, (HT.out.1.below H1.out.2).only ho H1.out.1 HNE.out.1 HNE.out.2, turn_only (turn_below H1.out.2) ho (Nat.le_refl _)⟩
  | ok k =>
    have hk := find_lt HT.out.2.e.fair HF0.out
    obtain ⟨da, dc, sa, sc, hlook⟩ := HT.out.1.lookAt HT.out.2.e.fair hk
    have hkk := HT.out.2.e.fair.kind (nodeAt_mem hk)
    have hnm := HT.out.2.e.fair.names _ (nodeAt_mem hk)
    have ok := HT.out.2.e.each _ (nodeAt_mem hk)
    have HLK : Hid (∀ W, Below w.heap.size w W → _) := hlook
    have HNM : Hid (∀ W, Below w.heap.size w W → Calls Tryz.prog 52 #[.agg #[.int .i64 2, .slice da (nodeAt t k).data.length dc, .slice sa (nodeAt t k).names.length sc]] W fun e w' => ∃ ao cap, e = .returned (.slice ao (nodeAt t k).names.length cap) ∧ Hid (Sees w' (.slice ao (nodeAt t k).names.length cap) (strs (nodeAt t k).names) ∧ (∀ a, ao = some a → W.heap.size ≤ a.block) ∧ Below W.heap.size W w')) := fun W hW => by
      refine (dnames_any (nodeAt t k) 2 da sa (nodeAt t k).data.length dc sc W (hlook W hW).2.2.2 ok hnm).mono ?_
      rintro e w' ⟨r, rfl, hr, hb⟩
      obtain ⟨ao, cap, e1, _⟩ := hr.sees
      rw [strs_len] at e1
      subst e1
      exact ⟨ao, cap, rfl, ⟨hr.sees, fun a ha => hr.block a.block (by rw [ha]; rfl), hb⟩⟩
    simp only [outW2] at HFd
    have e00 : errV 0 = .nilIface := rfl
    rw [e00] at HFd
    have HRE : Hid (readdirF t (.ok k) = if (nodeAt t k).kind ≠ 2 then (t, noReply, 8) else (t, { noReply with names := (nodeAt t k).names }, 0)) := rfl
    obtain ⟨ii, hii⟩ : ∃ jj, (nodeAt t k).ino = jj := ⟨_, rfl⟩
    rw [hii] at HFd HLK
    obtain ⟨kk, hkq⟩ : ∃ jj, (nodeAt t k).kind = jj := ⟨_, rfl⟩
    rw [hkq] at HLK hkk HRE
    obtain ⟨dn, hdn⟩ : ∃ jj, (nodeAt t k).data.length = jj := ⟨_, rfl⟩
    rw [hdn] at HLK HNM
    clear hlook hnm ok e00 hii hkq hdn
    rcases hkk with rfl | rfl
    · have HR : Hid (readdirF t (.ok k) = (t, noReply, 8)) := by show _ = _; rw [HRE.out, if_pos (by omega)]
      rw [HR.out]
      clear HRE HNM
      go_enter Tryz.func47, Tryz.ntmps47
      go_wp2_with fail
      go_at_call 20
      refine (HFd.out _ HR0.out.2).mono ?_
      rintro e w1 ⟨rfl, hb1⟩
      have H1 : Hid (RBox w1 w.heap.size ∧ Below w.heap.size w w1) := ⟨HR0.out.1.below hb1, bel2v HR0.out.2 hb1⟩
      obtain ⟨hl, c0, _⟩ := HLK.out w1 H1.out.2
      have H2 : Hid (RBox (w1.alloc (.cells #[.int .i64 1, .slice da dn dc, .slice sa (nodeAt t k).names.length sc] 63)) w.heap.size ∧ Below w.heap.size w (w1.alloc (.cells #[.int .i64 1, .slice da dn dc, .slice sa (nodeAt t k).names.length sc] 63))) := ⟨H1.out.1.below ((Below.refl _ _).alloc (Nat.le_refl _) _), H1.out.2.alloc H1.out.2.size _⟩
      obtain ⟨b0, b1, b2, b3, b4, b5, b6, b7, bf, bl⟩ := H1.out.1.c
      clear hb1 HFd HR0 HLK
      go_wp2
      refine bodyPost_ret (v := .tuple #[.agg #[.int .i64 0, .int .i64 0, .int .i64 0, .int .i64 0, .int .i64 0, .slice none 0 0, .slice none 0 0, .slice none 0 0], .iface 68 (.int .i64 8)]) (by simp [results, Tryz.results47, go_sem, *]) rfl ?_
      have hf := told_fin (HT.out.1.below H1.out.2) (turn_below (p := p) (b := b) H1.out.2) H1.out.1 (Nat.le_refl _) HNE.out.1 HNE.out.2 (outR_only w1 w.heap.size (.int .i64 0) (.int .i64 0) (.int .i64 0) (.int .i64 0) (.int .i64 0) (.slice none 0 0) (.slice none 0 0) (.slice none 0 0)) ((Below.refl _ _).alloc (Nat.le_refl _) (.cells #[.int .i64 1, .slice da dn dc, .slice sa (nodeAt t k).names.length sc] 63))
      exact ⟨_, rfl, replyAt_no' _ _ _ _ _ _, hf.1, hf.2⟩
    · have HR : Hid (readdirF t (.ok k) = (t, { noReply with names := (nodeAt t k).names }, 0)) := by show _ = _; rw [HRE.out, if_neg (by omega)]
      rw [HR.out]
      clear HRE
      go_enter Tryz.func47, Tryz.ntmps47
      go_wp2_with fail
      go_at_call 20
      refine (HFd.out _ HR0.out.2).mono ?_
      rintro e w1 ⟨rfl, hb1⟩
      have H1 : Hid (RBox w1 w.heap.size ∧ Below w.heap.size w w1) := ⟨HR0.out.1.below hb1, bel2v HR0.out.2 hb1⟩
      obtain ⟨hl, c0, _⟩ := HLK.out w1 H1.out.2
      have bl := H1.out.1.c.2.2.2.2.2.2.2.2.2
      clear hb1 HFd HR0 HLK
      go_wp2_with fail
      go_at_call 52
      refine (HNM.out _ (H1.out.2.alloc H1.out.2.size _)).mono ?_
      rintro e w2 ⟨ao, cap, rfl, HS⟩
      have H2 : Hid (RBox w2 w.heap.size ∧ Below w.heap.size w w2) := ⟨(H1.out.1.below ((Below.refl _ _).alloc (Nat.le_refl _) _)).below HS.out.2.2, bel2v (H1.out.2.alloc H1.out.2.size _) HS.out.2.2⟩
      obtain ⟨b0, b1, b2, b3, b4, b5, b6, b7, bf, _⟩ := H2.out.1.c
      clear HNM
      go_wp2
      refine bodyPost_ret (v := .tuple #[.agg #[.int .i64 0, .int .i64 0, .int .i64 0, .int .i64 0, .int .i64 0, .slice none 0 0, .slice ao (nodeAt t k).names.length cap, .slice none 0 0], .nilIface]) (by simp [results, Tryz.results47, go_sem, *]) rfl ?_
      have ho := outR_only w2 w.heap.size (.int .i64 0) (.int .i64 0) (.int .i64 0) (.int .i64 0) (.int .i64 0) (.slice none 0 0) (.slice ao (nodeAt t k).names.length cap) (.slice none 0 0)
      have hf := told_fin (HT.out.1.below H2.out.2) (turn_below (p := p) (b := b) H2.out.2) H2.out.1 (Nat.le_refl _) HNE.out.1 HNE.out.2 ho (Below.refl _ _)
      exact ⟨_, rfl, ⟨_, _, _, rfl, sees_nil0 _ _ rfl, sees_only HS.out.1 ho (H2.out.1.nostr _), sees_nil0 _ _ rfl⟩, hf.1, hf.2⟩
end Go.Proofs.YtchajlaflehodaaGreatDoor
