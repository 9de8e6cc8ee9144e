/- name: an inode is given a name. -/
import Derived.Test.YtbebgobboccjcaaGreatDoorH2
namespace Go.Proofs.YtbebgobboccjcaaGreatDoor
open Go.RowKit Kit
set_option linter.unusedVariables false

set_option maxRecDepth 4000 in
set_option maxHeartbeats 16000000 in
theorem dname_any (s : ByteArray) (ino : Int) (w : World) (p b : Nat) (t : TreeB) (k : Nat) (hT : DTree w p b t) (ht : Fair t) (hk : k < t.nodes.length) (hk2 : (nodeAt t k).kind = 2) (hs : s ∉ (nodeAt t k).names) (hsz : s.size ≤ 12) :
 Calls Tryz.prog 95 #[.pointer (some ⟨p, 0, none⟩), .int .i64 (nodeAt t k).ino, .string s, .int .i64 ino] w fun e w' => e = .returned (.tuple #[]) ∧ DTree w' p b (setB t k (withB (nodeAt t k) s ino)) ∧ Turn p b w w' := by
 have ok := ht.each _ (nodeAt_mem hk)
 have hnm := ht.names _ (nodeAt_mem hk)
 obtain ⟨da, dc, sa, sc, hlook⟩ := hT.lookAt ht hk
 have HLK : Hid (∀ W, Below w.heap.size w W → _) := hlook
 have hl0 := (hlook w (Below.refl _ _)).1
 have c0 := (hlook w (Below.refl _ _)).2.1
 have HSR : Hid (∀ W, Below w.heap.size w W → _) := fun W hW => dsearch_any (dnOf (nodeAt t k) da dc sa sc) s W ((hlook W hW).2.2) ok.1 ok.len (by show (nodeAt t k).names.length ≤ _; omega)
 have hsv := (hlook w (Below.refl _ _)).2.2.2
 have hpl : (pairsB (nodeAt t k)).length = (nodeAt t k).names.length := by unfold pairsB; rw [List.length_zip]; have := ok.len; omega
 have hlo := low_le (nodeAt t k).names s
 have HPW : Hid (pairsB (withB (nodeAt t k) s ino) = _) := pairs_with ok hs ino
 have HHAS : Hid (hasB (nodeAt t k).names s = false) := by
  show _ = _
  cases hh : hasB (nodeAt t k).names s with
  | false => rfl
  | true => exact absurd (has_iff.1 hh) hs
 have hdn : (dnOf (nodeAt t k) da dc sa sc).val = .agg #[.int .i64 2, .slice da (nodeAt t k).data.length dc, .slice sa (nodeAt t k).names.length sc] := by unfold DN.val dnOf; simp only; rw [hk2]
 rw [hdn] at HSR
 have e3 : (dnOf (nodeAt t k) da dc sa sc).n = nodeAt t k := rfl
 rw [e3] at HSR
 rw [HHAS.out] at HSR
 obtain ⟨i, hi⟩ : ∃ i, lowB (nodeAt t k).names s = i := ⟨_, rfl⟩
 rw [hi] at HSR HPW hlo
 obtain ⟨a2, c2, r1, r2, q1, q2⟩ := cut_runs (w := w) (sa := sa) (n := (nodeAt t k).names.length) (sc := sc) hsv i i hlo hlo
 obtain ⟨n, hn⟩ : ∃ n, (nodeAt t k).names.length = n := ⟨_, rfl⟩
 obtain ⟨dn, hdl⟩ : ∃ n, (nodeAt t k).data.length = n := ⟨_, rfl⟩
 obtain ⟨ii, hii⟩ : ∃ x, (nodeAt t k).ino = x := ⟨_, rfl⟩
 rw [hn] at r1 r2 q2 hl0 HSR hlo hpl hnm
 rw [hdl] at hl0 HSR
 rw [hii, hk2] at hl0
 rw [hii]
 -- what Concat answers
 have HCC : Hid (∀ W, Below w.heap.size w W → ∀ B, NBox W B 2 (.slice da dn dc) (.slice sa n sc) → Calls Tryz.prog 129 #[.slice (some ⟨W.heap.size + 1, 0, none⟩) 3 3] ((W.alloc (.cells #[.string s, .int .i64 ino] 97)).alloc (.cells #[.slice sa i sc, .slice (some ⟨W.heap.size, 0, none⟩) 1 1, .slice a2 (n - i) c2] 68)) fun e w' => ∃ g cap, e = .returned (.slice (some ⟨g, 0, none⟩) (n + 1) cap) ∧ w'.cell? ⟨B, 0, none⟩ = some (.int .i64 2) ∧ w'.cell? ⟨B, 1, none⟩ = some (.slice da dn dc) ∧ w'.cell? ⟨B, 2, none⟩ = some (.slice sa n sc) ∧ (∀ j, w'.frozen? ⟨B, j, none⟩ = false) ∧ Hid (W.heap.size ≤ g ∧ SeesS w' (.slice (some ⟨g, 0, none⟩) (n + 1) cap) (pairsB (withB (nodeAt t k) s ino)) ∧ NBox w' B 2 (.slice da dn dc) (.slice sa n sc) ∧ Below w.heap.size w w')) := fun W hW B hB => by
  have b1 : Below W.heap.size W (W.alloc (.cells #[.string s, .int .i64 ino] 97)) := (Below.refl _ _).alloc (Nat.le_refl _) _
  obtain ⟨W1, hW1⟩ : ∃ z, z = W.alloc (.cells #[.string s, .int .i64 ino] 97) := ⟨_, rfl⟩
  have hsz1 : W1.heap.size = W.heap.size + 1 := by rw [hW1]; simp
  have b2 : Below W1.heap.size W1 (W1.alloc (.cells #[.slice sa i sc, .slice (some ⟨W.heap.size, 0, none⟩) 1 1, .slice a2 (n - i) c2] 68)) := (Below.refl _ _).alloc (Nat.le_refl _) _
  have s1 := seesS_one W s ino
  have sl := sees_lit W1 [.slice sa i sc, .slice (some ⟨W.heap.size, 0, none⟩) 1 1, .slice a2 (n - i) c2] 68 (by simp)
  rw [← hW1] at b1 s1 ⊢
  rw [hsz1] at sl
  obtain ⟨W2, hW2⟩ : ∃ z, z = W1.alloc (.cells #[.slice sa i sc, .slice (some ⟨W.heap.size, 0, none⟩) 1 1, .slice a2 (n - i) c2] 68) := ⟨_, rfl⟩
  have sl : Sees W2 (.slice (some ⟨W.heap.size + 1, 0, none⟩) 3 3) [.slice sa i sc, .slice (some ⟨W.heap.size, 0, none⟩) 1 1, .slice a2 (n - i) c2] := by rw [hW2]; exact sl
  rw [← hW2] at b2 ⊢
  have bw : Below w.heap.size w W2 := bel2v (bel2v hW b1) b2
  have hl1 : ((pairsB (nodeAt t k)).take i).length = i := by rw [List.length_take]; omega
  have hl2 : ((pairsB (nodeAt t k)).drop i).length = n - i := by rw [List.length_drop]; omega
  refine (dconcat_any _ _ [(pairsB (nodeAt t k)).take i, [(s, ino)], (pairsB (nodeAt t k)).drop i] W2 sl (by simp) (by simp) (fun j h1 h2 => ?_) (by simp [hl1, hl2]; omega)).mono ?_
  · match j, h1, h2 with
    | 0, _, _ => exact q1.below bw
    | 1, _, _ => exact s1.below b2
    | 2, _, _ => exact q2.below bw
  · rintro e w' ⟨r, rfl, hr, hb⟩
    have hfl : [(pairsB (nodeAt t k)).take i, [(s, ino)], (pairsB (nodeAt t k)).drop i].flatten = pairsB (withB (nodeAt t k) s ino) := by rw [HPW.out]; simp
    rw [hfl] at hr
    have hln : (pairsB (withB (nodeAt t k) s ino)).length = n + 1 := by rw [HPW.out, List.length_append, List.length_cons, hl1, hl2]; omega
    obtain ⟨g, cap, rfl, hg⟩ := hr.form (by omega)
    rw [hln] at hr ⊢
    have hB2 := ((hB.below b1).below b2).below hb
    obtain ⟨d0, d1, d2, d3, _⟩ := hB2.c
    have := b2.size
    have := b1.size
    exact ⟨g, cap, rfl, d0, d1, d2, d3, ⟨by omega, hr.sees, hB2, bel2v bw hb⟩⟩
 have HCL : Hid (∀ W, NBox W w.heap.size 2 (.slice da dn dc) (.slice sa n sc) ∧ Below w.heap.size w W → Calls Tryz.prog 70 #[.string s] W fun e w' => e = .returned (.string s) ∧ w'.cell? ⟨w.heap.size, 2, none⟩ = some (.slice sa n sc) ∧ w.heap.size < w'.heap.size ∧ Hid (NBox w' w.heap.size 2 (.slice da dn dc) (.slice sa n sc) ∧ Below w.heap.size w w')) := fun W hW => by
  refine (dsclone_any s W (by omega)).mono ?_
  rintro e w' ⟨rfl, hb⟩
  exact ⟨rfl, (hW.1.below hb).c.2.2.1, (hW.1.below hb).c.2.2.2.2, ⟨hW.1.below hb, bel2v hW.2 hb⟩⟩
 have il : (i : Int) ≤ (n : Int) := by omega
 have nl : (n : Int) ≤ 10000 := by omega
 have HB0 : Hid (NBox (w.alloc (.cells #[.int .i64 2, .slice da dn dc, .slice sa n sc] 70)) w.heap.size 2 (.slice da dn dc) (.slice sa n sc)) := (MapKept.heap_alloc w _).1
 have HT : Hid (DTree w p b t ∧ Fair t) := ⟨hT, ht⟩
 have HDV : Hid (Sees w (.slice da dn dc) (intsV .u8 (nodeAt t k).data)) := by
  have := (hlook w (Below.refl _ _)).2.2.1
  show Sees _ _ _
  rw [← hdl]; exact this
 have HW : Hid ((withB (nodeAt t k) s ino).ino = (nodeAt t k).ino ∧ (withB (nodeAt t k) s ino).kind = 2 ∧ (withB (nodeAt t k) s ino).data = (nodeAt t k).data) := by
  refine ⟨rfl, hk2, ?_⟩
  rcases ok.2.2 with h | h
  · rw [h.2.1]; rfl
  · omega
 have HTL : Hid (∀ w3 g cap, w.heap.size < g → SeesS w3 (.slice (some ⟨g, 0, none⟩) (n + 1) cap) (pairsB (withB (nodeAt t k) s ino)) → Below w.heap.size w w3 → NBox w3 w.heap.size 2 (.slice da dn dc) (.slice sa n sc) → ∃ w5, (Instr.mapUpdate 50 (.map (some b)) (.int .i64 ii) (.agg #[.int .i64 2, .slice da dn dc, .slice (some ⟨g, 0, none⟩) (n + 1) cap])).run Tryz.prog (w3.setCell ⟨w.heap.size, 2, none⟩ (.slice (some ⟨g, 0, none⟩) (n + 1) cap)).drew = .ok () w5 ∧ Hid (DTree w5 p b (setB t k (withB (nodeAt t k) s ino)) ∧ Turn p b w w5) ∧
  (w3.setCell ⟨w.heap.size, 2, none⟩ (.slice (some ⟨g, 0, none⟩) (n + 1) cap)).cell? ⟨w.heap.size, 0, none⟩ = some (.int .i64 2) ∧ (w3.setCell ⟨w.heap.size, 2, none⟩ (.slice (some ⟨g, 0, none⟩) (n + 1) cap)).cell? ⟨w.heap.size, 1, none⟩ = some (.slice da dn dc) ∧ (w3.setCell ⟨w.heap.size, 2, none⟩ (.slice (some ⟨g, 0, none⟩) (n + 1) cap)).cell? ⟨w.heap.size, 2, none⟩ = some (.slice (some ⟨g, 0, none⟩) (n + 1) cap) ∧ (w3.setCell ⟨w.heap.size, 2, none⟩ (.slice (some ⟨g, 0, none⟩) (n + 1) cap)).cell? ⟨p, 0, none⟩ = some (.map (some b))) := fun w3 g cap hg h1 h2 h3 => by
  have hdv := HDV.out
  rw [← hdl] at hdv
  obtain ⟨w5, k1, k2, k3⟩ := put_tail hT ht hk hk2 (withB (nodeAt t k) s ino) HW.out.1 HW.out.2.1 HW.out.2.2 hdv (Nat.le_refl w.heap.size) h2 (seesS_set h1 (by omega) 2)
  rw [hdl, hii] at k1
  have hc := (h3.set2 (.slice (some ⟨g, 0, none⟩) (n + 1) cap)).c
  exact ⟨w5, k1, ⟨k2, k3⟩, hc.1, hc.2.1, hc.2.2.1, ((h2.setCell (Nat.le_refl _) _).cell (by exact hT.cells.2.2.2.1)).trans hT.cells.1⟩
 clear hlook HLK hT ht ok hnm hsv hpl hlo HHAS hdn e3 q1 q2 hn hdl hs hi HPW HDV HW hk2 hii
 go_enter Tryz.func95, Tryz.ntmps95
 go_wp2_with fail
 go_at_call 116
 refine (HSR.out _ ((Below.refl _ _).alloc (Nat.le_refl _) _)).mono ?_
 rintro e w1 ⟨rfl, hb1⟩
 have H1 : Hid (NBox w1 w.heap.size 2 (.slice da dn dc) (.slice sa n sc) ∧ Below w.heap.size w w1) := ⟨HB0.out.below hb1, bel2v ((Below.refl _ _).alloc (Nat.le_refl _) _) hb1⟩
 obtain ⟨d0, d1, d2, d3, _⟩ := H1.out.1.c
 clear hb1 HSR HB0 hl0
 have HCL1 : Hid (Calls Tryz.prog 70 #[.string s] w1.drew _) := HCL.out w1.drew ⟨by exact H1.out.1, H1.out.2.drew⟩
 clear HCL
 go_wp2
 go_region_with (first
  | (go_at_call 70; refine HCL1.out.mono ?_; rintro e w2 ⟨rfl, f2, f3, H2⟩)
  | (go_at_call 129; refine (HCC.out w2 H2.out.2 w.heap.size H2.out.1).mono ?_; rintro e w3 ⟨g, cap, rfl, k0, k1, k2, k3, H3⟩))
 all_goals (
  obtain ⟨w5, hput, H5, m0, m1, m2, m3⟩ := HTL.out w3 g cap (by have := H3.out.1; omega) H3.out.2.1 H3.out.2.2.2 H3.out.2.2.1
  clear HTL HCC H3 H2 H1 HCL1 k0 k1 k2 k3 f2 f3 d0 d1 d2 d3
  generalize (w3.setCell ⟨w.heap.size, 2, none⟩ (.slice (some ⟨g, 0, none⟩) (n + 1) cap)) = W4 at *
  go_wp2
  go_region
  all_goals (go_end0; exact ⟨rfl, H5.out⟩))
end Go.Proofs.YtbebgobboccjcaaGreatDoor
