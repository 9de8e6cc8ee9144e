/- dolmenref5.rename: what one call answers. -/
import Derived.Test.YtbebgobboccjcaaGreatDoorH5
import Derived.Test.YtbebgobboccjcaaGreatDoorH1
import Derived.Test.YtbebgobboccjcaaGreatDoorH2
import Derived.Test.YtbebgobboccjcaaGreatDoorH3
import Derived.Test.YtbebgobboccjcaaGreatDoorPDPlain
import Derived.Deep.DeepCutAuto
import Derived.Deep.CutRange
import Derived.Deep.RegionHeld3
namespace Go.Proofs.YtbebgobboccjcaaGreatDoor
open Go.RowKit Kit
set_option linter.unusedVariables false

theorem cell_ofRn {w : World} {g j : Nat} {cs : Array Value} {t : TypeId} {v : Value} (h : w.heap[g]? = some (.cells cs t)) (hj : cs[j]? = some v) : w.cell? ⟨g, j, none⟩ = some v := by simp [World.cell?, h, hj]
theorem base5n {w : World} {t : TreeB} {fs : List FN} {b off : Nat} (h1 : fs.map FN.n = t.nodes) (h2 : ∀ f ∈ fs, f.is w) (h3 : ∀ k (hk : k < fs.length), At5 w b (off + k * 5) fs[k]) {k : Nat} (hk : k < t.nodes.length) :
 ∃ do2 nd dc2 mo2 mc2 io2 ni ic2, FN.is w ⟨nodeAt t k, .slice do2 nd dc2, .slice mo2 (nodeAt t k).names.length mc2, .slice io2 ni ic2⟩ ∧ At5 w b (off + k * 5) ⟨nodeAt t k, .slice do2 nd dc2, .slice mo2 (nodeAt t k).names.length mc2, .slice io2 ni ic2⟩ := by
 have hl := fs_len h1
 have hk' : k < fs.length := by omega
 have e := fs_at h1 hk'
 have hfi := h2 _ (List.getElem_mem hk')
 have ha := h3 k hk'
 obtain ⟨f, hf⟩ : ∃ f, fs[k] = f := ⟨_, rfl⟩
 rw [hf] at e hfi ha
 obtain ⟨nn, dd, mm, ii⟩ := f
 simp only at e
 subst e
 obtain ⟨do2, dc2, hdd, _⟩ := id hfi.1
 obtain ⟨mo2, mc2, hmm, _⟩ := id hfi.2.1
 obtain ⟨io2, ic2, hii, _⟩ := id hfi.2.2
 simp only at hdd hmm hii
 rw [strs_len] at hmm
 subst hdd hmm hii
 exact ⟨_, _, _, _, _, _, _, _, hfi, ha⟩
theorem below_blockRn {w w' : World} {g : Nat} {o : Obj} (hb : Below w.heap.size w w') (h : w.heap[g]? = some o) : w'.heap[g]? = some o := (hb.block g (Array.getElem?_eq_some_iff.1 h).1).trans h
set_option maxRecDepth 4000 in
set_option maxHeartbeats 40000000 in
theorem rename_n (v ov : Value) (t : TreeB) (o : OpB) (w : World) (hT : TreeAt w v t) (hg : Good t) (ho : OpAt w ov o) (k d p : Nat) (s old : ByteArray) (hpa : (parentB o.path).2.2 = 0) (hpt : (parentB o.to).2.2 = 0) (hfk : findB t o.path = .ok k) (hlo : ¬ ((nodeAt t k).kind = 2 ∧ o.to ≠ o.path ∧ underB o.to o.path = true)) (hht : homeB t o.to = .ok (d, s)) (hhp : homeB t o.path = .ok (p, old)) (j : Nat) (hz : nameB (nodeAt t d) s ≠ 0) (hj : placeO t (nameB (nodeAt t d) s) = some j) (c : Int) (hcs : (nameB (nodeAt t d) s = (nodeAt t k).ino ∧ c = 0) ∨ (nameB (nodeAt t d) s ≠ (nodeAt t k).ino ∧ (nodeAt t k).kind = 2 ∧ (nodeAt t j).kind = 1 ∧ c = 8) ∨ (nameB (nodeAt t d) s ≠ (nodeAt t k).ino ∧ (nodeAt t k).kind = 1 ∧ (nodeAt t j).kind = 2 ∧ c = 7) ∨ (nameB (nodeAt t d) s ≠ (nodeAt t k).ino ∧ (nodeAt t k).kind = (nodeAt t j).kind ∧ 0 < (nodeAt t j).names.length ∧ c = 9)) :
 Calls Tryz.prog 50 #[v, ov] w fun e w' => ∃ tv rv, e = .returned (.tuple #[tv, rv, .int .i64 (renameB t o).2.2]) ∧ TreeAt w' tv (renameB t o).1 ∧ ReplyAt w' rv (renameB t o).2.1 ∧ Below w.heap.size w w' := by
 have HT : Hid (TreeAt w v t) := hT
 obtain ⟨fs, hF⟩ : ∃ fs, TreeG w v t fs := by obtain ⟨sv, fs, h⟩ := hT; exact ⟨fs, sv, h⟩
 have HTF : Hid (TreeG w v t fs) := hF
 obtain ⟨ao, cap, rfl, q1, q2, q3, q4, q5⟩ := hF.opened
 obtain ⟨dv, rfl, ho1, ho2, ho3, ho4⟩ := ho
 obtain ⟨b, off, rfl, hb, hc⟩ := q5 hg.e.root0.1
 have hl := fs_len q3
 have lm : (t.nodes.length : Int) ≤ 60 := by have := hg.e.size; omega
 obtain ⟨do', dc, hdv, _⟩ := ho1
 obtain ⟨dn, hdn⟩ : ∃ n, (intsV .u8 o.data).length = n := ⟨_, rfl⟩
 rw [hdn] at hdv
 subst hdv
 have HG : Hid (Good t ∧ fs.map FN.n = t.nodes ∧ (∀ f ∈ fs, f.is w) ∧ b < w.heap.size ∧ ∀ k (hk : k < fs.length), At5 w b (off + k * 5) fs[k]) := ⟨hg, q3, q4, hb, hc⟩
 have HH : Hid (∀ W, Below w.heap.size w W → Calls Tryz.prog 83 #[.agg #[.slice (some ⟨b, off, none⟩) t.nodes.length cap, .int .i64 t.next], .string o.path] W fun e w' => e = .returned (resH (homeB t o.path)) ∧ Below W.heap.size W w') := fun W hb => home_any _ t o.path W (HT.out.below hb) hg ho2
 have HPa : Hid (∀ W, Calls Tryz.prog 87 #[.string o.path] W fun e w' => ∃ x1 x2, e = .returned (.tuple #[.string x1, .string x2, .int .i64 0]) ∧ Below W.heap.size W w') := fun W => by
  have h9 := parent_any o.path W ho2
  rw [hpa] at h9
  exact h9.mono fun e w' h => ⟨_, _, h.1, h.2⟩
 have HPt : Hid (∀ W, Calls Tryz.prog 87 #[.string o.to] W fun e w' => ∃ x1 x2, e = .returned (.tuple #[.string x1, .string x2, .int .i64 0]) ∧ Below W.heap.size W w') := fun W => by
  have h9 := parent_any o.to W ho3
  rw [hpt] at h9
  exact h9.mono fun e w' h => ⟨_, _, h.1, h.2⟩
 have HUn : Hid (∀ W, Calls Tryz.prog 24 #[.string o.to, .string o.path] W fun e w' => e = .returned (.bool (underB o.to o.path)) ∧ Below W.heap.size W w') := fun W => under_any o.to o.path W ho3 ho2
 have HFd : Hid (∀ W, Below w.heap.size w W → Calls Tryz.prog 53 #[.agg #[.slice (some ⟨b, off, none⟩) t.nodes.length cap, .int .i64 t.next], .string o.path] W fun e w' => e = .returned (.tuple #[.int .i64 (k : Int), .int .i64 0]) ∧ Below W.heap.size W w') := fun W hb => by
  have h9 := find_any _ t o.path W (HT.out.below hb) hg ho2
  rw [hfk] at h9
  exact h9
 have HHt : Hid (∀ W, Below w.heap.size w W → Calls Tryz.prog 83 #[.agg #[.slice (some ⟨b, off, none⟩) t.nodes.length cap, .int .i64 t.next], .string o.to] W fun e w' => e = .returned (.tuple #[.int .i64 (d : Int), .string s, .int .i64 0]) ∧ Below W.heap.size W w') := fun W hb => by
  have h9 := home_any _ t o.to W (HT.out.below hb) hg ho3
  rw [hht] at h9
  exact h9
 have HHp : Hid (∀ W, Below w.heap.size w W → Calls Tryz.prog 83 #[.agg #[.slice (some ⟨b, off, none⟩) t.nodes.length cap, .int .i64 t.next], .string o.path] W fun e w' => e = .returned (.tuple #[.int .i64 (p : Int), .string old, .int .i64 0]) ∧ Below W.heap.size W w') := fun W hb => by
  have h9 := home_any _ t o.path W (HT.out.below hb) hg ho2
  rw [hhp] at h9
  exact h9
 have HPl : Hid (∀ W i, Below w.heap.size w W → Calls Tryz.prog 23 #[.agg #[.slice (some ⟨b, off, none⟩) t.nodes.length cap, .int .i64 t.next], .int .i64 i] W fun e w' => e = .returned (.int .i64 (placeB t i)) ∧ Below W.heap.size W w') := fun W i hb => place_any _ t i W (HT.out.below hb)
 have hkl : k < t.nodes.length := (find_ok hg.e hfk).2.2
 have hdl : d < t.nodes.length := (home_ok hg.e (p := o.to) (d := d) (s := s) hht).1
 have hpl : p < t.nodes.length := (home_ok hg.e (p := o.path) (d := p) (s := old) hhp).1
 clear q1 q2 q3 q4 q5 hT hF hb hc hg ho2 ho3 ho4 hdn
 unfold opV
 obtain ⟨w0, hw0⟩ : ∃ w0, w0 = ((((w.alloc (.cells #[.slice (some ⟨b, off, none⟩) t.nodes.length cap, .int .i64 t.next] 29)).alloc (.cells #[.int .i64 o.kind, .string o.path, .string o.to, .int .i64 o.off, .int .i64 o.n, .slice do' dn dc, .int .i64 o.snap] 35)).alloc (.cells #[.slice none 0 0, .int .i64 0] 29)).alloc (.cells #[.int .i64 0, .int .i64 0, .int .i64 0, .int .i64 0, .int .i64 0, .slice none 0 0, .slice none 0 0, .slice none 0 0] 40)) := ⟨_, rfl⟩
 have HB0 : Hid (Bx w w0 (.slice (some ⟨b, off, none⟩) t.nodes.length cap) (.int .i64 t.next) o (.slice do' dn dc)) := by rw [hw0]; exact bx_new w _ _ _ o
 have HR0 : Hid (renameB t o = (t, noReply, c)) := by
  show _ = _
  unfold renameB
  rw [if_neg (by simp [hpa]), if_neg (by simp [hpt]), hfk]
  dsimp only
  rw [if_neg hlo, hht]
  dsimp only
  rw [hhp]
  dsimp only
  rw [if_pos hz, hj, Option.getD_some]
  rcases hcs with ⟨h1, rfl⟩ | ⟨h1, h2, h3, rfl⟩ | ⟨h1, h2, h3, rfl⟩ | ⟨h1, h2, h3, rfl⟩
  · rw [if_pos h1]
  · rw [if_neg h1, if_pos ⟨h2, h3⟩]
  · rw [if_neg h1, if_neg (by omega), if_pos ⟨h2, h3⟩]
  · rw [if_neg h1, if_neg (by omega), if_neg (by omega), if_pos h3]
 have HDD : Hid (d < t.nodes.length ∧ p < t.nodes.length ∧ k < t.nodes.length) := ⟨hdl, hpl, hkl⟩
 obtain ⟨do1, nd1, dc1, mo1, mc1, io1, ni1, ic1, hfk5, hak⟩ := base5n HG.out.2.1 HG.out.2.2.1 HG.out.2.2.2.2 hkl
 obtain ⟨do2, nd2, dc2, mo2, mc2, io2, ni2, ic2, hfd5, had⟩ := base5n HG.out.2.1 HG.out.2.2.1 HG.out.2.2.2.2 hdl
 have HNC : Hid (∀ W, Below w.heap.size w W → Calls Tryz.prog 84 #[.agg #[.int .i64 (nodeAt t d).ino, .int .i64 (nodeAt t d).kind, .slice do2 nd2 dc2, .slice mo2 (nodeAt t d).names.length mc2, .slice io2 ni2 ic2], .string s] W fun e w' => e = .returned (.int .i64 (nameB (nodeAt t d) s)) ∧ Below W.heap.size W w') := fun W hW => name_any ⟨nodeAt t d, .slice do2 nd2 dc2, .slice mo2 (nodeAt t d).names.length mc2, .slice io2 ni2 ic2⟩ s W (hfd5.below hW) (HG.out.1.e.each _ (nodeAt_mem hdl)).len
 obtain ⟨I, hI⟩ : ∃ z, (nodeAt t k).ino = z := ⟨_, rfl⟩
 obtain ⟨kd, hkd⟩ : ∃ z, (nodeAt t k).kind = z := ⟨_, rfl⟩
 obtain ⟨NK, hNK⟩ : ∃ z, (nodeAt t k).names.length = z := ⟨_, rfl⟩
 obtain ⟨ND2, hND2⟩ : ∃ z, (nodeAt t d).names.length = z := ⟨_, rfl⟩
 have HAK : Hid (At5 w b (off + k * 5) ⟨nodeAt t k, .slice do1 nd1 dc1, .slice mo1 NK mc1, .slice io1 ni1 ic1⟩) := by rw [← hNK]; exact hak
 have HAD : Hid (At5 w b (off + d * 5) ⟨nodeAt t d, .slice do2 nd2 dc2, .slice mo2 ND2 mc2, .slice io2 ni2 ic2⟩) := by rw [← hND2]; exact had
 have HIK : Hid ((nodeAt t k).ino = I ∧ (nodeAt t k).kind = kd) := ⟨hI, hkd⟩
 have HKD : Hid (kd = 1 ∨ kd = 2) := by rw [← hkd]; exact HG.out.1.e.fair.kind (nodeAt_mem hkl)
 have HLO : Hid (¬ (kd = 2 ∧ o.to ≠ o.path ∧ underB o.to o.path = true)) := by rw [← hkd]; exact hlo
 rw [hND2] at HNC
 obtain ⟨z, hzz⟩ : ∃ z, nameB (nodeAt t d) s = z := ⟨_, rfl⟩
 obtain ⟨do4, nd4, dc4, mo4, mc4, io4, ni4, ic4, hfj, haj⟩ := base5n HG.out.2.1 HG.out.2.2.1 HG.out.2.2.2.2 (placeO_some hj).1
 obtain ⟨jk, hjk⟩ : ∃ x, (nodeAt t j).kind = x := ⟨_, rfl⟩
 obtain ⟨NJ, hNJ⟩ : ∃ x, (nodeAt t j).names.length = x := ⟨_, rfl⟩
 have HAJ : Hid (At5 w b (off + j * 5) ⟨nodeAt t j, .slice do4 nd4 dc4, .slice mo4 NJ mc4, .slice io4 ni4 ic4⟩ ∧ (nodeAt t j).kind = jk ∧ j < t.nodes.length) := by
  rw [hNJ] at haj
  exact ⟨haj, hjk, (placeO_some hj).1⟩
 have HNJ : Hid (NJ ≤ 1200) := by rw [← hNJ]; exact (names_smallT HG.out.1.e (nodeAt_mem (placeO_some hj).1)).1
 have HJK : Hid (jk = 1 ∨ jk = 2) := by rw [← hjk]; exact HG.out.1.e.fair.kind (nodeAt_mem (placeO_some hj).1)
 have HCS : Hid ((z = I ∧ c = 0) ∨ (z ≠ I ∧ kd = 2 ∧ jk = 1 ∧ c = 8) ∨ (z ≠ I ∧ kd = 1 ∧ jk = 2 ∧ c = 7) ∨ (z ≠ I ∧ kd = jk ∧ 0 < NJ ∧ c = 9)) := by rw [← hzz, ← hI, ← hkd, ← hjk, ← hNJ]; exact hcs
 have hze : (z == 0) = false := beq_eq_false_iff_ne.2 (by rw [← hzz]; exact hz)
 have hze2 : (z != 0) = true := by simp [hze, bne]
 have HPj : Hid (∀ W, Below w.heap.size w W → Calls Tryz.prog 23 #[.agg #[.slice (some ⟨b, off, none⟩) t.nodes.length cap, .int .i64 t.next], .int .i64 z] W fun e w' => e = .returned (.int .i64 (j : Int)) ∧ Below W.heap.size W w') := fun W hW => by
  have h9 := HPl.out W z hW
  have e9 : placeB t z = (j : Int) := by unfold placeB; rw [← hzz, hj]
  rw [e9] at h9
  exact h9
 rw [hzz] at HNC
 have j0 : (k : Int) < (t.nodes.length : Int) := by omega
 have j1 : (0 : Int) ≤ (k : Int) := by omega
 clear HH hpa hpt hfk hlo hht hhp hkl hdl hpl hI hkd hNK hND2 hak had hfk5 hfd5 hz hj hcs hzz hfj haj hjk hNJ HPl
 go_enter Tryz.func50, Tryz.ntmps50
 go_wp2_with fail
 go_at_call 87
 rw [← hw0]
 refine (HPa.out w0).mono ?_
 rintro e w1 ⟨x1, x2, rfl, hb1⟩
 have HB1 : Hid (Bx w w1 (.slice (some ⟨b, off, none⟩) t.nodes.length cap) (.int .i64 t.next) o (.slice do' dn dc)) := HB0.out.below hb1
 clear HB0 hw0 hb1 HPa
 have p2 := HB1.out.op.2.2.1
 go_wp2_with fail
 go_at_call 87
 refine (HPt.out w1).mono ?_
 rintro e w2 ⟨y1, y2, rfl, hb2⟩
 have HB2 : Hid (Bx w w2 (.slice (some ⟨b, off, none⟩) t.nodes.length cap) (.int .i64 t.next) o (.slice do' dn dc)) := HB1.out.below hb2
 clear HB1 HPt p2 hb2
 obtain ⟨c0, c1⟩ := HB2.out.1.c
 have p1 := HB2.out.op.2.1
 go_wp2_with fail
 go_at_call 53
 refine (HFd.out w2 HB2.out.2.2.2.2).mono ?_
 rintro e w3 ⟨rfl, hbw3⟩
 have HB3 : Hid (Bx w w3 (.slice (some ⟨b, off, none⟩) t.nodes.length cap) (.int .i64 t.next) o (.slice do' dn dc)) := HB2.out.below hbw3
 clear hbw3
 clear HB2 HFd c0 c1 p1
 obtain ⟨y0, y1', y2', y3, y4⟩ := At5.below HAK.out HG.out.2.2.2.1 HB3.out.2.2.2.2
 simp only at y0 y1' y2' y3 y4
 rw [HIK.out.1] at y0
 rw [HIK.out.2] at y1'
 have bl : b < w3.heap.size := Nat.lt_of_lt_of_le HG.out.2.2.2.1 HB3.out.2.2.2.2.size
 obtain ⟨c0, c1⟩ := HB3.out.1.c
 obtain ⟨w4, hw4⟩ : ∃ z, z = w3.alloc (.cells #[.int .i64 I, .int .i64 kd, .slice do1 nd1 dc1, .slice mo1 NK mc1, .slice io1 ni1 ic1] 60) := ⟨_, rfl⟩
 have HB4 : Hid (Bx w w4 (.slice (some ⟨b, off, none⟩) t.nodes.length cap) (.int .i64 t.next) o (.slice do' dn dc)) := by rw [hw4]; exact HB3.out.below (bel_newP _ _)
 have HN4 : Hid (w4.heap[w3.heap.size]? = some (.cells #[.int .i64 I, .int .i64 kd, .slice do1 nd1 dc1, .slice mo1 NK mc1, .slice io1 ni1 ic1] 60)) := by rw [hw4]; exact (MapKept.heap_alloc w3 _).1
 obtain ⟨nb, hnb⟩ : ∃ z, z = w3.heap.size := ⟨_, rfl⟩
 rw [← hnb] at HN4
 clear HB3
 go_upto_region 11 with fail
 rw [← hw4, ← hnb]
 clear hw4 hnb y0 y1' y2' y3 y4 c0 c1 bl j0 j1
 go_cut [82] from 66 to 81 (fun c wx => c = .bool false ∧ Hid (Below w4.heap.size w4 wx))
 case first =>
  have n1 := cell_ofRn (j := 1) HN4.out rfl
  have nl := cell_lt n1
  have p1 := HB4.out.op.2.1
  have p2 := HB4.out.op.2.2.1
  by_cases hk2 : kd = 2
  · subst hk2
    by_cases htp : o.to = o.path
    · have hteq : (o.to.toList == o.path.toList) = true := by rw [htp]; exact beq_self_eq_true _
      clear htp
      go_wp2_with fail
      go_meet
      case rel => exact ⟨rfl, Below.refl _ _⟩
    · have hteq : (o.to.toList == o.path.toList) = false := beq_eq_false_iff_ne.2 (fun h => htp (toList_inj h))
      have hu : underB o.to o.path = false := by
       cases hq : underB o.to o.path
       · rfl
       · exact absurd ⟨rfl, htp, hq⟩ HLO.out
      have HUx : Hid (Calls Tryz.prog 24 _ w4 _) := HUn.out w4
      rw [hu] at HUx
      clear htp hu
      go_wp2_with fail
      go_at_call 24
      refine HUx.out.mono ?_
      rintro e w5 ⟨rfl, hb5⟩
      have H5 : Hid (Below w4.heap.size w4 w5) := hb5
      clear hb5
      go_wp2_with fail
      go_meet
      case rel => exact ⟨rfl, H5⟩
  · have hde : (kd == 2) = false := beq_eq_false_iff_ne.2 hk2
    go_wp2_with fail
    go_meet
    case rel => exact ⟨rfl, Below.refl _ _⟩
 case rest =>
  obtain ⟨rfl, HC⟩ := hcut
  obtain ⟨w5, hw5⟩ : ∃ z, z = wc := ⟨_, rfl⟩
  subst hw5
  have HB5 : Hid (Bx w w5 (.slice (some ⟨b, off, none⟩) t.nodes.length cap) (.int .i64 t.next) o (.slice do' dn dc)) := HB4.out.below HC.out
  have HN5 : Hid (w5.heap[nb]? = some (.cells #[.int .i64 I, .int .i64 kd, .slice do1 nd1 dc1, .slice mo1 NK mc1, .slice io1 ni1 ic1] 60)) := below_blockRn HC.out HN4.out
  clear HC HB4 HN4 HUn HLO
  obtain ⟨c0, c1⟩ := HB5.out.1.c
  have p2 := HB5.out.op.2.2.1
  go_wp2_with fail
  go_at_call 83
  refine (HHt.out w5 HB5.out.2.2.2.2).mono ?_
  rintro e w6 ⟨rfl, hbw6⟩
  have HB6 : Hid (Bx w w6 (.slice (some ⟨b, off, none⟩) t.nodes.length cap) (.int .i64 t.next) o (.slice do' dn dc)) := HB5.out.below hbw6
  have HN6 : Hid (w6.heap[nb]? = some (.cells #[.int .i64 I, .int .i64 kd, .slice do1 nd1 dc1, .slice mo1 NK mc1, .slice io1 ni1 ic1] 60)) := below_blockRn hbw6 HN5.out
  clear hbw6
  clear HB5 HN5 HHt c0 c1 p2
  obtain ⟨q0, q1, q2, q3, q4⟩ := At5.below HAD.out HG.out.2.2.2.1 HB6.out.2.2.2.2
  simp only at q0 q1 q2 q3 q4
  obtain ⟨c0, c1⟩ := HB6.out.1.c
  have bl : b < w6.heap.size := Nat.lt_of_lt_of_le HG.out.2.2.2.1 HB6.out.2.2.2.2.size
  have dl : (d : Int) < (t.nodes.length : Int) := by have := HDD.out.1; omega
  have dz : (0 : Int) ≤ (d : Int) := by omega
  go_wp2_with fail
  go_at_call 84
  refine (HNC.out w6 HB6.out.2.2.2.2).mono ?_
  rintro e w7 ⟨rfl, hbw7⟩
  have HB7 : Hid (Bx w w7 (.slice (some ⟨b, off, none⟩) t.nodes.length cap) (.int .i64 t.next) o (.slice do' dn dc)) := HB6.out.below hbw7
  have HN7 : Hid (w7.heap[nb]? = some (.cells #[.int .i64 I, .int .i64 kd, .slice do1 nd1 dc1, .slice mo1 NK mc1, .slice io1 ni1 ic1] 60)) := below_blockRn hbw7 HN6.out
  clear hbw7
  clear HB6 HN6 HNC c0 c1 q0 q1 q2 q3 q4 bl dl dz HAD
  obtain ⟨c0, c1⟩ := HB7.out.1.c
  have HCP : Hid (Calls Tryz.prog 85 #[.agg #[.slice (some ⟨b, off, none⟩) t.nodes.length cap, .int .i64 t.next]] w7 _) := copied_any _ t fs w7 (HTF.out.below HB7.out.2.2.2.2) (by have := HDD.out.1; omega) (by omega)
  go_wp2_with fail
  go_at_call 85
  refine HCP.out.mono ?_
  rintro e3 w8 ⟨u, rfl, ⟨sv, hsv, hrow, hfn, hfi⟩, hb8⟩
  obtain ⟨g, cp, hsv2⟩ := own_some hrow (by have := HDD.out.1; omega)
  rw [hl] at hsv2
  subst hsv2
  subst hsv
  rw [hl] at hrow
  obtain ⟨w9, hw9⟩ : ∃ z, z = w8.alloc (.cells #[.slice (some ⟨g, 0, none⟩) t.nodes.length cp, .int .i64 t.next] 29) := ⟨_, rfl⟩
  have hb9 : Below w7.heap.size w7 w9 := by rw [hw9]; exact bel2v hb8 (bel_newP _ _)
  have HX9 : Hid (XI w w9 w7.heap.size (w8.heap.size + 1) w8.heap.size g cp t fs) := by rw [hw9]; exact xi_new hrow HG.out.2.1 HG.out.2.2.1 HB7.out.2.2.2.2 hb8 (Array.getElem?_eq_some_iff.1 HB7.out.2.2.2.1).1
  have HB9 : Hid (Bx w w9 (.slice (some ⟨b, off, none⟩) t.nodes.length cap) (.int .i64 t.next) o (.slice do' dn dc)) := HB7.out.below hb9
  have HN9 : Hid (w9.heap[nb]? = some (.cells #[.int .i64 I, .int .i64 kd, .slice do1 nd1 dc1, .slice mo1 NK mc1, .slice io1 ni1 ic1] 60)) := below_blockRn hb9 HN7.out
  have HNL : Hid (nb < w7.heap.size) := (Array.getElem?_eq_some_iff.1 HN7.out).1
  obtain ⟨LO, hLO⟩ : ∃ z, z = w7.heap.size := ⟨_, rfl⟩
  rw [← hLO] at HX9 HNL
  obtain ⟨xb, hxb⟩ : ∃ z, z = w8.heap.size := ⟨_, rfl⟩
  rw [← hxb] at HX9
  obtain ⟨K, hK⟩ : ∃ z, z = xb + 1 := ⟨_, rfl⟩
  rw [← hK] at HX9
  clear HCP hrow hfn hfi hb8 hb9 HB7 HN7 hK hLO c0 c1 HTF
  go_upto_region 18 with fail
  rw [← hw9, ← hxb]
  clear hw9 hxb
  have HLB : Hid (LenB 1200 t) := lenB_good HG.out.1
  have HR := HR0
  have HPH : Hid (True ∧ p < t.nodes.length) := ⟨trivial, HDD.out.2.1⟩
  clear HR0
  obtain ⟨y0, y1', y2', y3, y4⟩ := At5.below HAJ.out.1 HG.out.2.2.2.1 HB9.out.2.2.2.2
  simp only at y0 y1' y2' y3 y4
  rw [HAJ.out.2.1] at y1'
  have HPk : Hid (∀ U, Below w9.heap.size w9 U → Calls Tryz.prog 23 #[.agg #[.slice (some ⟨b, off, none⟩) t.nodes.length cap, .int .i64 t.next], .int .i64 z] U fun e w' => e = .returned (.int .i64 (j : Int)) ∧ (w'.cell? ⟨w.heap.size, 0, none⟩ = some (.slice (some ⟨b, off, none⟩) t.nodes.length cap) ∧ w.heap.size < w'.heap.size ∧ w'.cell? ⟨b, off + j * 5, none⟩ = some (.int .i64 (nodeAt t j).ino) ∧ w'.cell? ⟨b, off + j * 5 + 1, none⟩ = some (.int .i64 jk) ∧ w'.cell? ⟨b, off + j * 5 + 2, none⟩ = some (.slice do4 nd4 dc4) ∧ w'.cell? ⟨b, off + j * 5 + 3, none⟩ = some (.slice mo4 NJ mc4) ∧ w'.cell? ⟨b, off + j * 5 + 4, none⟩ = some (.slice io4 ni4 ic4) ∧ b < w'.heap.size) ∧ Hid (Below w9.heap.size w9 w')) := fun U hU => by
   refine (HPj.out U (bel2v HB9.out.2.2.2.2 hU)).mono ?_
   rintro e w' ⟨rfl, hb'⟩
   have hbw := bel2v hU hb'
   have hB := HB9.out.below hbw
   have hbb : b < w9.heap.size := Nat.lt_of_lt_of_le HG.out.2.2.2.1 HB9.out.2.2.2.2.size
   exact ⟨rfl, ⟨hB.1.c.1, hB.1.lt, (hbw.cell (by exact hbb)).trans y0, (hbw.cell (by exact hbb)).trans y1', (hbw.cell (by exact hbb)).trans y2', (hbw.cell (by exact hbb)).trans y3, (hbw.cell (by exact hbb)).trans y4, Nat.lt_of_lt_of_le hbb hbw.size⟩, hbw⟩
  have HPz : Hid (Calls Tryz.prog 23 #[.agg #[.slice (some ⟨b, off, none⟩) t.nodes.length cap, .int .i64 t.next], .int .i64 z] (w9.alloc (.cells #[.int .i64 0, .int .i64 0, .slice none 0 0, .slice none 0 0, .slice none 0 0] 60)).drew fun e w' => e = .returned (.int .i64 (j : Int)) ∧ (w'.cell? ⟨w.heap.size, 0, none⟩ = some (.slice (some ⟨b, off, none⟩) t.nodes.length cap) ∧ w.heap.size < w'.heap.size ∧ w'.cell? ⟨b, off + j * 5, none⟩ = some (.int .i64 (nodeAt t j).ino) ∧ w'.cell? ⟨b, off + j * 5 + 1, none⟩ = some (.int .i64 jk) ∧ w'.cell? ⟨b, off + j * 5 + 2, none⟩ = some (.slice do4 nd4 dc4) ∧ w'.cell? ⟨b, off + j * 5 + 3, none⟩ = some (.slice mo4 NJ mc4) ∧ w'.cell? ⟨b, off + j * 5 + 4, none⟩ = some (.slice io4 ni4 ic4) ∧ b < w'.heap.size) ∧
   (w'.cell? ⟨w9.heap.size, 0, none⟩ = some (.int .i64 0) ∧ w'.cell? ⟨w9.heap.size, 1, none⟩ = some (.int .i64 0) ∧ w'.cell? ⟨w9.heap.size, 2, none⟩ = some (.slice none 0 0) ∧ w'.cell? ⟨w9.heap.size, 3, none⟩ = some (.slice none 0 0) ∧ w'.cell? ⟨w9.heap.size, 4, none⟩ = some (.slice none 0 0) ∧ (∀ j, w'.frozen? ⟨w9.heap.size, j, none⟩ = false) ∧ w9.heap.size < w'.heap.size) ∧ Hid (Below w9.heap.size w9 w') ∧ Hid (PBox w' w9.heap.size (.int .i64 0) (.int .i64 0) (.slice none 0 0) (.slice none 0 0) (.slice none 0 0))) := by
   have hz : Below w9.heap.size w9 (w9.alloc (.cells #[.int .i64 0, .int .i64 0, .slice none 0 0, .slice none 0 0, .slice none 0 0] 60)).drew := (bel_newP _ _).drew
   refine (HPj.out _ (bel2v HB9.out.2.2.2.2 hz)).mono ?_
   rintro e w' ⟨rfl, hb'⟩
   have hbw := bel2v hz hb'
   have hB := HB9.out.below hbw
   have hbb : b < w9.heap.size := Nat.lt_of_lt_of_le HG.out.2.2.2.1 HB9.out.2.2.2.2.size
   have hP : PBox w' w9.heap.size (.int .i64 0) (.int .i64 0) (.slice none 0 0) (.slice none 0 0) (.slice none 0 0) := below_blockRn hb' (MapKept.heap_alloc w9 _).1
   have hcc := hP
   unfold PBox at hcc
   exact ⟨rfl, ⟨hB.1.c.1, hB.1.lt, (hbw.cell (by exact hbb)).trans y0, (hbw.cell (by exact hbb)).trans y1', (hbw.cell (by exact hbb)).trans y2', (hbw.cell (by exact hbb)).trans y3, (hbw.cell (by exact hbb)).trans y4, Nat.lt_of_lt_of_le hbb hbw.size⟩, ⟨cell_ofRn hcc rfl, cell_ofRn hcc rfl, cell_ofRn hcc rfl, cell_ofRn hcc rfl, cell_ofRn hcc rfl, fun j => by simp [World.frozen?, hcc], (Array.getElem?_eq_some_iff.1 hcc).1⟩, hbw, hP⟩
  obtain ⟨c0, c1⟩ := HB9.out.1.c
  have bl : b < w9.heap.size := Nat.lt_of_lt_of_le HG.out.2.2.2.1 HB9.out.2.2.2.2.size
  have tl : w.heap.size < w9.heap.size := HB9.out.1.lt
  have jl : (j : Int) < (t.nodes.length : Int) := by have := HAJ.out.2.2; omega
  have jz : (0 : Int) ≤ (j : Int) := by omega
  clear HPj
  go_upto_region 19 with fail
  go_cut [21] from 109 to 115 (fun s21 wx => ∃ mb, s21 = .pointer (some ⟨mb, 0, none⟩) ∧ Hid (Below w9.heap.size w9 wx ∧ wx.heap[mb]? = some (.cells #[.int .i64 (nodeAt t j).ino, .int .i64 jk, .slice do4 nd4 dc4, .slice mo4 NJ mc4, .slice io4 ni4 ic4] 60)))
  case first =>
   go_region_with (first
    | (go_at_call 23; refine (HPk.out _ (by first | exact Below.refl _ _ | exact (Below.refl _ _).drew)).mono ?_; rintro e w14 ⟨rfl, ⟨v0, vl, z0, z1, z2, z3, z4, zl⟩, HB14⟩)
    | (go_at_call 23; refine HPz.out.mono ?_; rintro e w14 ⟨rfl, ⟨v0, vl, z0, z1, z2, z3, z4, zl⟩, ⟨p0, p1, p2, p3, p4, pf, pl⟩, HB14, HPB⟩))
   all_goals (
    go_wp2_with fail
    go_meet
    case rel =>
     first
      | exact ⟨_, rfl, ⟨outQ_below HB14.out (Nat.le_refl _) _ _ _ _ _, outQ_box HPB.out _ _ _ _ _⟩⟩
      | exact ⟨_, rfl, ⟨bel2v HB14.out (bel_newP _ _), (MapKept.heap_alloc w14 _).1⟩⟩)
  case rest =>
   obtain ⟨mb, rfl, HC⟩ := hcut
   obtain ⟨wm, hwm⟩ : ∃ z, z = wc := ⟨_, rfl⟩
   subst hwm
   have HBm : Hid (Bx w wm (.slice (some ⟨b, off, none⟩) t.nodes.length cap) (.int .i64 t.next) o (.slice do' dn dc)) := HB9.out.below HC.out.1
   have HXm : Hid (XI w wm LO K xb g cp t fs) := HX9.out.below HC.out.1
   have HNm : Hid (wm.heap[nb]? = some (.cells #[.int .i64 I, .int .i64 kd, .slice do1 nd1 dc1, .slice mo1 NK mc1, .slice io1 ni1 ic1] 60)) := below_blockRn HC.out.1 HN9.out
   have HMm : Hid (wm.heap[mb]? = some (.cells #[.int .i64 (nodeAt t j).ino, .int .i64 jk, .slice do4 nd4 dc4, .slice mo4 NJ mc4, .slice io4 ni4 ic4] 60)) := HC.out.2
   clear HC HPk HPz HB9 HX9 HN9 c0 c1 bl tl jl jz y0 y1' y2' y3 y4
   have n0 := cell_ofRn (j := 0) HNm.out rfl
   have n1 := cell_ofRn (j := 1) HNm.out rfl
   have nl := cell_lt n0
   have m1 := cell_ofRn (j := 1) HMm.out rfl
   have m3 := cell_ofRn (j := 3) HMm.out rfl
   have ml := cell_lt m1
   have HRc := HR
   rcases HCS.out with ⟨h1, h2⟩ | ⟨h1, h2, h3, h4⟩ | ⟨h1, h2, h3, h4⟩ | ⟨h1, h2, h3, h4⟩
   · have hzIb : (z == I) = true := beq_iff_eq.2 h1
     subst h2
     clear h1
     have hB := HBm.out
     obtain ⟨c0, c1⟩ := hB.1.c
     obtain ⟨r0, r1⟩ := hB.2.2.1.c
     have z0 := hB.2.2.1.fz 0
     have z1 := hB.2.2.1.fz 1
     obtain ⟨s0, s1, s2, s3, s4, s5, s6, s7, sz⟩ := hB.re
     obtain ⟨p0, p1, p2, p3, p4, p5⟩ := hB.op
     clear hB 
     go_wp2
     refine bodyPost_ret (v := .tuple #[.agg #[.slice (some ⟨b, off, none⟩) t.nodes.length cap, .int .i64 t.next], .agg #[.int .i64 0, .int .i64 0, .int .i64 0, .int .i64 0, .int .i64 0, .slice none 0 0, .slice none 0 0, .slice none 0 0], .int .i64 0]) (by simp [results, Tryz.results50, go_sem, *]) rfl ?_
     rw [HR.out]
     exact ⟨_, _, rfl, HT.out.below (out_below _ _ _ _ _ _ _ _ _ _ HBm.out.2.2.2.2), replyAt_no _, out_below _ _ _ _ _ _ _ _ _ _ HBm.out.2.2.2.2⟩
   · have hzIb : (z == I) = false := beq_eq_false_iff_ne.2 h1
     subst h2 h3 h4
     clear h1
     have hB := HBm.out
     obtain ⟨c0, c1⟩ := hB.1.c
     obtain ⟨r0, r1⟩ := hB.2.2.1.c
     have z0 := hB.2.2.1.fz 0
     have z1 := hB.2.2.1.fz 1
     obtain ⟨s0, s1, s2, s3, s4, s5, s6, s7, sz⟩ := hB.re
     obtain ⟨p0, p1, p2, p3, p4, p5⟩ := hB.op
     clear hB 
     go_wp2
     refine bodyPost_ret (v := .tuple #[.agg #[.slice (some ⟨b, off, none⟩) t.nodes.length cap, .int .i64 t.next], .agg #[.int .i64 0, .int .i64 0, .int .i64 0, .int .i64 0, .int .i64 0, .slice none 0 0, .slice none 0 0, .slice none 0 0], .int .i64 8]) (by simp [results, Tryz.results50, go_sem, *]) rfl ?_
     rw [HR.out]
     exact ⟨_, _, rfl, HT.out.below (out_below _ _ _ _ _ _ _ _ _ _ HBm.out.2.2.2.2), replyAt_no _, out_below _ _ _ _ _ _ _ _ _ _ HBm.out.2.2.2.2⟩
   · have hzIb : (z == I) = false := beq_eq_false_iff_ne.2 h1
     subst h2 h3 h4
     clear h1
     have hB := HBm.out
     obtain ⟨c0, c1⟩ := hB.1.c
     obtain ⟨r0, r1⟩ := hB.2.2.1.c
     have z0 := hB.2.2.1.fz 0
     have z1 := hB.2.2.1.fz 1
     obtain ⟨s0, s1, s2, s3, s4, s5, s6, s7, sz⟩ := hB.re
     obtain ⟨p0, p1, p2, p3, p4, p5⟩ := hB.op
     clear hB 
     go_wp2
     refine bodyPost_ret (v := .tuple #[.agg #[.slice (some ⟨b, off, none⟩) t.nodes.length cap, .int .i64 t.next], .agg #[.int .i64 0, .int .i64 0, .int .i64 0, .int .i64 0, .int .i64 0, .slice none 0 0, .slice none 0 0, .slice none 0 0], .int .i64 7]) (by simp [results, Tryz.results50, go_sem, *]) rfl ?_
     rw [HR.out]
     exact ⟨_, _, rfl, HT.out.below (out_below _ _ _ _ _ _ _ _ _ _ HBm.out.2.2.2.2), replyAt_no _, out_below _ _ _ _ _ _ _ _ _ _ HBm.out.2.2.2.2⟩
   · have hzIb : (z == I) = false := beq_eq_false_iff_ne.2 h1
     have hn' : (0 : Int) < (NJ : Int) := by omega
     subst h4
     clear h1 h3
     subst h2
     rcases HKD.out with h9 | h9
     · subst h9
       have hB := HBm.out
       obtain ⟨c0, c1⟩ := hB.1.c
       obtain ⟨r0, r1⟩ := hB.2.2.1.c
       have z0 := hB.2.2.1.fz 0
       have z1 := hB.2.2.1.fz 1
       obtain ⟨s0, s1, s2, s3, s4, s5, s6, s7, sz⟩ := hB.re
       obtain ⟨p0, p1, p2, p3, p4, p5⟩ := hB.op
       clear hB 
       go_wp2
       refine bodyPost_ret (v := .tuple #[.agg #[.slice (some ⟨b, off, none⟩) t.nodes.length cap, .int .i64 t.next], .agg #[.int .i64 0, .int .i64 0, .int .i64 0, .int .i64 0, .int .i64 0, .slice none 0 0, .slice none 0 0, .slice none 0 0], .int .i64 9]) (by simp [results, Tryz.results50, go_sem, *]) rfl ?_
       rw [HR.out]
       exact ⟨_, _, rfl, HT.out.below (out_below _ _ _ _ _ _ _ _ _ _ HBm.out.2.2.2.2), replyAt_no _, out_below _ _ _ _ _ _ _ _ _ _ HBm.out.2.2.2.2⟩
     · subst h9
       have hB := HBm.out
       obtain ⟨c0, c1⟩ := hB.1.c
       obtain ⟨r0, r1⟩ := hB.2.2.1.c
       have z0 := hB.2.2.1.fz 0
       have z1 := hB.2.2.1.fz 1
       obtain ⟨s0, s1, s2, s3, s4, s5, s6, s7, sz⟩ := hB.re
       obtain ⟨p0, p1, p2, p3, p4, p5⟩ := hB.op
       clear hB 
       go_wp2
       refine bodyPost_ret (v := .tuple #[.agg #[.slice (some ⟨b, off, none⟩) t.nodes.length cap, .int .i64 t.next], .agg #[.int .i64 0, .int .i64 0, .int .i64 0, .int .i64 0, .int .i64 0, .slice none 0 0, .slice none 0 0, .slice none 0 0], .int .i64 9]) (by simp [results, Tryz.results50, go_sem, *]) rfl ?_
       rw [HR.out]
       exact ⟨_, _, rfl, HT.out.below (out_below _ _ _ _ _ _ _ _ _ _ HBm.out.2.2.2.2), replyAt_no _, out_below _ _ _ _ _ _ _ _ _ _ HBm.out.2.2.2.2⟩
end Go.Proofs.YtbebgobboccjcaaGreatDoor
