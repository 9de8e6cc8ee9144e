/- dolmenref5.rename: what one call answers. -/
import Derived.Test.YtbebgobboccjcaaGreatDoorH5
import Derived.Test.YtbebgobboccjcaaGreatDoorH1
import Derived.Test.YtbebgobboccjcaaGreatDoorH2
import Derived.Test.YtbebgobboccjcaaGreatDoorH3
import Derived.Test.YtbebgobboccjcaaGreatDoorPDPlain
import Derived.Deep.DeepCutAuto
import Derived.Deep.CutRange
import Derived.Deep.RegionHeld3
namespace Go.Proofs.YtbebgobboccjcaaGreatDoor
open Go.RowKit Kit
set_option linter.unusedVariables false

theorem cell_ofRz {w : World} {g j : Nat} {cs : Array Value} {t : TypeId} {v : Value} (h : w.heap[g]? = some (.cells cs t)) (hj : cs[j]? = some v) : w.cell? ⟨g, j, none⟩ = some v := by simp [World.cell?, h, hj]
theorem base5z {w : World} {t : TreeB} {fs : List FN} {b off : Nat} (h1 : fs.map FN.n = t.nodes) (h2 : ∀ f ∈ fs, f.is w) (h3 : ∀ k (hk : k < fs.length), At5 w b (off + k * 5) fs[k]) {k : Nat} (hk : k < t.nodes.length) :
 ∃ do2 nd dc2 mo2 mc2 io2 ni ic2, FN.is w ⟨nodeAt t k, .slice do2 nd dc2, .slice mo2 (nodeAt t k).names.length mc2, .slice io2 ni ic2⟩ ∧ At5 w b (off + k * 5) ⟨nodeAt t k, .slice do2 nd dc2, .slice mo2 (nodeAt t k).names.length mc2, .slice io2 ni ic2⟩ := by
 have hl := fs_len h1
 have hk' : k < fs.length := by omega
 have e := fs_at h1 hk'
 have hfi := h2 _ (List.getElem_mem hk')
 have ha := h3 k hk'
 obtain ⟨f, hf⟩ : ∃ f, fs[k] = f := ⟨_, rfl⟩
 rw [hf] at e hfi ha
 obtain ⟨nn, dd, mm, ii⟩ := f
 simp only at e
 subst e
 obtain ⟨do2, dc2, hdd, _⟩ := id hfi.1
 obtain ⟨mo2, mc2, hmm, _⟩ := id hfi.2.1
 obtain ⟨io2, ic2, hii, _⟩ := id hfi.2.2
 simp only at hdd hmm hii
 rw [strs_len] at hmm
 subst hdd hmm hii
 exact ⟨_, _, _, _, _, _, _, _, hfi, ha⟩
theorem below_blockRz {w w' : World} {g : Nat} {o : Obj} (hb : Below w.heap.size w w') (h : w.heap[g]? = some o) : w'.heap[g]? = some o := (hb.block g (Array.getElem?_eq_some_iff.1 h).1).trans h
set_option maxRecDepth 4000 in
set_option maxHeartbeats 40000000 in
theorem rename_z (v ov : Value) (t : TreeB) (o : OpB) (w : World) (hT : TreeAt w v t) (hg : Good t) (ho : OpAt w ov o) (k d p : Nat) (s old : ByteArray) (hpa : (parentB o.path).2.2 = 0) (hpt : (parentB o.to).2.2 = 0) (hfk : findB t o.path = .ok k) (hlo : ¬ ((nodeAt t k).kind = 2 ∧ o.to ≠ o.path ∧ underB o.to o.path = true)) (hht : homeB t o.to = .ok (d, s)) (hhp : homeB t o.path = .ok (p, old)) (hz : nameB (nodeAt t d) s = 0) :
 Calls Tryz.prog 50 #[v, ov] w fun e w' => ∃ tv rv, e = .returned (.tuple #[tv, rv, .int .i64 (renameB t o).2.2]) ∧ TreeAt w' tv (renameB t o).1 ∧ ReplyAt w' rv (renameB t o).2.1 ∧ Below w.heap.size w w' := by
 have HT : Hid (TreeAt w v t) := hT
 obtain ⟨fs, hF⟩ : ∃ fs, TreeG w v t fs := by obtain ⟨sv, fs, h⟩ := hT; exact ⟨fs, sv, h⟩
 have HTF : Hid (TreeG w v t fs) := hF
 obtain ⟨ao, cap, rfl, q1, q2, q3, q4, q5⟩ := hF.opened
 obtain ⟨dv, rfl, ho1, ho2, ho3, ho4⟩ := ho
 obtain ⟨b, off, rfl, hb, hc⟩ := q5 hg.e.root0.1
 have hl := fs_len q3
 have lm : (t.nodes.length : Int) ≤ 60 := by have := hg.e.size; omega
 obtain ⟨do', dc, hdv, _⟩ := ho1
 obtain ⟨dn, hdn⟩ : ∃ n, (intsV .u8 o.data).length = n := ⟨_, rfl⟩
 rw [hdn] at hdv
 subst hdv
 have HG : Hid (Good t ∧ fs.map FN.n = t.nodes ∧ (∀ f ∈ fs, f.is w) ∧ b < w.heap.size ∧ ∀ k (hk : k < fs.length), At5 w b (off + k * 5) fs[k]) := ⟨hg, q3, q4, hb, hc⟩
 have HH : Hid (∀ W, Below w.heap.size w W → Calls Tryz.prog 83 #[.agg #[.slice (some ⟨b, off, none⟩) t.nodes.length cap, .int .i64 t.next], .string o.path] W fun e w' => e = .returned (resH (homeB t o.path)) ∧ Below W.heap.size W w') := fun W hb => home_any _ t o.path W (HT.out.below hb) hg ho2
 have HPa : Hid (∀ W, Calls Tryz.prog 87 #[.string o.path] W fun e w' => ∃ x1 x2, e = .returned (.tuple #[.string x1, .string x2, .int .i64 0]) ∧ Below W.heap.size W w') := fun W => by
  have h9 := parent_any o.path W ho2
  rw [hpa] at h9
  exact h9.mono fun e w' h => ⟨_, _, h.1, h.2⟩
 have HPt : Hid (∀ W, Calls Tryz.prog 87 #[.string o.to] W fun e w' => ∃ x1 x2, e = .returned (.tuple #[.string x1, .string x2, .int .i64 0]) ∧ Below W.heap.size W w') := fun W => by
  have h9 := parent_any o.to W ho3
  rw [hpt] at h9
  exact h9.mono fun e w' h => ⟨_, _, h.1, h.2⟩
 have HUn : Hid (∀ W, Calls Tryz.prog 24 #[.string o.to, .string o.path] W fun e w' => e = .returned (.bool (underB o.to o.path)) ∧ Below W.heap.size W w') := fun W => under_any o.to o.path W ho3 ho2
 have HFd : Hid (∀ W, Below w.heap.size w W → Calls Tryz.prog 53 #[.agg #[.slice (some ⟨b, off, none⟩) t.nodes.length cap, .int .i64 t.next], .string o.path] W fun e w' => e = .returned (.tuple #[.int .i64 (k : Int), .int .i64 0]) ∧ Below W.heap.size W w') := fun W hb => by
  have h9 := find_any _ t o.path W (HT.out.below hb) hg ho2
  rw [hfk] at h9
  exact h9
 have HHt : Hid (∀ W, Below w.heap.size w W → Calls Tryz.prog 83 #[.agg #[.slice (some ⟨b, off, none⟩) t.nodes.length cap, .int .i64 t.next], .string o.to] W fun e w' => e = .returned (.tuple #[.int .i64 (d : Int), .string s, .int .i64 0]) ∧ Below W.heap.size W w') := fun W hb => by
  have h9 := home_any _ t o.to W (HT.out.below hb) hg ho3
  rw [hht] at h9
  exact h9
 have HHp : Hid (∀ W, Below w.heap.size w W → Calls Tryz.prog 83 #[.agg #[.slice (some ⟨b, off, none⟩) t.nodes.length cap, .int .i64 t.next], .string o.path] W fun e w' => e = .returned (.tuple #[.int .i64 (p : Int), .string old, .int .i64 0]) ∧ Below W.heap.size W w') := fun W hb => by
  have h9 := home_any _ t o.path W (HT.out.below hb) hg ho2
  rw [hhp] at h9
  exact h9
 have hkl : k < t.nodes.length := (find_ok hg.e hfk).2.2
 have hdl : d < t.nodes.length := (home_ok hg.e (p := o.to) (d := d) (s := s) hht).1
 have hpl : p < t.nodes.length := (home_ok hg.e (p := o.path) (d := p) (s := old) hhp).1
 clear q1 q2 q3 q4 q5 hT hF hb hc hg ho2 ho3 ho4 hdn
 unfold opV
 obtain ⟨w0, hw0⟩ : ∃ w0, w0 = ((((w.alloc (.cells #[.slice (some ⟨b, off, none⟩) t.nodes.length cap, .int .i64 t.next] 29)).alloc (.cells #[.int .i64 o.kind, .string o.path, .string o.to, .int .i64 o.off, .int .i64 o.n, .slice do' dn dc, .int .i64 o.snap] 35)).alloc (.cells #[.slice none 0 0, .int .i64 0] 29)).alloc (.cells #[.int .i64 0, .int .i64 0, .int .i64 0, .int .i64 0, .int .i64 0, .slice none 0 0, .slice none 0 0, .slice none 0 0] 40)) := ⟨_, rfl⟩
 have HB0 : Hid (Bx w w0 (.slice (some ⟨b, off, none⟩) t.nodes.length cap) (.int .i64 t.next) o (.slice do' dn dc)) := by rw [hw0]; exact bx_new w _ _ _ o
 have HR0 : Hid (renameB t o = (sweptB (movedB t p old d s (nodeAt t k).ino), noReply, 0)) := by
  show _ = _
  unfold renameB
  rw [if_neg (by simp [hpa]), if_neg (by simp [hpt]), hfk]
  dsimp only
  rw [if_neg hlo, hht]
  dsimp only
  rw [hhp]
  dsimp only
  rw [if_neg (by simp [hz])]
 have HDD : Hid (d < t.nodes.length ∧ p < t.nodes.length ∧ k < t.nodes.length) := ⟨hdl, hpl, hkl⟩
 obtain ⟨do1, nd1, dc1, mo1, mc1, io1, ni1, ic1, hfk5, hak⟩ := base5z HG.out.2.1 HG.out.2.2.1 HG.out.2.2.2.2 hkl
 obtain ⟨do2, nd2, dc2, mo2, mc2, io2, ni2, ic2, hfd5, had⟩ := base5z HG.out.2.1 HG.out.2.2.1 HG.out.2.2.2.2 hdl
 have HNC : Hid (∀ W, Below w.heap.size w W → Calls Tryz.prog 84 #[.agg #[.int .i64 (nodeAt t d).ino, .int .i64 (nodeAt t d).kind, .slice do2 nd2 dc2, .slice mo2 (nodeAt t d).names.length mc2, .slice io2 ni2 ic2], .string s] W fun e w' => e = .returned (.int .i64 (nameB (nodeAt t d) s)) ∧ Below W.heap.size W w') := fun W hW => name_any ⟨nodeAt t d, .slice do2 nd2 dc2, .slice mo2 (nodeAt t d).names.length mc2, .slice io2 ni2 ic2⟩ s W (hfd5.below hW) (HG.out.1.e.each _ (nodeAt_mem hdl)).len
 obtain ⟨I, hI⟩ : ∃ z, (nodeAt t k).ino = z := ⟨_, rfl⟩
 obtain ⟨kd, hkd⟩ : ∃ z, (nodeAt t k).kind = z := ⟨_, rfl⟩
 obtain ⟨NK, hNK⟩ : ∃ z, (nodeAt t k).names.length = z := ⟨_, rfl⟩
 obtain ⟨ND2, hND2⟩ : ∃ z, (nodeAt t d).names.length = z := ⟨_, rfl⟩
 have HAK : Hid (At5 w b (off + k * 5) ⟨nodeAt t k, .slice do1 nd1 dc1, .slice mo1 NK mc1, .slice io1 ni1 ic1⟩) := by rw [← hNK]; exact hak
 have HAD : Hid (At5 w b (off + d * 5) ⟨nodeAt t d, .slice do2 nd2 dc2, .slice mo2 ND2 mc2, .slice io2 ni2 ic2⟩) := by rw [← hND2]; exact had
 have HIK : Hid ((nodeAt t k).ino = I ∧ (nodeAt t k).kind = kd) := ⟨hI, hkd⟩
 have HKD : Hid (kd = 1 ∨ kd = 2) := by rw [← hkd]; exact HG.out.1.e.fair.kind (nodeAt_mem hkl)
 have HLO : Hid (¬ (kd = 2 ∧ o.to ≠ o.path ∧ underB o.to o.path = true)) := by rw [← hkd]; exact hlo
 rw [hND2] at HNC
 rw [hz] at HNC
 rw [hI] at HR0
 have j0 : (k : Int) < (t.nodes.length : Int) := by omega
 have j1 : (0 : Int) ≤ (k : Int) := by omega
 clear HH hpa hpt hfk hlo hht hhp hkl hdl hpl hI hkd hNK hND2 hak had hfk5 hfd5 hz
 go_enter Tryz.func50, Tryz.ntmps50
 go_wp2_with fail
 go_at_call 87
 rw [← hw0]
 refine (HPa.out w0).mono ?_
 rintro e w1 ⟨x1, x2, rfl, hb1⟩
 have HB1 : Hid (Bx w w1 (.slice (some ⟨b, off, none⟩) t.nodes.length cap) (.int .i64 t.next) o (.slice do' dn dc)) := HB0.out.below hb1
 clear HB0 hw0 hb1 HPa
 have p2 := HB1.out.op.2.2.1
 go_wp2_with fail
 go_at_call 87
 refine (HPt.out w1).mono ?_
 rintro e w2 ⟨y1, y2, rfl, hb2⟩
 have HB2 : Hid (Bx w w2 (.slice (some ⟨b, off, none⟩) t.nodes.length cap) (.int .i64 t.next) o (.slice do' dn dc)) := HB1.out.below hb2
 clear HB1 HPt p2 hb2
 obtain ⟨c0, c1⟩ := HB2.out.1.c
 have p1 := HB2.out.op.2.1
 go_wp2_with fail
 go_at_call 53
 refine (HFd.out w2 HB2.out.2.2.2.2).mono ?_
 rintro e w3 ⟨rfl, hbw3⟩
 have HB3 : Hid (Bx w w3 (.slice (some ⟨b, off, none⟩) t.nodes.length cap) (.int .i64 t.next) o (.slice do' dn dc)) := HB2.out.below hbw3
 clear hbw3
 clear HB2 HFd c0 c1 p1
 obtain ⟨y0, y1', y2', y3, y4⟩ := At5.below HAK.out HG.out.2.2.2.1 HB3.out.2.2.2.2
 simp only at y0 y1' y2' y3 y4
 rw [HIK.out.1] at y0
 rw [HIK.out.2] at y1'
 have bl : b < w3.heap.size := Nat.lt_of_lt_of_le HG.out.2.2.2.1 HB3.out.2.2.2.2.size
 obtain ⟨c0, c1⟩ := HB3.out.1.c
 obtain ⟨w4, hw4⟩ : ∃ z, z = w3.alloc (.cells #[.int .i64 I, .int .i64 kd, .slice do1 nd1 dc1, .slice mo1 NK mc1, .slice io1 ni1 ic1] 60) := ⟨_, rfl⟩
 have HB4 : Hid (Bx w w4 (.slice (some ⟨b, off, none⟩) t.nodes.length cap) (.int .i64 t.next) o (.slice do' dn dc)) := by rw [hw4]; exact HB3.out.below (bel_newP _ _)
 have HN4 : Hid (w4.heap[w3.heap.size]? = some (.cells #[.int .i64 I, .int .i64 kd, .slice do1 nd1 dc1, .slice mo1 NK mc1, .slice io1 ni1 ic1] 60)) := by rw [hw4]; exact (MapKept.heap_alloc w3 _).1
 obtain ⟨nb, hnb⟩ : ∃ z, z = w3.heap.size := ⟨_, rfl⟩
 rw [← hnb] at HN4
 clear HB3
 go_upto_region 11 with fail
 rw [← hw4, ← hnb]
 clear hw4 hnb y0 y1' y2' y3 y4 c0 c1 bl j0 j1
 go_cut [82] from 66 to 81 (fun c wx => c = .bool false ∧ Hid (Below w4.heap.size w4 wx))
 case first =>
  have n1 := cell_ofRz (j := 1) HN4.out rfl
  have nl := cell_lt n1
  have p1 := HB4.out.op.2.1
  have p2 := HB4.out.op.2.2.1
  by_cases hk2 : kd = 2
  · subst hk2
    by_cases htp : o.to = o.path
    · have hteq : (o.to.toList == o.path.toList) = true := by rw [htp]; exact beq_self_eq_true _
      clear htp
      go_wp2_with fail
      go_meet
      case rel => exact ⟨rfl, Below.refl _ _⟩
    · have hteq : (o.to.toList == o.path.toList) = false := beq_eq_false_iff_ne.2 (fun h => htp (toList_inj h))
      have hu : underB o.to o.path = false := by
       cases hq : underB o.to o.path
       · rfl
       · exact absurd ⟨rfl, htp, hq⟩ HLO.out
      have HUx : Hid (Calls Tryz.prog 24 _ w4 _) := HUn.out w4
      rw [hu] at HUx
      clear htp hu
      go_wp2_with fail
      go_at_call 24
      refine HUx.out.mono ?_
      rintro e w5 ⟨rfl, hb5⟩
      have H5 : Hid (Below w4.heap.size w4 w5) := hb5
      clear hb5
      go_wp2_with fail
      go_meet
      case rel => exact ⟨rfl, H5⟩
  · have hde : (kd == 2) = false := beq_eq_false_iff_ne.2 hk2
    go_wp2_with fail
    go_meet
    case rel => exact ⟨rfl, Below.refl _ _⟩
 case rest =>
  obtain ⟨rfl, HC⟩ := hcut
  obtain ⟨w5, hw5⟩ : ∃ z, z = wc := ⟨_, rfl⟩
  subst hw5
  have HB5 : Hid (Bx w w5 (.slice (some ⟨b, off, none⟩) t.nodes.length cap) (.int .i64 t.next) o (.slice do' dn dc)) := HB4.out.below HC.out
  have HN5 : Hid (w5.heap[nb]? = some (.cells #[.int .i64 I, .int .i64 kd, .slice do1 nd1 dc1, .slice mo1 NK mc1, .slice io1 ni1 ic1] 60)) := below_blockRz HC.out HN4.out
  clear HC HB4 HN4 HUn HLO
  obtain ⟨c0, c1⟩ := HB5.out.1.c
  have p2 := HB5.out.op.2.2.1
  go_wp2_with fail
  go_at_call 83
  refine (HHt.out w5 HB5.out.2.2.2.2).mono ?_
  rintro e w6 ⟨rfl, hbw6⟩
  have HB6 : Hid (Bx w w6 (.slice (some ⟨b, off, none⟩) t.nodes.length cap) (.int .i64 t.next) o (.slice do' dn dc)) := HB5.out.below hbw6
  have HN6 : Hid (w6.heap[nb]? = some (.cells #[.int .i64 I, .int .i64 kd, .slice do1 nd1 dc1, .slice mo1 NK mc1, .slice io1 ni1 ic1] 60)) := below_blockRz hbw6 HN5.out
  clear hbw6
  clear HB5 HN5 HHt c0 c1 p2
  obtain ⟨q0, q1, q2, q3, q4⟩ := At5.below HAD.out HG.out.2.2.2.1 HB6.out.2.2.2.2
  simp only at q0 q1 q2 q3 q4
  obtain ⟨c0, c1⟩ := HB6.out.1.c
  have bl : b < w6.heap.size := Nat.lt_of_lt_of_le HG.out.2.2.2.1 HB6.out.2.2.2.2.size
  have dl : (d : Int) < (t.nodes.length : Int) := by have := HDD.out.1; omega
  have dz : (0 : Int) ≤ (d : Int) := by omega
  go_wp2_with fail
  go_at_call 84
  refine (HNC.out w6 HB6.out.2.2.2.2).mono ?_
  rintro e w7 ⟨rfl, hbw7⟩
  have HB7 : Hid (Bx w w7 (.slice (some ⟨b, off, none⟩) t.nodes.length cap) (.int .i64 t.next) o (.slice do' dn dc)) := HB6.out.below hbw7
  have HN7 : Hid (w7.heap[nb]? = some (.cells #[.int .i64 I, .int .i64 kd, .slice do1 nd1 dc1, .slice mo1 NK mc1, .slice io1 ni1 ic1] 60)) := below_blockRz hbw7 HN6.out
  clear hbw7
  clear HB6 HN6 HNC c0 c1 q0 q1 q2 q3 q4 bl dl dz HAD
  obtain ⟨c0, c1⟩ := HB7.out.1.c
  have HCP : Hid (Calls Tryz.prog 85 #[.agg #[.slice (some ⟨b, off, none⟩) t.nodes.length cap, .int .i64 t.next]] w7 _) := copied_any _ t fs w7 (HTF.out.below HB7.out.2.2.2.2) (by have := HDD.out.1; omega) (by omega)
  go_wp2_with fail
  go_at_call 85
  refine HCP.out.mono ?_
  rintro e3 w8 ⟨u, rfl, ⟨sv, hsv, hrow, hfn, hfi⟩, hb8⟩
  obtain ⟨g, cp, hsv2⟩ := own_some hrow (by have := HDD.out.1; omega)
  rw [hl] at hsv2
  subst hsv2
  subst hsv
  rw [hl] at hrow
  obtain ⟨w9, hw9⟩ : ∃ z, z = w8.alloc (.cells #[.slice (some ⟨g, 0, none⟩) t.nodes.length cp, .int .i64 t.next] 29) := ⟨_, rfl⟩
  have hb9 : Below w7.heap.size w7 w9 := by rw [hw9]; exact bel2v hb8 (bel_newP _ _)
  have HX9 : Hid (XI w w9 w7.heap.size (w8.heap.size + 1) w8.heap.size g cp t fs) := by rw [hw9]; exact xi_new hrow HG.out.2.1 HG.out.2.2.1 HB7.out.2.2.2.2 hb8 (Array.getElem?_eq_some_iff.1 HB7.out.2.2.2.1).1
  have HB9 : Hid (Bx w w9 (.slice (some ⟨b, off, none⟩) t.nodes.length cap) (.int .i64 t.next) o (.slice do' dn dc)) := HB7.out.below hb9
  have HN9 : Hid (w9.heap[nb]? = some (.cells #[.int .i64 I, .int .i64 kd, .slice do1 nd1 dc1, .slice mo1 NK mc1, .slice io1 ni1 ic1] 60)) := below_blockRz hb9 HN7.out
  have HNL : Hid (nb < w7.heap.size) := (Array.getElem?_eq_some_iff.1 HN7.out).1
  obtain ⟨LO, hLO⟩ : ∃ z, z = w7.heap.size := ⟨_, rfl⟩
  rw [← hLO] at HX9 HNL
  obtain ⟨xb, hxb⟩ : ∃ z, z = w8.heap.size := ⟨_, rfl⟩
  rw [← hxb] at HX9
  obtain ⟨K, hK⟩ : ∃ z, z = xb + 1 := ⟨_, rfl⟩
  rw [← hK] at HX9
  clear HCP hrow hfn hfi hb8 hb9 HB7 HN7 hK hLO c0 c1 HTF
  go_upto_region 18 with fail
  rw [← hw9, ← hxb]
  clear hw9 hxb
  have HLB : Hid (LenB 1200 t) := lenB_good HG.out.1
  have HR := HR0
  have HPH : Hid (True ∧ p < t.nodes.length) := ⟨trivial, HDD.out.2.1⟩
  clear HR0
  have HXX : Hid (LenB 1200 t ∧ True ∧ True) := ⟨HLB.out, trivial, trivial⟩
  obtain ⟨w10, hw10⟩ : ∃ z, z = w9 := ⟨_, rfl⟩
  rw [← hw10] at HX9 HB9 HN9 ⊢
  clear hw10
  obtain ⟨c0, c1⟩ := HB9.out.1.c
  have p1 := HB9.out.op.2.1
  have HHx : Hid (Calls Tryz.prog 83 _ w10 _) := HHp.out w10 HB9.out.2.2.2.2
  go_wp2_with fail
  go_at_call 83
  refine HHx.out.mono ?_
  rintro e w11 ⟨rfl, hb11⟩
  have HX11 : Hid (XI w w11 LO K xb g cp t fs) := HX9.out.below hb11
  have HB11 : Hid (Bx w w11 (.slice (some ⟨b, off, none⟩) t.nodes.length cap) (.int .i64 t.next) o (.slice do' dn dc)) := HB9.out.below hb11
  have HN11 : Hid (w11.heap[nb]? = some (.cells #[.int .i64 I, .int .i64 kd, .slice do1 nd1 dc1, .slice mo1 NK mc1, .slice io1 ni1 ic1] 60)) := (hb11.block nb (Array.getElem?_eq_some_iff.1 HN9.out).1).trans HN9.out
  clear HX9 HB9 HN9 HHx hb11 c0 c1 p1
  have HDX : Hid (p < t.nodes.length) := by have h9 := HXX.out.2.2; have h8 := HPH.out.2; show p < t.nodes.length; omega
  obtain ⟨do3, nd3, dc3, mo3, nm3, mc3, io3, ni3, ic3, hfi9, ha9⟩ := HX11.out.node5 HDX.out
  have hlen9 := HXX.out.1.at HDX.out
  have HWC : Hid (∀ U, Below w11.heap.size w11 U → Calls Tryz.prog 88 #[.agg #[.int .i64 (nodeAt t p).ino, .int .i64 (nodeAt t p).kind, .slice do3 nd3 dc3, .slice mo3 nm3 mc3, .slice io3 ni3 ic3], .string old] U fun e w' => SetTo w w11 w' K xb g cp t.nodes.length p (nodeAt t p) (withoutB (nodeAt t p) old) (.slice do3 nd3 dc3) (.slice mo3 nm3 mc3) (.slice io3 ni3 ic3) e) := fun U hU => HX11.out.without_calls hfi9 ha9 ⟨hlen9.1, by omega⟩ old  hU
  obtain ⟨q0, q1, q2, q3, q4⟩ := ha9
  simp only at q0 q1 q2 q3 q4
  obtain ⟨x0, x1, x2, x3, x4⟩ := HX11.out.cells
  have dl : (p : Int) < (t.nodes.length : Int) := by have := HDX.out; omega
  have dz : (0 : Int) ≤ (p : Int) := by omega
  clear hfi9 hlen9
  go_upto_region 30 with fail
  go_cut [] from 171 to 181 (fun wx => ∃ xo xn xc yo yn yc w6, wx = set5 w6 g (p * 5) ⟨withoutB (nodeAt t p) old, .slice none 0 0, .slice xo xn xc, .slice yo yn yc⟩ ∧ Hid (FreshN K w6 ⟨withoutB (nodeAt t p) old, .slice none 0 0, .slice xo xn xc, .slice yo yn yc⟩ ∧ Below w11.heap.size w11 w6))
  case first =>
   go_region_with (go_at_call 88; refine (HWC.out _ (by first | exact Below.refl _ _ | exact (Below.refl _ _).drew)).mono ?_; rintro e6 w6 ⟨xo, xn, xc, yo, yn, yc, rfl, H6, k0, k1, k2, kz, k3, k4, k5, k6, k7⟩)
   all_goals (
    go_wp2_with fail
    go_meet
    case rel => exact ⟨xo, xn, xc, yo, yn, yc, w6, rfl, H6⟩)
  case rest =>
   obtain ⟨xo, xn, xc, yo, yn, yc, w6, hwc, H6⟩ := hcut
   obtain ⟨w12, hwn⟩ : ∃ z, z = wc := ⟨_, rfl⟩
   subst hwn
   obtain ⟨f', hf'⟩ : ∃ f' : FN, f' = ⟨withoutB (nodeAt t p) old, .slice none 0 0, .slice xo xn xc, .slice yo yn yc⟩ := ⟨_, rfl⟩
   rw [← hf'] at H6 hwc
   have hfn' : f'.n = withoutB (nodeAt t p) old := by rw [hf']
   have HX8 : Hid (XI w w12 LO K xb g cp (setB t p (withoutB (nodeAt t p) old)) (fs.set p f')) := by
    have h9 := HX11.out.put' HDX.out H6.out.1 H6.out.2
    rw [hwc]
    rw [hfn'] at h9
    exact h9
   have HB8 : Hid (Bx w w12 (.slice (some ⟨b, off, none⟩) t.nodes.length cap) (.int .i64 t.next) o (.slice do' dn dc)) := by rw [hwc]; exact (HB11.out.below H6.out.2).set5 (Nat.le_trans HX11.out.lo4 HX11.out.glo) _ _
   have HN8 : Hid (w12.heap[nb]? = some (.cells #[.int .i64 I, .int .i64 kd, .slice do1 nd1 dc1, .slice mo1 NK mc1, .slice io1 ni1 ic1] 60)) := by
    rw [hwc]
    have h7 := HNL.out
    have h8 := HX11.out.glo
    have h9 := (set5_heap w6 g (p * 5) f' (k := nb) (by omega)).trans ((H6.out.2.block nb (Array.getElem?_eq_some_iff.1 HN11.out).1).trans HN11.out)
    exact h9
   clear hwc hf' hfn' H6 HWC HX11 HB11 HN11 x0 x1 x2 x3 x4 q0 q1 q2 q3 q4 dl dz
   obtain ⟨fsw12, hfs2⟩ : ∃ z, fs.set p f' = z := ⟨_, rfl⟩
   rw [hfs2] at HX8
   clear hfs2
   have HX12 := HX8
   have HB12 := HB8
   have HN12 := HN8
   clear HX8 HB8 HN8
   obtain ⟨Y, hY⟩ : ∃ Y, setB t p (withoutB (nodeAt t p) old) = Y := ⟨_, rfl⟩
   have HXY : Hid (LenB 1200 Y ∧ Y.next = t.next ∧ Y.nodes.length = t.nodes.length) := by rw [← hY]; exact ⟨HXX.out.1.without HDX.out old, by first | exact HXX.out.2.1 | rfl, by first | exact (set_len _ _ _).trans HXX.out.2.2 | exact set_len _ _ _⟩
   have HYE : Hid (movedB t p old d s I = setB Y d (withB (nodeAt Y d) s I)) := by rw [← hY]; exact rfl
   rw [hY] at HX12
   clear hY HXX HDX
   have HXX := HXY
   clear HXY
   have m0 := cell_ofRz (j := 0) HN12.out rfl
   have ml := cell_lt m0
   have m0a : ∀ W, Below w12.heap.size w12 W → W.cell? ⟨nb, 0, none⟩ = some (.int .i64 I) := fun W hW => cell_ofRz ((hW.block nb (Array.getElem?_eq_some_iff.1 HN12.out).1).trans HN12.out) rfl
   clear m0a
   have HDX : Hid (d < Y.nodes.length) := by have h9 := HXX.out.2.2; have h8 := HDD.out.1; show d < Y.nodes.length; omega
   obtain ⟨do3, nd3, dc3, mo3, nm3, mc3, io3, ni3, ic3, hfi9, ha9⟩ := HX12.out.node5 HDX.out
   have hlen9 := HXX.out.1.at HDX.out
   have HWC : Hid (∀ U, Below w12.heap.size w12 U → Calls Tryz.prog 86 #[.agg #[.int .i64 (nodeAt Y d).ino, .int .i64 (nodeAt Y d).kind, .slice do3 nd3 dc3, .slice mo3 nm3 mc3, .slice io3 ni3 ic3], .string s, .int .i64 I] U fun e w' => SetTo w w12 w' K xb g cp Y.nodes.length d (nodeAt Y d) (withB (nodeAt Y d) s I) (.slice do3 nd3 dc3) (.slice mo3 nm3 mc3) (.slice io3 ni3 ic3) e) := fun U hU => HX12.out.with_calls hfi9 ha9 ⟨hlen9.1, by omega⟩ s I hU
   obtain ⟨q0, q1, q2, q3, q4⟩ := ha9
   simp only at q0 q1 q2 q3 q4
   obtain ⟨x0, x1, x2, x3, x4⟩ := HX12.out.cells
   have dl : (d : Int) < (Y.nodes.length : Int) := by have := HDX.out; omega
   have dz : (0 : Int) ≤ (d : Int) := by omega
   clear hfi9 hlen9
   go_upto_region 31 with fail
   go_cut [] from 182 to 194 (fun wx => ∃ xo xn xc yo yn yc w6, wx = set5 w6 g (d * 5) ⟨withB (nodeAt Y d) s I, .slice none 0 0, .slice xo xn xc, .slice yo yn yc⟩ ∧ Hid (FreshN K w6 ⟨withB (nodeAt Y d) s I, .slice none 0 0, .slice xo xn xc, .slice yo yn yc⟩ ∧ Below w12.heap.size w12 w6))
   case first =>
    go_region_with (go_at_call 86; refine (HWC.out _ (by first | exact Below.refl _ _ | exact (Below.refl _ _).drew)).mono ?_; rintro e6 w6 ⟨xo, xn, xc, yo, yn, yc, rfl, H6, k0, k1, k2, kz, k3, k4, k5, k6, k7⟩)
    all_goals (
     go_wp2_with fail
     go_meet
     case rel => exact ⟨xo, xn, xc, yo, yn, yc, w6, rfl, H6⟩)
   case rest =>
    obtain ⟨xo, xn, xc, yo, yn, yc, w6, hwc, H6⟩ := hcut
    obtain ⟨w13, hwn⟩ : ∃ z, z = wc := ⟨_, rfl⟩
    subst hwn
    obtain ⟨f', hf'⟩ : ∃ f' : FN, f' = ⟨withB (nodeAt Y d) s I, .slice none 0 0, .slice xo xn xc, .slice yo yn yc⟩ := ⟨_, rfl⟩
    rw [← hf'] at H6 hwc
    have hfn' : f'.n = withB (nodeAt Y d) s I := by rw [hf']
    have HX8 : Hid (XI w w13 LO K xb g cp (setB Y d (withB (nodeAt Y d) s I)) (fsw12.set d f')) := by
     have h9 := HX12.out.put' HDX.out H6.out.1 H6.out.2
     rw [hwc]
     rw [hfn'] at h9
     exact h9
    have HB8 : Hid (Bx w w13 (.slice (some ⟨b, off, none⟩) t.nodes.length cap) (.int .i64 t.next) o (.slice do' dn dc)) := by rw [hwc]; exact (HB12.out.below H6.out.2).set5 (Nat.le_trans HX12.out.lo4 HX12.out.glo) _ _
    have HN8 : Hid (w13.heap[nb]? = some (.cells #[.int .i64 I, .int .i64 kd, .slice do1 nd1 dc1, .slice mo1 NK mc1, .slice io1 ni1 ic1] 60)) := by
     rw [hwc]
     have h7 := HNL.out
     have h8 := HX12.out.glo
     have h9 := (set5_heap w6 g (d * 5) f' (k := nb) (by omega)).trans ((H6.out.2.block nb (Array.getElem?_eq_some_iff.1 HN12.out).1).trans HN12.out)
     exact h9
    clear hwc hf' hfn' H6 HWC HX12 HB12 HN12 x0 x1 x2 x3 x4 q0 q1 q2 q3 q4 dl dz
    obtain ⟨fsw13, hfs2⟩ : ∃ z, fsw12.set d f' = z := ⟨_, rfl⟩
    rw [hfs2] at HX8
    clear hfs2
    have HX13 := HX8
    have HB13 := HB8
    have HN13 := HN8
    clear HX8 HB8 HN8
    obtain ⟨X, hX⟩ : ∃ X, setB Y d (withB (nodeAt Y d) s I) = X := ⟨_, rfl⟩
    have HXL : Hid (LenB 1201 X) := by rw [← hX]; exact HXX.out.1.with HDX.out s I
    have HXZ : Hid (X.next = t.next) := by rw [← hX]; exact HXX.out.2.1
    rw [HYE.out, hX] at HR
    rw [hX] at HX13
    clear hX HYE HXX HDX HN13 m0 ml
    have HSW : Hid (Calls Tryz.prog 89 _ w13 _) := swept_own _ X fsw13 w13 (HX13.out.g (by have := HXL.out.size; unfold maxLen; omega)) (by have := HXL.out.size; omega) (fun i => Nat.le_trans (HXL.out.sum i) (by omega))
    obtain ⟨x0, x1, x2, x3, x4⟩ := HX13.out.cells
    obtain ⟨XN, hXN⟩ : ∃ z, X.nodes.length = z := ⟨_, rfl⟩
    obtain ⟨XX, hXX⟩ : ∃ z, X.next = z := ⟨_, rfl⟩
    rw [hXN] at x0 HSW
    rw [hXX] at x1 HSW
    go_wp2_with fail
    go_at_call 89
    refine HSW.out.mono ?_
    rintro e8 w14 ⟨so, sc, rfl, hr8, hb8⟩
    have HB14 : Hid (Bx w w14 (.slice (some ⟨b, off, none⟩) t.nodes.length cap) (.int .i64 t.next) o (.slice do' dn dc)) := HB13.out.below hb8
    obtain ⟨SN, hSN⟩ : ∃ z, (keptN X fsw13).length = z := ⟨_, rfl⟩
    rw [hSN] at hr8 ⊢
    have HEn : Hid (TreeAt (outW w14 w.heap.size (.slice so SN sc) (.int .i64 XX) (.int .i64 0) (.int .i64 0) (.int .i64 0) (.int .i64 0) (.int .i64 0) (.slice none 0 0) (.slice none 0 0) (.slice none 0 0)) (.agg #[.slice so SN sc, .int .i64 XX]) (sweptB X) ∧ Below w.heap.size w (outW w14 w.heap.size (.slice so SN sc) (.int .i64 XX) (.int .i64 0) (.int .i64 0) (.int .i64 0) (.int .i64 0) (.int .i64 0) (.slice none 0 0) (.slice none 0 0) (.slice none 0 0))) := by
     have h9 := HX13.out.swept_end HXL.out.size hb8 hSN.symm hr8 (.slice so SN sc) (.int .i64 XX) (.int .i64 0) (.int .i64 0) (.int .i64 0) (.int .i64 0) (.int .i64 0) (.slice none 0 0) (.slice none 0 0) (.slice none 0 0)
     rw [hXX] at h9
     exact h9
    clear hr8 hb8 HSW HX13 HB13 x0 x1 x2 x3 x4 hSN hXN hXX
    obtain ⟨r0, r1⟩ := HB14.out.2.2.1.c
    have z0 := HB14.out.2.2.1.fz 0
    have z1 := HB14.out.2.2.1.fz 1
    obtain ⟨s0, s1, s2, s3, s4, s5, s6, s7, sz⟩ := HB14.out.re
    go_wp2
    refine bodyPost_ret (v := .tuple #[.agg #[.slice so SN sc, .int .i64 XX], .agg #[.int .i64 0, .int .i64 0, .int .i64 0, .int .i64 0, .int .i64 0, .slice none 0 0, .slice none 0 0, .slice none 0 0], .int .i64 0]) (by simp [results, Tryz.results50, go_sem, *]) rfl ?_
    rw [HR.out]
    unfold outW at HEn
    exact ⟨_, _, rfl, HEn.out.1, replyAt_no _, HEn.out.2⟩
end Go.Proofs.YtbebgobboccjcaaGreatDoor
