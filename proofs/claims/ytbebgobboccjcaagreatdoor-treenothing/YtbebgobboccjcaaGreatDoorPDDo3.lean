/- Do: an operation that is refused. -/
import Derived.Test.YtbebgobboccjcaaGreatDoorH4
import Derived.Deep.RegionWith
namespace Go.Proofs.YtbebgobboccjcaaGreatDoor
open Go.RowKit Kit
set_option linter.unusedVariables false
set_option maxRecDepth 4000 in
set_option maxHeartbeats 16000000 in
theorem ddo_err (o : OpB) (da : Option Addr) (dc : Nat) (w : World) (p b : Nat) (t : TreeB) (hT : DTree w p b t) (hG : Good t) (hs1 : o.path.size ≤ maxLen) (hs2 : o.to.size ≤ maxLen) (hdv : Sees w (.slice da o.data.length dc) (intsV .u8 o.data)) (hc : (doB t o).2.2 ≠ 0) :
 Calls Tryz.prog 14 #[.pointer (some ⟨p, 0, none⟩), .agg #[.int .i64 o.kind, .string o.path, .string o.to, .int .i64 o.off, .int .i64 o.n, .slice da o.data.length dc, .int .i64 o.snap]] w fun e w' => ToldF w p b (doB t o) o.path e w' := by
 obtain ⟨hp, hb⟩ := hT.cells.2.2.2
 have HPB : Hid (p < w.heap.size ∧ b < w.heap.size) := ⟨hp, hb⟩
 have HSN : Hid ((doB t o).2.1.snaps = []) := do_snaps hG o
 have H0 : Hid (Two w _ o (.slice da o.data.length dc)) := two_new w o (.slice da o.data.length dc)
 obtain ⟨W, hW⟩ : ∃ z, z = (w.alloc (.cells #[.int .i64 o.kind, .string o.path, .string o.to, .int .i64 o.off, .int .i64 o.n, .slice da o.data.length dc, .int .i64 o.snap] 35)).alloc (.cells #[.int .i64 0, .int .i64 0, .int .i64 0, .int .i64 0, .int .i64 0, .slice none 0 0, .slice none 0 0, .slice none 0 0] 40) := ⟨_, rfl⟩
 rw [← hW] at H0
 have hWs : W.heap.size = w.heap.size + 2 := by rw [hW]; simp
 obtain ⟨V, hV⟩ : ∃ z, z = W.alloc (.cells #[.int .i64 0, .int .i64 0, .int .i64 0, .int .i64 0, .int .i64 0, .slice none 0 0, .slice none 0 0, .slice none 0 0] 40) := ⟨_, rfl⟩
 have hVB : Below W.heap.size W V := by rw [hV]; exact (Below.refl _ _).alloc (Nat.le_refl _) _
 have hVR : RBox V (w.heap.size + 2) := by rw [hV, ← hWs]; exact rbox_new W
 have HM : Hid (∀ U, Below W.heap.size W U → Calls Tryz.prog 32 #[.pointer (some ⟨p, 0, none⟩)] U fun e w' => e = .returned (.pointer (some ⟨p, 0, none⟩)) ∧ w' = U) := fun U hU => dmade_any U p b t ((hT.below H0.out.2.2).below hU)
 have HA : Hid (∀ U, Below W.heap.size W U → Calls Tryz.prog 37 #[.pointer (some ⟨p, 0, none⟩), .agg #[.int .i64 o.kind, .string o.path, .string o.to, .int .i64 o.off, .int .i64 o.n, .slice da o.data.length dc, .int .i64 o.snap]] U fun e w' => ∃ ra rc na nc sa sc, e = .returned (.tuple #[.agg #[.int .i64 (doB t o).2.1.ino, .int .i64 (doB t o).2.1.kind, .int .i64 (doB t o).2.1.size, .int .i64 (doB t o).2.1.links, .int .i64 (doB t o).2.1.n, .slice ra (doB t o).2.1.data.length rc, .slice na (doB t o).2.1.names.length nc, .slice sa (doB t o).2.1.snaps.length sc], errV (doB t o).2.2]) ∧
  w'.cell? ⟨w.heap.size + 1, 0, none⟩ = some (.int .i64 0) ∧ w'.cell? ⟨w.heap.size + 1, 1, none⟩ = some (.int .i64 0) ∧ w'.cell? ⟨w.heap.size + 1, 2, none⟩ = some (.int .i64 0) ∧ w'.cell? ⟨w.heap.size + 1, 3, none⟩ = some (.int .i64 0) ∧ w'.cell? ⟨w.heap.size + 1, 4, none⟩ = some (.int .i64 0) ∧ w'.cell? ⟨w.heap.size + 1, 5, none⟩ = some (.slice none 0 0) ∧ w'.cell? ⟨w.heap.size + 1, 6, none⟩ = some (.slice none 0 0) ∧ w'.cell? ⟨w.heap.size + 1, 7, none⟩ = some (.slice none 0 0) ∧ (∀ j, w'.frozen? ⟨w.heap.size + 1, j, none⟩ = false) ∧ w'.cell? ⟨w.heap.size, 1, none⟩ = some (.string o.path) ∧ w.heap.size < w'.heap.size ∧ w.heap.size + 1 < w'.heap.size ∧
  Hid (ReplyAt w' (.agg #[.int .i64 (doB t o).2.1.ino, .int .i64 (doB t o).2.1.kind, .int .i64 (doB t o).2.1.size, .int .i64 (doB t o).2.1.links, .int .i64 (doB t o).2.1.n, .slice ra (doB t o).2.1.data.length rc, .slice na (doB t o).2.1.names.length nc, .slice sa (doB t o).2.1.snaps.length sc]) (doB t o).2.1 ∧ DTree w' p b (doB t o).1 ∧ Turn p b w w' ∧ RBox w' (w.heap.size + 1) ∧ Turn p b U w')) := fun U hU => by
  have hwU := bel2v H0.out.2.2 hU
  refine (dact_any o da dc U p b t (hT.below hwU) hG hs1 hs2 (hdv.below hwU)).mono ?_
  intro e w' h
  have hTu := h
  have h2 : Two w U o (.slice da o.data.length dc) := H0.out.below hU
  obtain ⟨ra, rc, na, nc, sa, sc, q, b0, b1, b2, b3, b4, b5, b6, b7, bf, HX⟩ := told_x h2 hp hb h
  obtain ⟨_, _, _, _, hTurn⟩ := hTu
  have ob := h2.1.turn hTurn (by omega) (by omega)
  have hr := HX.out.2.2.2.c.2.2.2.2.2.2.2.2.2
  exact ⟨ra, rc, na, nc, sa, sc, q, b0, b1, b2, b3, b4, b5, b6, b7, bf, ob.c.2.1, by omega, hr, ⟨HX.out.1, HX.out.2.1, HX.out.2.2.1, HX.out.2.2.2, hTurn⟩⟩
 obtain ⟨o0, o1, o2, o3, o4, o5, o6, _⟩ := H0.out.1.c
 obtain ⟨⟨t1, r1, c1⟩, hx⟩ : ∃ x, doB t o = x := ⟨_, rfl⟩
 rw [hx] at HA HSN hc ⊢
 simp only at HA HSN hc ⊢
 have HN0 := fun V => dfnew_nil treeS o.path V
 have HN1 := fun V => dfnew_num treeS o.path c1 V
 have HNN : Hid ((∀ V, Calls Tryz.prog 36 #[.string treeS, .string o.path, .nilIface] V fun e w' => e = .returned .nilIface ∧ w' = V) ∧ ∀ V, Calls Tryz.prog 36 #[.string treeS, .string o.path, .iface 80 (.int .i64 c1)] V fun e w' => e = .returned (.iface 85 (.pointer (some ⟨V.heap.size, 0, none⟩))) ∧ w' = V.alloc (.cells #[.string treeS, .string o.path, .iface 80 (.int .i64 c1)] 89)) := ⟨HN0, HN1⟩
 have HTS : Hid (treeS = ⟨#[116, 114, 101, 101]⟩) := rfl
 rw [HTS.out] at HNN
 clear hT hG hs1 hs2 hdv hx hp hb HN0 HN1
 have HCN : Hid (c1 ≠ 0) := hc
 rw [errV_ne hc] at HA
 clear hc
 have HA1 : Hid (Calls Tryz.prog 37 _ _ _) := HA.out W.drew (Below.refl _ _).drew
 have HM1 : Hid (Calls Tryz.prog 32 _ _ _) := HM.out W.drew (Below.refl _ _).drew
 have HM2 : Hid (Calls Tryz.prog 32 _ _ _) := HM.out V.drew hVB.drew
 have HA2 : Hid (Calls Tryz.prog 37 #[.pointer (some ⟨p, 0, none⟩), .agg #[.int .i64 o.kind, .string o.path, .string o.to, .int .i64 o.off, .int .i64 o.n, .slice da o.data.length dc, .int .i64 o.snap]] V.drew fun e w' => ∃ ra rc na nc sa sc, e = .returned (.tuple #[.agg #[.int .i64 r1.ino, .int .i64 r1.kind, .int .i64 r1.size, .int .i64 r1.links, .int .i64 r1.n, .slice ra r1.data.length rc, .slice na r1.names.length nc, .slice sa r1.snaps.length sc], .iface 80 (.int .i64 c1)]) ∧
  w'.cell? ⟨w.heap.size + 1, 0, none⟩ = some (.int .i64 0) ∧ w'.cell? ⟨w.heap.size + 1, 1, none⟩ = some (.int .i64 0) ∧ w'.cell? ⟨w.heap.size + 1, 2, none⟩ = some (.int .i64 0) ∧ w'.cell? ⟨w.heap.size + 1, 3, none⟩ = some (.int .i64 0) ∧ w'.cell? ⟨w.heap.size + 1, 4, none⟩ = some (.int .i64 0) ∧ w'.cell? ⟨w.heap.size + 1, 5, none⟩ = some (.slice none 0 0) ∧ w'.cell? ⟨w.heap.size + 1, 6, none⟩ = some (.slice none 0 0) ∧ w'.cell? ⟨w.heap.size + 1, 7, none⟩ = some (.slice none 0 0) ∧ (∀ j, w'.frozen? ⟨w.heap.size + 1, j, none⟩ = false) ∧ w'.cell? ⟨w.heap.size, 1, none⟩ = some (.string o.path) ∧ w.heap.size < w'.heap.size ∧ w.heap.size + 1 < w'.heap.size ∧ w.heap.size + 2 < w'.heap.size ∧
  (w'.cell? ⟨w.heap.size + 2, 0, none⟩ = some (.int .i64 0) ∧ w'.cell? ⟨w.heap.size + 2, 1, none⟩ = some (.int .i64 0) ∧ w'.cell? ⟨w.heap.size + 2, 2, none⟩ = some (.int .i64 0) ∧ w'.cell? ⟨w.heap.size + 2, 3, none⟩ = some (.int .i64 0) ∧ w'.cell? ⟨w.heap.size + 2, 4, none⟩ = some (.int .i64 0) ∧ w'.cell? ⟨w.heap.size + 2, 5, none⟩ = some (.slice none 0 0) ∧ w'.cell? ⟨w.heap.size + 2, 6, none⟩ = some (.slice none 0 0) ∧ w'.cell? ⟨w.heap.size + 2, 7, none⟩ = some (.slice none 0 0) ∧ (∀ j, w'.frozen? ⟨w.heap.size + 2, j, none⟩ = false)) ∧
  Hid (ReplyAt w' (.agg #[.int .i64 r1.ino, .int .i64 r1.kind, .int .i64 r1.size, .int .i64 r1.links, .int .i64 r1.n, .slice ra r1.data.length rc, .slice na r1.names.length nc, .slice sa r1.snaps.length sc]) r1 ∧ DTree w' p b t1 ∧ Turn p b w w' ∧ RBox w' (w.heap.size + 1) ∧ RBox w' (w.heap.size + 2))) := by
  refine (HA.out V.drew hVB.drew).mono ?_
  rintro e w' ⟨ra, rc, na, nc, sa, sc, q, b0, b1, b2, b3, b4, b5, b6, b7, bf, pth, s1, s2, HX⟩
  have hlt := HPB.out
  have hr2 : RBox w' (w.heap.size + 2) := RBox.turn (w := V.drew) (by exact hVR) HX.out.2.2.2.2 (by omega) (by omega)
  have c2 := hr2.c
  exact ⟨ra, rc, na, nc, sa, sc, q, b0, b1, b2, b3, b4, b5, b6, b7, bf, pth, s1, s2, c2.2.2.2.2.2.2.2.2.2, ⟨c2.1, c2.2.1, c2.2.2.1, c2.2.2.2.1, c2.2.2.2.2.1, c2.2.2.2.2.2.1, c2.2.2.2.2.2.2.1, c2.2.2.2.2.2.2.2.1, c2.2.2.2.2.2.2.2.2.1⟩, ⟨HX.out.1, HX.out.2.1, HX.out.2.2.1, HX.out.2.2.2.1, hr2⟩⟩
 rw [hV] at HM2 HA2
 go_enter Tryz.func14, Tryz.ntmps14
 go_wp2
 rw [← hW]
 clear hW hV hVB hVR HM HA
 go_region_with (first
  | (go_at_call 32; refine HM1.out.mono ?_; rintro e w' ⟨rfl, rfl⟩)
  | (go_at_call 32; refine HM2.out.mono ?_; rintro e w' ⟨rfl, rfl⟩)
  | (go_at_call 37; refine HA1.out.mono ?_; rintro e w1 ⟨ra, rc, na, nc, sa, sc, rfl, b0, b1, b2, b3, b4, b5, b6, b7, bf, pth, s1, s2, HX⟩)
  | (go_at_call 37; refine HA2.out.mono ?_; rintro e w1 ⟨ra, rc, na, nc, sa, sc, rfl, b0, b1, b2, b3, b4, b5, b6, b7, bf, pth, s1, s2, s3, ⟨c0, cc1, c2, c3, c4, c5, c6, c7, cf⟩, HX⟩))
 all_goals (
  clear HM1 HM2 HA1 HA2
  go_wp2
  try (go_region_with (first
   | (go_at_call 36; refine (HNN.out.2 _).mono ?_; rintro e w2 ⟨rfl, rfl⟩))))
 all_goals (
  go_wp2
  have hlt := HPB.out
  first
   | (have hh := c0
      refine bodyPost_ret (v := .tuple #[.agg #[.int .i64 r1.ino, .int .i64 r1.kind, .int .i64 r1.size, .int .i64 r1.links, .int .i64 r1.n, .slice ra r1.data.length rc, .slice na r1.names.length nc, .slice sa r1.snaps.length sc], .iface 85 (.pointer (some ⟨w1.heap.size, 0, none⟩))]) (by simp [results, Tryz.results14, go_sem, *]) rfl ?_
      exact do_err2 HX.out.1 HX.out.2.1 HX.out.2.2.1 HX.out.2.2.2.1 HX.out.2.2.2.2 hlt.1 hlt.2 HSN.out HCN.out rfl)
   | (refine bodyPost_ret (v := .tuple #[.agg #[.int .i64 r1.ino, .int .i64 r1.kind, .int .i64 r1.size, .int .i64 r1.links, .int .i64 r1.n, .slice ra r1.data.length rc, .slice na r1.names.length nc, .slice sa r1.snaps.length sc], .iface 85 (.pointer (some ⟨w1.heap.size + 1, 0, none⟩))]) (by simp [results, Tryz.results14, go_sem, *]) rfl ?_
      exact do_err1 HX.out.1 HX.out.2.1 HX.out.2.2.1 HX.out.2.2.2.1 hlt.1 hlt.2 HSN.out HCN.out rfl))
end Go.Proofs.YtbebgobboccjcaaGreatDoor
