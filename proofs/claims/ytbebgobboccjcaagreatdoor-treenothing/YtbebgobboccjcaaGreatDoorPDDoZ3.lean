/- Do on a zero variable: an operation that is refused. -/
import Derived.Test.YtbebgobboccjcaaGreatDoorPDDoZ2
import Derived.Test.YtbebgobboccjcaaGreatDoorH4
import Derived.Deep.RegionWith
namespace Go.Proofs.YtbebgobboccjcaaGreatDoor
open Go.RowKit Kit
set_option linter.unusedVariables false
set_option maxRecDepth 4000 in
set_option maxHeartbeats 16000000 in
theorem ddoz_err (o : OpB) (da : Option Addr) (dc : Nat) (w : World) (p : Nat) (hz : ZeroT w p) (hs1 : o.path.size ≤ maxLen) (hs2 : o.to.size ≤ maxLen) (hdv : Sees w (.slice da o.data.length dc) (intsV .u8 o.data)) (hc : (doB newB o).2.2 ≠ 0) :
 Calls Tryz.prog 14 #[.pointer (some ⟨p, 0, none⟩), .agg #[.int .i64 o.kind, .string o.path, .string o.to, .int .i64 o.off, .int .i64 o.n, .slice da o.data.length dc, .int .i64 o.snap]] w fun e w' => ∃ b, w.heap.size ≤ b ∧ ToldF w p b (doB newB o) o.path e w' := by
 have hp : p < w.heap.size := (Array.getElem?_eq_some_iff.1 hz).1
 have HP : Hid (p < w.heap.size) := hp
 have HSN : Hid ((doB newB o).2.1.snaps = []) := do_snaps newB_good o
 have H0 : Hid (Two w _ o (.slice da o.data.length dc)) := two_new w o (.slice da o.data.length dc)
 obtain ⟨W, hW⟩ : ∃ z, z = (w.alloc (.cells #[.int .i64 o.kind, .string o.path, .string o.to, .int .i64 o.off, .int .i64 o.n, .slice da o.data.length dc, .int .i64 o.snap] 35)).alloc (.cells #[.int .i64 0, .int .i64 0, .int .i64 0, .int .i64 0, .int .i64 0, .slice none 0 0, .slice none 0 0, .slice none 0 0] 40) := ⟨_, rfl⟩
 rw [← hW] at H0
 have hWs : W.heap.size = w.heap.size + 2 := by rw [hW]; simp
 obtain ⟨V, hV⟩ : ∃ z, z = W.alloc (.cells #[.int .i64 0, .int .i64 0, .int .i64 0, .int .i64 0, .int .i64 0, .slice none 0 0, .slice none 0 0, .slice none 0 0] 40) := ⟨_, rfl⟩
 have hVB : Below W.heap.size W V := by rw [hV]; exact (Below.refl _ _).alloc (Nat.le_refl _) _
 have hVR : RBox V (w.heap.size + 2) := by rw [hV, ← hWs]; exact rbox_new W
 have hVs : V.heap.size = w.heap.size + 3 := by rw [hV]; simp [hWs]
 have HM := zmade1 o da dc w W p hz hdv H0.out hWs
 have HA := zact1 o da dc w p hp hs1 hs2
 obtain ⟨o0, o1, o2, o3, o4, o5, o6, _⟩ := H0.out.1.c
 obtain ⟨⟨t1, r1, c1⟩, hx⟩ : ∃ x, doB newB o = x := ⟨_, rfl⟩
 rw [hx] at HA HSN hc ⊢
 simp only at HA HSN hc ⊢
 have HN1 := fun V => dfnew_num treeS o.path c1 V
 have HNN : Hid (∀ V, Calls Tryz.prog 36 #[.string treeS, .string o.path, .iface 80 (.int .i64 c1)] V fun e w' => e = .returned (.iface 85 (.pointer (some ⟨V.heap.size, 0, none⟩))) ∧ w' = V.alloc (.cells #[.string treeS, .string o.path, .iface 80 (.int .i64 c1)] 89)) := HN1
 have HTS : Hid (treeS = ⟨#[116, 114, 101, 101]⟩) := rfl
 rw [HTS.out] at HNN
 have HCN : Hid (c1 ≠ 0) := hc
 rw [errV_ne hc] at HA
 clear hc
 have HA1 : Hid (∀ U b, ZAt w U p b o (.slice da o.data.length dc) → Calls Tryz.prog 37 #[.pointer (some ⟨p, 0, none⟩), .agg #[.int .i64 o.kind, .string o.path, .string o.to, .int .i64 o.off, .int .i64 o.n, .slice da o.data.length dc, .int .i64 o.snap]] U fun e w' => ∃ ra rc na nc sa sc, e = .returned (.tuple #[.agg #[.int .i64 r1.ino, .int .i64 r1.kind, .int .i64 r1.size, .int .i64 r1.links, .int .i64 r1.n, .slice ra r1.data.length rc, .slice na r1.names.length nc, .slice sa r1.snaps.length sc], .iface 80 (.int .i64 c1)]) ∧ w'.cell? ⟨w.heap.size + 1, 0, none⟩ = some (.int .i64 0) ∧ w'.cell? ⟨w.heap.size + 1, 1, none⟩ = some (.int .i64 0) ∧ w'.cell? ⟨w.heap.size + 1, 2, none⟩ = some (.int .i64 0) ∧ w'.cell? ⟨w.heap.size + 1, 3, none⟩ = some (.int .i64 0) ∧ w'.cell? ⟨w.heap.size + 1, 4, none⟩ = some (.int .i64 0) ∧ w'.cell? ⟨w.heap.size + 1, 5, none⟩ = some (.slice none 0 0) ∧ w'.cell? ⟨w.heap.size + 1, 6, none⟩ = some (.slice none 0 0) ∧ w'.cell? ⟨w.heap.size + 1, 7, none⟩ = some (.slice none 0 0) ∧ (∀ j, w'.frozen? ⟨w.heap.size + 1, j, none⟩ = false) ∧ w'.cell? ⟨w.heap.size, 1, none⟩ = some (.string o.path) ∧ w.heap.size < w'.heap.size ∧ w.heap.size + 1 < w'.heap.size ∧ Hid (ReplyAt w' (.agg #[.int .i64 r1.ino, .int .i64 r1.kind, .int .i64 r1.size, .int .i64 r1.links, .int .i64 r1.n, .slice ra r1.data.length rc, .slice na r1.names.length nc, .slice sa r1.snaps.length sc]) r1 ∧ DTree w' p b t1 ∧ Turn p b w w' ∧ RBox w' (w.heap.size + 1))) := HA.1
 have HA2 : Hid (∀ U b B, ZAt w U p b o (.slice da o.data.length dc) → RBox U B → B ≠ p → B ≠ b → Calls Tryz.prog 37 #[.pointer (some ⟨p, 0, none⟩), .agg #[.int .i64 o.kind, .string o.path, .string o.to, .int .i64 o.off, .int .i64 o.n, .slice da o.data.length dc, .int .i64 o.snap]] U fun e w' => ∃ ra rc na nc sa sc, e = .returned (.tuple #[.agg #[.int .i64 r1.ino, .int .i64 r1.kind, .int .i64 r1.size, .int .i64 r1.links, .int .i64 r1.n, .slice ra r1.data.length rc, .slice na r1.names.length nc, .slice sa r1.snaps.length sc], .iface 80 (.int .i64 c1)]) ∧ w'.cell? ⟨w.heap.size + 1, 0, none⟩ = some (.int .i64 0) ∧ w'.cell? ⟨w.heap.size + 1, 1, none⟩ = some (.int .i64 0) ∧ w'.cell? ⟨w.heap.size + 1, 2, none⟩ = some (.int .i64 0) ∧ w'.cell? ⟨w.heap.size + 1, 3, none⟩ = some (.int .i64 0) ∧ w'.cell? ⟨w.heap.size + 1, 4, none⟩ = some (.int .i64 0) ∧ w'.cell? ⟨w.heap.size + 1, 5, none⟩ = some (.slice none 0 0) ∧ w'.cell? ⟨w.heap.size + 1, 6, none⟩ = some (.slice none 0 0) ∧ w'.cell? ⟨w.heap.size + 1, 7, none⟩ = some (.slice none 0 0) ∧ (∀ j, w'.frozen? ⟨w.heap.size + 1, j, none⟩ = false) ∧ w'.cell? ⟨w.heap.size, 1, none⟩ = some (.string o.path) ∧ w.heap.size < w'.heap.size ∧ w.heap.size + 1 < w'.heap.size ∧ B < w'.heap.size ∧ (w'.cell? ⟨B, 0, none⟩ = some (.int .i64 0) ∧ w'.cell? ⟨B, 1, none⟩ = some (.int .i64 0) ∧ w'.cell? ⟨B, 2, none⟩ = some (.int .i64 0) ∧ w'.cell? ⟨B, 3, none⟩ = some (.int .i64 0) ∧ w'.cell? ⟨B, 4, none⟩ = some (.int .i64 0) ∧ w'.cell? ⟨B, 5, none⟩ = some (.slice none 0 0) ∧ w'.cell? ⟨B, 6, none⟩ = some (.slice none 0 0) ∧ w'.cell? ⟨B, 7, none⟩ = some (.slice none 0 0) ∧ (∀ j, w'.frozen? ⟨B, j, none⟩ = false)) ∧ Hid (ReplyAt w' (.agg #[.int .i64 r1.ino, .int .i64 r1.kind, .int .i64 r1.size, .int .i64 r1.links, .int .i64 r1.n, .slice ra r1.data.length rc, .slice na r1.names.length nc, .slice sa r1.snaps.length sc]) r1 ∧ DTree w' p b t1 ∧ Turn p b w w' ∧ RBox w' (w.heap.size + 1) ∧ RBox w' B)) := HA.2
 have HM1 : Hid (Calls Tryz.prog 32 _ _ _) := HM W.drew (Below.refl _ _).drew
 have HM2 : Hid (Calls Tryz.prog 32 #[.pointer (some ⟨p, 0, none⟩)] V.drew fun e w' => ∃ b, e = .returned (.pointer (some ⟨p, 0, none⟩)) ∧ w'.cell? ⟨w.heap.size, 0, none⟩ = some (.int .i64 o.kind) ∧ w'.cell? ⟨w.heap.size, 1, none⟩ = some (.string o.path) ∧ w'.cell? ⟨w.heap.size, 2, none⟩ = some (.string o.to) ∧ w'.cell? ⟨w.heap.size, 3, none⟩ = some (.int .i64 o.off) ∧ w'.cell? ⟨w.heap.size, 4, none⟩ = some (.int .i64 o.n) ∧ w'.cell? ⟨w.heap.size, 5, none⟩ = some (.slice da o.data.length dc) ∧ w'.cell? ⟨w.heap.size, 6, none⟩ = some (.int .i64 o.snap) ∧ Hid (ZAt w w' p b o (.slice da o.data.length dc) ∧ w.heap.size + 3 ≤ b ∧ b < w'.heap.size ∧ RBox w' (w.heap.size + 2))) := by
  refine (HM V.drew hVB.drew).mono ?_
  rintro e w' ⟨b, he, k0, k1, k2, k3, k4, k5, k6, HZ⟩
  have hb : w.heap.size + 3 ≤ b := by have h : V.heap.size ≤ b := HZ.out.2.1; omega
  exact ⟨b, he, k0, k1, k2, k3, k4, k5, k6, ⟨HZ.out.1, hb, HZ.out.2.2.1, RBox.turn (w := V.drew) (by exact hVR) HZ.out.2.2.2 (by omega) (by omega)⟩⟩
 clear hz hs1 hs2 hdv hx hp HN1 HM HA hVs
 rw [hV] at HM2
 go_enter Tryz.func14, Tryz.ntmps14
 go_wp2
 rw [← hW]
 clear hW hV hVB hVR
 go_region_with (first
  | (go_at_call 32; refine HM1.out.mono ?_; rintro e w0 ⟨b, rfl, k0, k1, k2, k3, k4, k5, k6, HZ⟩; have ks : w.heap.size < w0.heap.size := (by have k : b < w0.heap.size := HZ.out.2.2.1; have k2 := HZ.out.1.2.1; omega); have ks1 : w.heap.size + 1 < w0.heap.size := (by have k : b < w0.heap.size := HZ.out.2.2.1; have k2 := HZ.out.1.2.1; omega); have HB1 : Hid (Calls Tryz.prog 37 _ _ _) := HA1.out w0 b HZ.out.1; have n1 : w0.heap.size ≠ p := (by have h := HP.out; have k := HZ.out.1.2.2.1.size; omega); have n2 : w0.heap.size ≠ b := (by have k : b < w0.heap.size := HZ.out.2.2.1; omega); have HB2 : Hid (Calls Tryz.prog 37 _ _ _) := HA2.out (w0.alloc (.cells #[.int .i64 0, .int .i64 0, .int .i64 0, .int .i64 0, .int .i64 0, .slice none 0 0, .slice none 0 0, .slice none 0 0] 40)) b w0.heap.size (HZ.out.1.below ((Below.refl _ _).alloc (Nat.le_refl _) _)) (rbox_new w0) n1 n2; have HW1 : Hid (w.heap.size + 2 ≤ b ∧ w.heap.size + 2 ≤ w0.heap.size ∧ w0.heap.size ≠ b ∧ w.heap.size ≤ b) := ⟨HZ.out.1.2.1, (by have k : b < w0.heap.size := HZ.out.2.2.1; have k2 := HZ.out.1.2.1; omega), n2, (by have k2 := HZ.out.1.2.1; omega)⟩; clear n1 n2)
  | (go_at_call 32; refine HM2.out.mono ?_; rintro e w0 ⟨b, rfl, k0, k1, k2, k3, k4, k5, k6, HZ⟩; have ks : w.heap.size < w0.heap.size := (by have k : b < w0.heap.size := HZ.out.2.2.1; have k2 := HZ.out.1.2.1; omega); have ks1 : w.heap.size + 1 < w0.heap.size := (by have k : b < w0.heap.size := HZ.out.2.2.1; have k2 := HZ.out.1.2.1; omega); have n1 : w.heap.size + 2 ≠ p := (by have h := HP.out; omega); have n2 : w.heap.size + 2 ≠ b := (by have k : w.heap.size + 3 ≤ b := HZ.out.2.1; omega); have HB3 : Hid (Calls Tryz.prog 37 _ _ _) := HA2.out w0 b (w.heap.size + 2) HZ.out.1 HZ.out.2.2.2 n1 n2; have HW1 : Hid (w.heap.size + 2 ≤ b ∧ w.heap.size + 2 ≤ w.heap.size + 2 ∧ w.heap.size + 2 ≠ b ∧ w.heap.size ≤ b) := ⟨HZ.out.1.2.1, Nat.le_refl _, n2, (by have k2 := HZ.out.1.2.1; omega)⟩; clear n1 n2)
  | (go_at_call 37; refine HB3.out.mono ?_; rintro e w1 ⟨ra, rc, na, nc, sa, sc, rfl, b0, b1, b2, b3, b4, b5, b6, b7, bf, pth, s1, s2, s3, ⟨c0, cc1, c2, c3, c4, c5, c6, c7, cf⟩, HX⟩; clear HB3)
  | (go_at_call 37; refine HB2.out.mono ?_; rintro e w1 ⟨ra, rc, na, nc, sa, sc, rfl, b0, b1, b2, b3, b4, b5, b6, b7, bf, pth, s1, s2, s3, ⟨c0, cc1, c2, c3, c4, c5, c6, c7, cf⟩, HX⟩; clear HB1 HB2)
  | (go_at_call 37; refine HB1.out.mono ?_; rintro e w1 ⟨ra, rc, na, nc, sa, sc, rfl, b0, b1, b2, b3, b4, b5, b6, b7, bf, pth, s1, s2, HX⟩; clear HB1 HB2))
 all_goals clear HM1 HM2 HA1 HA2 k0 k1 k2 k3 k4 k5 k6 HZ
 all_goals (
  go_wp2
  try (go_region_with (first
   | (go_at_call 36; refine (HNN.out _).mono ?_; rintro e w2 ⟨rfl, rfl⟩))))
 all_goals (
  go_wp2
  have hlt := HP.out
  first
   | (have hh := c0
      refine bodyPost_ret (v := .tuple #[.agg #[.int .i64 r1.ino, .int .i64 r1.kind, .int .i64 r1.size, .int .i64 r1.links, .int .i64 r1.n, .slice ra r1.data.length rc, .slice na r1.names.length nc, .slice sa r1.snaps.length sc], .iface 85 (.pointer (some ⟨w1.heap.size, 0, none⟩))]) (by simp [results, Tryz.results14, go_sem, *]) rfl ?_
      exact ⟨_, HW1.out.2.2.2, do_err2z HX.out.1 HX.out.2.1 HX.out.2.2.1 HX.out.2.2.2.1 HX.out.2.2.2.2 HW1.out.2.1 HW1.out.2.2.1 hlt HW1.out.1 HSN.out HCN.out rfl⟩)
   | (refine bodyPost_ret (v := .tuple #[.agg #[.int .i64 r1.ino, .int .i64 r1.kind, .int .i64 r1.size, .int .i64 r1.links, .int .i64 r1.n, .slice ra r1.data.length rc, .slice na r1.names.length nc, .slice sa r1.snaps.length sc], .iface 85 (.pointer (some ⟨w1.heap.size + 1, 0, none⟩))]) (by simp [results, Tryz.results14, go_sem, *]) rfl ?_
      exact ⟨_, HW1.out.2.2.2, do_err1z HX.out.1 HX.out.2.1 HX.out.2.2.1 HX.out.2.2.2 hlt HW1.out.1 HSN.out HCN.out rfl⟩))
theorem ddoz_any (o : OpB) (da : Option Addr) (dc : Nat) (w : World) (p : Nat) (hz : ZeroT w p) (hs1 : o.path.size ≤ maxLen) (hs2 : o.to.size ≤ maxLen) (hdv : Sees w (.slice da o.data.length dc) (intsV .u8 o.data)) :
 Calls Tryz.prog 14 #[.pointer (some ⟨p, 0, none⟩), .agg #[.int .i64 o.kind, .string o.path, .string o.to, .int .i64 o.off, .int .i64 o.n, .slice da o.data.length dc, .int .i64 o.snap]] w fun e w' => ∃ b, w.heap.size ≤ b ∧ ToldF w p b (doB newB o) o.path e w' := by
 by_cases hc : (doB newB o).2.2 = 0
 · exact ddoz_ok o da dc w p hz hs1 hs2 hdv hc
 · exact ddoz_err o da dc w p hz hs1 hs2 hdv hc
end Go.Proofs.YtbebgobboccjcaaGreatDoor
