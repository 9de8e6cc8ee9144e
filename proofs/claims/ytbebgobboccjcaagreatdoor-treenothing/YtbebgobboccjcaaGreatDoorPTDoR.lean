/- dolmenref5.Do: what one call answers, where it hands on. -/
import Derived.Test.YtbebgobboccjcaaGreatDoorH4
import Derived.Test.YtbebgobboccjcaaGreatDoorH5
import Derived.Test.YtbebgobboccjcaaGreatDoorPTMakes
import Derived.Test.YtbebgobboccjcaaGreatDoorPTRemoves
import Derived.Test.YtbebgobboccjcaaGreatDoorH6
import Derived.Test.YtbebgobboccjcaaGreatDoorPTLink
namespace Go.Proofs.YtbebgobboccjcaaGreatDoor
open Go.RowKit Kit
set_option linter.unusedVariables false

theorem tree_form {w : World} {v : Value} {t : TreeB} (h : TreeAt w v t) : ∃ ao n cap, v = .agg #[.slice ao n cap, .int .i64 t.next] := by
 obtain ⟨ao, cap, fs, rfl, _⟩ := h.opened
 exact ⟨_, _, _, rfl⟩
set_option maxRecDepth 4000 in
set_option maxHeartbeats 40000000 in
theorem dref_nine (v ov : Value) (t : TreeB) (o : OpB) (w : World) (hT : TreeAt w v t) (hg : Good t) (ho : OpAt w ov o) (hk : o.kind = 1 ∨ o.kind = 2 ∨ o.kind = 3 ∨ o.kind = 4 ∨ o.kind = 5 ∨ o.kind = 6 ∨ o.kind = 7 ∨ o.kind = 8 ∨ o.kind = 9) :
 Calls Tryz.prog 30 #[v, ov] w fun e w' => ∃ tv rv, e = .returned (.tuple #[tv, rv, .int .i64 (doB t o).2.2]) ∧ TreeN w.heap.size w' t.next tv (doB t o).1 ∧ ReplyAt w' rv (doB t o).2.1 ∧ Below w.heap.size w w' := by
 have HT : Hid (TreeAt w v t) := hT
 obtain ⟨fs, hF⟩ : ∃ fs, TreeG w v t fs := by obtain ⟨sv, fs, h⟩ := hT; exact ⟨fs, sv, h⟩
 have HTF : Hid (TreeG w v t fs) := hF
 obtain ⟨ao, cap, rfl, q1, q2, q3, q4, q5⟩ := hF.opened
 obtain ⟨dv, rfl, ho1, ho2, ho3, ho4⟩ := ho
 obtain ⟨b, off, rfl, hb, hc⟩ := q5 hg.e.root0.1
 have hl := fs_len q3
 have lm : (t.nodes.length : Int) ≤ 60 := by have := hg.e.size; omega
 obtain ⟨do', dc, hdv, hdx⟩ := ho1
 obtain ⟨dn, hdn⟩ : ∃ n, (intsV .u8 o.data).length = n := ⟨_, rfl⟩
 rw [hdn] at hdv
 subst hdv
 have HG : Hid (Good t ∧ fs.map FN.n = t.nodes ∧ (∀ f ∈ fs, f.is w) ∧ b < w.heap.size ∧ ∀ k (hk : k < fs.length), At5 w b (off + k * 5) fs[k]) := ⟨hg, q3, q4, hb, hc⟩
 have HH : Hid (∀ W, Below w.heap.size w W → Calls Tryz.prog 83 #[.agg #[.slice (some ⟨b, off, none⟩) t.nodes.length cap, .int .i64 t.next], .string o.path] W fun e w' => e = .returned (resH (homeB t o.path)) ∧ Below W.heap.size W w') := fun W hb => home_any _ t o.path W (HT.out.below hb) hg ho2
 have HO : Hid (OpAt w (.agg #[.int .i64 o.kind, .string o.path, .string o.to, .int .i64 o.off, .int .i64 o.n, .slice do' dn dc, .int .i64 o.snap]) o) := ⟨_, rfl, ⟨do', dc, by rw [hdn], hdx⟩, ho2, ho3, ho4⟩
 have HO5 : Hid (bytesIn o.data) := ho4
 clear q1 q2 q3 q4 q5 hT hF hb hc hg ho2 ho3 ho4 hdn
 unfold opV
 obtain ⟨w0, hw0⟩ : ∃ w0, w0 = ((((w.alloc (.cells #[.slice (some ⟨b, off, none⟩) t.nodes.length cap, .int .i64 t.next] 29)).alloc (.cells #[.int .i64 o.kind, .string o.path, .string o.to, .int .i64 o.off, .int .i64 o.n, .slice do' dn dc, .int .i64 o.snap] 35)).alloc (.cells #[.slice none 0 0, .int .i64 0] 29)).alloc (.cells #[.int .i64 0, .int .i64 0, .int .i64 0, .int .i64 0, .int .i64 0, .slice none 0 0, .slice none 0 0, .slice none 0 0] 40)) := ⟨_, rfl⟩
 have HB0 : Hid (Bx w w0 (.slice (some ⟨b, off, none⟩) t.nodes.length cap) (.int .i64 t.next) o (.slice do' dn dc)) := by rw [hw0]; exact bx_new w _ _ _ o
 have HGd : Hid (Good (doB t o).1 ∧ (doB t o).2.1.snaps = [] ∧ (o.kind ≠ 1 → o.kind ≠ 2 → (doB t o).1.next = t.next)) := ⟨do_good HG.out.1 o HO5.out, do_snaps HG.out.1 o, next_same t o⟩
 have HE0 : Hid (∀ (X : World) (tv rv : Value) (T : TreeB) (R : ReplyB) (ta : Option Addr) (tn tc : Nat) (ra na sa : Option Addr) (rc q5 q6 q7 nc sc : Nat), tv = .agg #[.slice ta tn tc, .int .i64 T.next] → rv = .agg #[.int .i64 R.ino, .int .i64 R.kind, .int .i64 R.size, .int .i64 R.links, .int .i64 R.n, .slice ra q5 rc, .slice na q6 nc, .slice sa q7 sc] → TreeN w.heap.size X t.next tv T → ReplyAt X rv R → Good T → R.snaps = [] → Bx w X (.slice (some ⟨b, off, none⟩) t.nodes.length cap) (.int .i64 t.next) o (.slice do' dn dc) → (TreeN w.heap.size (outW X w.heap.size (.slice ta tn tc) (.int .i64 T.next) (.int .i64 R.ino) (.int .i64 R.kind) (.int .i64 R.size) (.int .i64 R.links) (.int .i64 R.n) (.slice ra q5 rc) (.slice na q6 nc) (.slice sa q7 sc)) t.next tv T ∧ ReplyAt (outW X w.heap.size (.slice ta tn tc) (.int .i64 T.next) (.int .i64 R.ino) (.int .i64 R.kind) (.int .i64 R.size) (.int .i64 R.links) (.int .i64 R.n) (.slice ra q5 rc) (.slice na q6 nc) (.slice sa q7 sc)) rv R ∧ Below w.heap.size w (outW X w.heap.size (.slice ta tn tc) (.int .i64 T.next) (.int .i64 R.ino) (.int .i64 R.kind) (.int .i64 R.size) (.int .i64 R.links) (.int .i64 R.n) (.slice ra q5 rc) (.slice na q6 nc) (.slice sa q7 sc)))) := fun X tv rv T R ta tn tc ra na sa rc q5 q6 q7 nc sc _ _ h1 h2 h3 h4 h5 => ⟨TreeN.outW _ _ _ _ _ _ _ _ _ _ h5 h1 h3, ReplyAt.outW _ _ _ _ _ _ _ _ _ _ h5 h2 h4, out_below _ _ _ _ _ _ _ _ _ _ h5.2.2.2.2⟩
 rcases hk with hk | hk | hk | hk | hk | hk | hk | hk | hk
 · have e1 : (o.kind == 1) = true := by rw [hk]; rfl
   have HE : Hid (doB t o = makesB t o) := by show _ = _; simp [doB, hk]
   have HC : Hid (Calls Tryz.prog 48 #[.agg #[.slice (some ⟨b, off, none⟩) t.nodes.length cap, .int .i64 t.next], .agg #[.int .i64 o.kind, .string o.path, .string o.to, .int .i64 o.off, .int .i64 o.n, .slice do' dn dc, .int .i64 o.snap]] w0 _) := makes_any _ _ t o w0 (HT.out.below HB0.out.2.2.2.2) HG.out.1 (HO.out.below HB0.out.2.2.2.2)
   rw [← HE.out] at HC
   obtain ⟨T, hT⟩ : ∃ z, (doB t o).1 = z := ⟨_, rfl⟩
   obtain ⟨R, hR⟩ : ∃ z, (doB t o).2.1 = z := ⟨_, rfl⟩
   obtain ⟨c, hc⟩ : ∃ z, (doB t o).2.2 = z := ⟨_, rfl⟩
   rw [hT, hR, hc] at HC ⊢
   rw [hT, hR] at HGd
   clear hT hR hc HE hk HH
   go_enter Tryz.func30, Tryz.ntmps30
   go_wp2_with fail
   go_at_call 48
   rw [← hw0]
   refine HC.out.mono ?_
   rintro e w1 ⟨tv, rv, rfl, hT1, hR1, hb1⟩
   have HB1 : Hid (Bx w w1 (.slice (some ⟨b, off, none⟩) t.nodes.length cap) (.int .i64 t.next) o (.slice do' dn dc)) := HB0.out.below hb1
   obtain ⟨ta, tn, tc, htv⟩ := tree_form hT1.at
   subst htv
   obtain ⟨ra, rc, na, nc, sa, sc, hrv, _⟩ := reply_form8 hR1
   subst hrv
   obtain ⟨q5, hq5⟩ : ∃ z, R.data.length = z := ⟨_, rfl⟩
   obtain ⟨q6, hq6⟩ : ∃ z, R.names.length = z := ⟨_, rfl⟩
   obtain ⟨q7, hq7⟩ : ∃ z, R.snaps.length = z := ⟨_, rfl⟩
   rw [hq5, hq6, hq7] at hR1 ⊢
   have HEn : Hid (_ ∧ _ ∧ _) := HE0.out w1 _ _ T R ta tn tc ra na sa rc q5 q6 q7 nc sc rfl rfl (hT1.mono HB0.out.2.2.2.2.size) hR1 HGd.out.1 HGd.out.2.1 HB1.out
   clear hT1 hR1 hb1 hq5 hq6 hq7 HC hw0 HB0 HO HT HTF HE0
   obtain ⟨r0, r1⟩ := HB1.out.2.2.1.c
   have z0 := HB1.out.2.2.1.fz 0
   have z1 := HB1.out.2.2.1.fz 1
   obtain ⟨s0, s1, s2, s3, s4, s5, s6, s7, sz⟩ := HB1.out.re
   go_wp2
   refine bodyPost_ret (v := .tuple #[.agg #[.slice ta tn tc, .int .i64 T.next], .agg #[.int .i64 R.ino, .int .i64 R.kind, .int .i64 R.size, .int .i64 R.links, .int .i64 R.n, .slice ra q5 rc, .slice na q6 nc, .slice sa q7 sc], .int .i64 c]) (by simp [results, Tryz.results30, go_sem, *]) rfl ?_
   unfold outW at HEn
   exact ⟨_, _, rfl, HEn.out.1, HEn.out.2.1, HEn.out.2.2⟩
 · have e1 : (o.kind == 1) = false := by rw [hk]; rfl
   have e2 : (o.kind == 2) = true := by rw [hk]; rfl
   have HE : Hid (doB t o = makesB t o) := by show _ = _; simp [doB, hk]
   have HC : Hid (Calls Tryz.prog 48 #[.agg #[.slice (some ⟨b, off, none⟩) t.nodes.length cap, .int .i64 t.next], .agg #[.int .i64 o.kind, .string o.path, .string o.to, .int .i64 o.off, .int .i64 o.n, .slice do' dn dc, .int .i64 o.snap]] w0 _) := makes_any _ _ t o w0 (HT.out.below HB0.out.2.2.2.2) HG.out.1 (HO.out.below HB0.out.2.2.2.2)
   rw [← HE.out] at HC
   obtain ⟨T, hT⟩ : ∃ z, (doB t o).1 = z := ⟨_, rfl⟩
   obtain ⟨R, hR⟩ : ∃ z, (doB t o).2.1 = z := ⟨_, rfl⟩
   obtain ⟨c, hc⟩ : ∃ z, (doB t o).2.2 = z := ⟨_, rfl⟩
   rw [hT, hR, hc] at HC ⊢
   rw [hT, hR] at HGd
   clear hT hR hc HE hk HH
   go_enter Tryz.func30, Tryz.ntmps30
   go_wp2_with fail
   go_at_call 48
   rw [← hw0]
   refine HC.out.mono ?_
   rintro e w1 ⟨tv, rv, rfl, hT1, hR1, hb1⟩
   have HB1 : Hid (Bx w w1 (.slice (some ⟨b, off, none⟩) t.nodes.length cap) (.int .i64 t.next) o (.slice do' dn dc)) := HB0.out.below hb1
   obtain ⟨ta, tn, tc, htv⟩ := tree_form hT1.at
   subst htv
   obtain ⟨ra, rc, na, nc, sa, sc, hrv, _⟩ := reply_form8 hR1
   subst hrv
   obtain ⟨q5, hq5⟩ : ∃ z, R.data.length = z := ⟨_, rfl⟩
   obtain ⟨q6, hq6⟩ : ∃ z, R.names.length = z := ⟨_, rfl⟩
   obtain ⟨q7, hq7⟩ : ∃ z, R.snaps.length = z := ⟨_, rfl⟩
   rw [hq5, hq6, hq7] at hR1 ⊢
   have HEn : Hid (_ ∧ _ ∧ _) := HE0.out w1 _ _ T R ta tn tc ra na sa rc q5 q6 q7 nc sc rfl rfl (hT1.mono HB0.out.2.2.2.2.size) hR1 HGd.out.1 HGd.out.2.1 HB1.out
   clear hT1 hR1 hb1 hq5 hq6 hq7 HC hw0 HB0 HO HT HTF HE0
   obtain ⟨r0, r1⟩ := HB1.out.2.2.1.c
   have z0 := HB1.out.2.2.1.fz 0
   have z1 := HB1.out.2.2.1.fz 1
   obtain ⟨s0, s1, s2, s3, s4, s5, s6, s7, sz⟩ := HB1.out.re
   go_wp2
   refine bodyPost_ret (v := .tuple #[.agg #[.slice ta tn tc, .int .i64 T.next], .agg #[.int .i64 R.ino, .int .i64 R.kind, .int .i64 R.size, .int .i64 R.links, .int .i64 R.n, .slice ra q5 rc, .slice na q6 nc, .slice sa q7 sc], .int .i64 c]) (by simp [results, Tryz.results30, go_sem, *]) rfl ?_
   unfold outW at HEn
   exact ⟨_, _, rfl, HEn.out.1, HEn.out.2.1, HEn.out.2.2⟩
 · have e1 : (o.kind == 1) = false := by rw [hk]; rfl
   have e2 : (o.kind == 2) = false := by rw [hk]; rfl
   have e3 : (o.kind == 3) = true := by rw [hk]; rfl
   have HE : Hid (doB t o = removesB t o) := by show _ = _; simp [doB, hk]
   have HC : Hid (Calls Tryz.prog 49 #[.agg #[.slice (some ⟨b, off, none⟩) t.nodes.length cap, .int .i64 t.next], .agg #[.int .i64 o.kind, .string o.path, .string o.to, .int .i64 o.off, .int .i64 o.n, .slice do' dn dc, .int .i64 o.snap]] w0 _) := removes_any _ _ t o w0 (HT.out.below HB0.out.2.2.2.2) HG.out.1 (HO.out.below HB0.out.2.2.2.2) (.inl hk)
   have HN : Hid ((doB t o).1.next = t.next) := HGd.out.2.2 (by omega) (by omega)
   rw [← HE.out] at HC
   obtain ⟨T, hT⟩ : ∃ z, (doB t o).1 = z := ⟨_, rfl⟩
   obtain ⟨R, hR⟩ : ∃ z, (doB t o).2.1 = z := ⟨_, rfl⟩
   obtain ⟨c, hc⟩ : ∃ z, (doB t o).2.2 = z := ⟨_, rfl⟩
   rw [hT, hR, hc] at HC ⊢
   rw [hT, hR] at HGd
   rw [hT] at HN
   clear hT hR hc HE hk HH
   go_enter Tryz.func30, Tryz.ntmps30
   go_wp2_with fail
   go_at_call 49
   rw [← hw0]
   refine HC.out.mono ?_
   rintro e w1 ⟨tv, rv, rfl, hT1, hR1, hb1⟩
   have HB1 : Hid (Bx w w1 (.slice (some ⟨b, off, none⟩) t.nodes.length cap) (.int .i64 t.next) o (.slice do' dn dc)) := HB0.out.below hb1
   obtain ⟨ta, tn, tc, htv⟩ := tree_form hT1
   subst htv
   obtain ⟨ra, rc, na, nc, sa, sc, hrv, _⟩ := reply_form8 hR1
   subst hrv
   obtain ⟨q5, hq5⟩ : ∃ z, R.data.length = z := ⟨_, rfl⟩
   obtain ⟨q6, hq6⟩ : ∃ z, R.names.length = z := ⟨_, rfl⟩
   obtain ⟨q7, hq7⟩ : ∃ z, R.snaps.length = z := ⟨_, rfl⟩
   rw [hq5, hq6, hq7] at hR1 ⊢
   have HEn : Hid (_ ∧ _ ∧ _) := HE0.out w1 _ _ T R ta tn tc ra na sa rc q5 q6 q7 nc sc rfl rfl (treeN_old hT1 HGd.out.1 HN.out) hR1 HGd.out.1 HGd.out.2.1 HB1.out
   clear hT1 hR1 hb1 hq5 hq6 hq7 HC hw0 HB0 HO HT HTF HE0
   obtain ⟨r0, r1⟩ := HB1.out.2.2.1.c
   have z0 := HB1.out.2.2.1.fz 0
   have z1 := HB1.out.2.2.1.fz 1
   obtain ⟨s0, s1, s2, s3, s4, s5, s6, s7, sz⟩ := HB1.out.re
   go_wp2
   refine bodyPost_ret (v := .tuple #[.agg #[.slice ta tn tc, .int .i64 T.next], .agg #[.int .i64 R.ino, .int .i64 R.kind, .int .i64 R.size, .int .i64 R.links, .int .i64 R.n, .slice ra q5 rc, .slice na q6 nc, .slice sa q7 sc], .int .i64 c]) (by simp [results, Tryz.results30, go_sem, *]) rfl ?_
   unfold outW at HEn
   exact ⟨_, _, rfl, HEn.out.1, HEn.out.2.1, HEn.out.2.2⟩
 · have e1 : (o.kind == 1) = false := by rw [hk]; rfl
   have e2 : (o.kind == 2) = false := by rw [hk]; rfl
   have e3 : (o.kind == 3) = false := by rw [hk]; rfl
   have e4 : (o.kind == 4) = true := by rw [hk]; rfl
   have HE : Hid (doB t o = removesB t o) := by show _ = _; simp [doB, hk]
   have HC : Hid (Calls Tryz.prog 49 #[.agg #[.slice (some ⟨b, off, none⟩) t.nodes.length cap, .int .i64 t.next], .agg #[.int .i64 o.kind, .string o.path, .string o.to, .int .i64 o.off, .int .i64 o.n, .slice do' dn dc, .int .i64 o.snap]] w0 _) := removes_any _ _ t o w0 (HT.out.below HB0.out.2.2.2.2) HG.out.1 (HO.out.below HB0.out.2.2.2.2) (.inr hk)
   have HN : Hid ((doB t o).1.next = t.next) := HGd.out.2.2 (by omega) (by omega)
   rw [← HE.out] at HC
   obtain ⟨T, hT⟩ : ∃ z, (doB t o).1 = z := ⟨_, rfl⟩
   obtain ⟨R, hR⟩ : ∃ z, (doB t o).2.1 = z := ⟨_, rfl⟩
   obtain ⟨c, hc⟩ : ∃ z, (doB t o).2.2 = z := ⟨_, rfl⟩
   rw [hT, hR, hc] at HC ⊢
   rw [hT, hR] at HGd
   rw [hT] at HN
   clear hT hR hc HE hk HH
   go_enter Tryz.func30, Tryz.ntmps30
   go_wp2_with fail
   go_at_call 49
   rw [← hw0]
   refine HC.out.mono ?_
   rintro e w1 ⟨tv, rv, rfl, hT1, hR1, hb1⟩
   have HB1 : Hid (Bx w w1 (.slice (some ⟨b, off, none⟩) t.nodes.length cap) (.int .i64 t.next) o (.slice do' dn dc)) := HB0.out.below hb1
   obtain ⟨ta, tn, tc, htv⟩ := tree_form hT1
   subst htv
   obtain ⟨ra, rc, na, nc, sa, sc, hrv, _⟩ := reply_form8 hR1
   subst hrv
   obtain ⟨q5, hq5⟩ : ∃ z, R.data.length = z := ⟨_, rfl⟩
   obtain ⟨q6, hq6⟩ : ∃ z, R.names.length = z := ⟨_, rfl⟩
   obtain ⟨q7, hq7⟩ : ∃ z, R.snaps.length = z := ⟨_, rfl⟩
   rw [hq5, hq6, hq7] at hR1 ⊢
   have HEn : Hid (_ ∧ _ ∧ _) := HE0.out w1 _ _ T R ta tn tc ra na sa rc q5 q6 q7 nc sc rfl rfl (treeN_old hT1 HGd.out.1 HN.out) hR1 HGd.out.1 HGd.out.2.1 HB1.out
   clear hT1 hR1 hb1 hq5 hq6 hq7 HC hw0 HB0 HO HT HTF HE0
   obtain ⟨r0, r1⟩ := HB1.out.2.2.1.c
   have z0 := HB1.out.2.2.1.fz 0
   have z1 := HB1.out.2.2.1.fz 1
   obtain ⟨s0, s1, s2, s3, s4, s5, s6, s7, sz⟩ := HB1.out.re
   go_wp2
   refine bodyPost_ret (v := .tuple #[.agg #[.slice ta tn tc, .int .i64 T.next], .agg #[.int .i64 R.ino, .int .i64 R.kind, .int .i64 R.size, .int .i64 R.links, .int .i64 R.n, .slice ra q5 rc, .slice na q6 nc, .slice sa q7 sc], .int .i64 c]) (by simp [results, Tryz.results30, go_sem, *]) rfl ?_
   unfold outW at HEn
   exact ⟨_, _, rfl, HEn.out.1, HEn.out.2.1, HEn.out.2.2⟩
 · have e1 : (o.kind == 1) = false := by rw [hk]; rfl
   have e2 : (o.kind == 2) = false := by rw [hk]; rfl
   have e3 : (o.kind == 3) = false := by rw [hk]; rfl
   have e4 : (o.kind == 4) = false := by rw [hk]; rfl
   have e5 : (o.kind == 5) = true := by rw [hk]; rfl
   have HE : Hid (doB t o = renameB t o) := by show _ = _; simp [doB, hk]
   have HC : Hid (Calls Tryz.prog 50 #[.agg #[.slice (some ⟨b, off, none⟩) t.nodes.length cap, .int .i64 t.next], .agg #[.int .i64 o.kind, .string o.path, .string o.to, .int .i64 o.off, .int .i64 o.n, .slice do' dn dc, .int .i64 o.snap]] w0 _) := rename_any5 _ _ t o w0 (HT.out.below HB0.out.2.2.2.2) HG.out.1 (HO.out.below HB0.out.2.2.2.2)
   have HN : Hid ((doB t o).1.next = t.next) := HGd.out.2.2 (by omega) (by omega)
   rw [← HE.out] at HC
   obtain ⟨T, hT⟩ : ∃ z, (doB t o).1 = z := ⟨_, rfl⟩
   obtain ⟨R, hR⟩ : ∃ z, (doB t o).2.1 = z := ⟨_, rfl⟩
   obtain ⟨c, hc⟩ : ∃ z, (doB t o).2.2 = z := ⟨_, rfl⟩
   rw [hT, hR, hc] at HC ⊢
   rw [hT, hR] at HGd
   rw [hT] at HN
   clear hT hR hc HE hk HH
   go_enter Tryz.func30, Tryz.ntmps30
   go_wp2_with fail
   go_at_call 50
   rw [← hw0]
   refine HC.out.mono ?_
   rintro e w1 ⟨tv, rv, rfl, hT1, hR1, hb1⟩
   have HB1 : Hid (Bx w w1 (.slice (some ⟨b, off, none⟩) t.nodes.length cap) (.int .i64 t.next) o (.slice do' dn dc)) := HB0.out.below hb1
   obtain ⟨ta, tn, tc, htv⟩ := tree_form hT1
   subst htv
   obtain ⟨ra, rc, na, nc, sa, sc, hrv, _⟩ := reply_form8 hR1
   subst hrv
   obtain ⟨q5, hq5⟩ : ∃ z, R.data.length = z := ⟨_, rfl⟩
   obtain ⟨q6, hq6⟩ : ∃ z, R.names.length = z := ⟨_, rfl⟩
   obtain ⟨q7, hq7⟩ : ∃ z, R.snaps.length = z := ⟨_, rfl⟩
   rw [hq5, hq6, hq7] at hR1 ⊢
   have HEn : Hid (_ ∧ _ ∧ _) := HE0.out w1 _ _ T R ta tn tc ra na sa rc q5 q6 q7 nc sc rfl rfl (treeN_old hT1 HGd.out.1 HN.out) hR1 HGd.out.1 HGd.out.2.1 HB1.out
   clear hT1 hR1 hb1 hq5 hq6 hq7 HC hw0 HB0 HO HT HTF HE0
   obtain ⟨r0, r1⟩ := HB1.out.2.2.1.c
   have z0 := HB1.out.2.2.1.fz 0
   have z1 := HB1.out.2.2.1.fz 1
   obtain ⟨s0, s1, s2, s3, s4, s5, s6, s7, sz⟩ := HB1.out.re
   go_wp2
   refine bodyPost_ret (v := .tuple #[.agg #[.slice ta tn tc, .int .i64 T.next], .agg #[.int .i64 R.ino, .int .i64 R.kind, .int .i64 R.size, .int .i64 R.links, .int .i64 R.n, .slice ra q5 rc, .slice na q6 nc, .slice sa q7 sc], .int .i64 c]) (by simp [results, Tryz.results30, go_sem, *]) rfl ?_
   unfold outW at HEn
   exact ⟨_, _, rfl, HEn.out.1, HEn.out.2.1, HEn.out.2.2⟩
 · have e1 : (o.kind == 1) = false := by rw [hk]; rfl
   have e2 : (o.kind == 2) = false := by rw [hk]; rfl
   have e3 : (o.kind == 3) = false := by rw [hk]; rfl
   have e4 : (o.kind == 4) = false := by rw [hk]; rfl
   have e5 : (o.kind == 5) = false := by rw [hk]; rfl
   have e6 : (o.kind == 6) = true := by rw [hk]; rfl
   have HE : Hid (doB t o = linkB t o) := by show _ = _; simp [doB, hk]
   have HC : Hid (Calls Tryz.prog 51 #[.agg #[.slice (some ⟨b, off, none⟩) t.nodes.length cap, .int .i64 t.next], .agg #[.int .i64 o.kind, .string o.path, .string o.to, .int .i64 o.off, .int .i64 o.n, .slice do' dn dc, .int .i64 o.snap]] w0 _) := link_any5 _ _ t o w0 (HT.out.below HB0.out.2.2.2.2) HG.out.1 (HO.out.below HB0.out.2.2.2.2)
   have HN : Hid ((doB t o).1.next = t.next) := HGd.out.2.2 (by omega) (by omega)
   rw [← HE.out] at HC
   obtain ⟨T, hT⟩ : ∃ z, (doB t o).1 = z := ⟨_, rfl⟩
   obtain ⟨R, hR⟩ : ∃ z, (doB t o).2.1 = z := ⟨_, rfl⟩
   obtain ⟨c, hc⟩ : ∃ z, (doB t o).2.2 = z := ⟨_, rfl⟩
   rw [hT, hR, hc] at HC ⊢
   rw [hT, hR] at HGd
   rw [hT] at HN
   clear hT hR hc HE hk HH
   go_enter Tryz.func30, Tryz.ntmps30
   go_wp2_with fail
   go_at_call 51
   rw [← hw0]
   refine HC.out.mono ?_
   rintro e w1 ⟨tv, rv, rfl, hT1, hR1, hb1⟩
   have HB1 : Hid (Bx w w1 (.slice (some ⟨b, off, none⟩) t.nodes.length cap) (.int .i64 t.next) o (.slice do' dn dc)) := HB0.out.below hb1
   obtain ⟨ta, tn, tc, htv⟩ := tree_form hT1
   subst htv
   obtain ⟨ra, rc, na, nc, sa, sc, hrv, _⟩ := reply_form8 hR1
   subst hrv
   obtain ⟨q5, hq5⟩ : ∃ z, R.data.length = z := ⟨_, rfl⟩
   obtain ⟨q6, hq6⟩ : ∃ z, R.names.length = z := ⟨_, rfl⟩
   obtain ⟨q7, hq7⟩ : ∃ z, R.snaps.length = z := ⟨_, rfl⟩
   rw [hq5, hq6, hq7] at hR1 ⊢
   have HEn : Hid (_ ∧ _ ∧ _) := HE0.out w1 _ _ T R ta tn tc ra na sa rc q5 q6 q7 nc sc rfl rfl (treeN_old hT1 HGd.out.1 HN.out) hR1 HGd.out.1 HGd.out.2.1 HB1.out
   clear hT1 hR1 hb1 hq5 hq6 hq7 HC hw0 HB0 HO HT HTF HE0
   obtain ⟨r0, r1⟩ := HB1.out.2.2.1.c
   have z0 := HB1.out.2.2.1.fz 0
   have z1 := HB1.out.2.2.1.fz 1
   obtain ⟨s0, s1, s2, s3, s4, s5, s6, s7, sz⟩ := HB1.out.re
   go_wp2
   refine bodyPost_ret (v := .tuple #[.agg #[.slice ta tn tc, .int .i64 T.next], .agg #[.int .i64 R.ino, .int .i64 R.kind, .int .i64 R.size, .int .i64 R.links, .int .i64 R.n, .slice ra q5 rc, .slice na q6 nc, .slice sa q7 sc], .int .i64 c]) (by simp [results, Tryz.results30, go_sem, *]) rfl ?_
   unfold outW at HEn
   exact ⟨_, _, rfl, HEn.out.1, HEn.out.2.1, HEn.out.2.2⟩
 · have e1 : (o.kind == 1) = false := by rw [hk]; rfl
   have e2 : (o.kind == 2) = false := by rw [hk]; rfl
   have e3 : (o.kind == 3) = false := by rw [hk]; rfl
   have e4 : (o.kind == 4) = false := by rw [hk]; rfl
   have e5 : (o.kind == 5) = false := by rw [hk]; rfl
   have e6 : (o.kind == 6) = false := by rw [hk]; rfl
   have e7 : (o.kind == 7) = true := by rw [hk]; rfl
   have HE : Hid (doB t o = fileB t o) := by show _ = _; simp [doB, hk]
   have HC : Hid (Calls Tryz.prog 52 #[.agg #[.slice (some ⟨b, off, none⟩) t.nodes.length cap, .int .i64 t.next], .agg #[.int .i64 o.kind, .string o.path, .string o.to, .int .i64 o.off, .int .i64 o.n, .slice do' dn dc, .int .i64 o.snap]] w0 _) := file_any5 _ _ t o w0 (HT.out.below HB0.out.2.2.2.2) HG.out.1 (HO.out.below HB0.out.2.2.2.2) (.inl hk)
   have HN : Hid ((doB t o).1.next = t.next) := HGd.out.2.2 (by omega) (by omega)
   rw [← HE.out] at HC
   obtain ⟨T, hT⟩ : ∃ z, (doB t o).1 = z := ⟨_, rfl⟩
   obtain ⟨R, hR⟩ : ∃ z, (doB t o).2.1 = z := ⟨_, rfl⟩
   obtain ⟨c, hc⟩ : ∃ z, (doB t o).2.2 = z := ⟨_, rfl⟩
   rw [hT, hR, hc] at HC ⊢
   rw [hT, hR] at HGd
   rw [hT] at HN
   clear hT hR hc HE hk HH
   go_enter Tryz.func30, Tryz.ntmps30
   go_wp2_with fail
   go_at_call 52
   rw [← hw0]
   refine HC.out.mono ?_
   rintro e w1 ⟨tv, rv, rfl, hT1, hR1, hb1⟩
   have HB1 : Hid (Bx w w1 (.slice (some ⟨b, off, none⟩) t.nodes.length cap) (.int .i64 t.next) o (.slice do' dn dc)) := HB0.out.below hb1
   obtain ⟨ta, tn, tc, htv⟩ := tree_form hT1
   subst htv
   obtain ⟨ra, rc, na, nc, sa, sc, hrv, _⟩ := reply_form8 hR1
   subst hrv
   obtain ⟨q5, hq5⟩ : ∃ z, R.data.length = z := ⟨_, rfl⟩
   obtain ⟨q6, hq6⟩ : ∃ z, R.names.length = z := ⟨_, rfl⟩
   obtain ⟨q7, hq7⟩ : ∃ z, R.snaps.length = z := ⟨_, rfl⟩
   rw [hq5, hq6, hq7] at hR1 ⊢
   have HEn : Hid (_ ∧ _ ∧ _) := HE0.out w1 _ _ T R ta tn tc ra na sa rc q5 q6 q7 nc sc rfl rfl (treeN_old hT1 HGd.out.1 HN.out) hR1 HGd.out.1 HGd.out.2.1 HB1.out
   clear hT1 hR1 hb1 hq5 hq6 hq7 HC hw0 HB0 HO HT HTF HE0
   obtain ⟨r0, r1⟩ := HB1.out.2.2.1.c
   have z0 := HB1.out.2.2.1.fz 0
   have z1 := HB1.out.2.2.1.fz 1
   obtain ⟨s0, s1, s2, s3, s4, s5, s6, s7, sz⟩ := HB1.out.re
   go_wp2
   refine bodyPost_ret (v := .tuple #[.agg #[.slice ta tn tc, .int .i64 T.next], .agg #[.int .i64 R.ino, .int .i64 R.kind, .int .i64 R.size, .int .i64 R.links, .int .i64 R.n, .slice ra q5 rc, .slice na q6 nc, .slice sa q7 sc], .int .i64 c]) (by simp [results, Tryz.results30, go_sem, *]) rfl ?_
   unfold outW at HEn
   exact ⟨_, _, rfl, HEn.out.1, HEn.out.2.1, HEn.out.2.2⟩
 · have e1 : (o.kind == 1) = false := by rw [hk]; rfl
   have e2 : (o.kind == 2) = false := by rw [hk]; rfl
   have e3 : (o.kind == 3) = false := by rw [hk]; rfl
   have e4 : (o.kind == 4) = false := by rw [hk]; rfl
   have e5 : (o.kind == 5) = false := by rw [hk]; rfl
   have e6 : (o.kind == 6) = false := by rw [hk]; rfl
   have e7 : (o.kind == 7) = false := by rw [hk]; rfl
   have e8 : (o.kind == 8) = true := by rw [hk]; rfl
   have HE : Hid (doB t o = fileB t o) := by show _ = _; simp [doB, hk]
   have HC : Hid (Calls Tryz.prog 52 #[.agg #[.slice (some ⟨b, off, none⟩) t.nodes.length cap, .int .i64 t.next], .agg #[.int .i64 o.kind, .string o.path, .string o.to, .int .i64 o.off, .int .i64 o.n, .slice do' dn dc, .int .i64 o.snap]] w0 _) := file_any5 _ _ t o w0 (HT.out.below HB0.out.2.2.2.2) HG.out.1 (HO.out.below HB0.out.2.2.2.2) (.inr (.inl hk))
   have HN : Hid ((doB t o).1.next = t.next) := HGd.out.2.2 (by omega) (by omega)
   rw [← HE.out] at HC
   obtain ⟨T, hT⟩ : ∃ z, (doB t o).1 = z := ⟨_, rfl⟩
   obtain ⟨R, hR⟩ : ∃ z, (doB t o).2.1 = z := ⟨_, rfl⟩
   obtain ⟨c, hc⟩ : ∃ z, (doB t o).2.2 = z := ⟨_, rfl⟩
   rw [hT, hR, hc] at HC ⊢
   rw [hT, hR] at HGd
   rw [hT] at HN
   clear hT hR hc HE hk HH
   go_enter Tryz.func30, Tryz.ntmps30
   go_wp2_with fail
   go_at_call 52
   rw [← hw0]
   refine HC.out.mono ?_
   rintro e w1 ⟨tv, rv, rfl, hT1, hR1, hb1⟩
   have HB1 : Hid (Bx w w1 (.slice (some ⟨b, off, none⟩) t.nodes.length cap) (.int .i64 t.next) o (.slice do' dn dc)) := HB0.out.below hb1
   obtain ⟨ta, tn, tc, htv⟩ := tree_form hT1
   subst htv
   obtain ⟨ra, rc, na, nc, sa, sc, hrv, _⟩ := reply_form8 hR1
   subst hrv
   obtain ⟨q5, hq5⟩ : ∃ z, R.data.length = z := ⟨_, rfl⟩
   obtain ⟨q6, hq6⟩ : ∃ z, R.names.length = z := ⟨_, rfl⟩
   obtain ⟨q7, hq7⟩ : ∃ z, R.snaps.length = z := ⟨_, rfl⟩
   rw [hq5, hq6, hq7] at hR1 ⊢
   have HEn : Hid (_ ∧ _ ∧ _) := HE0.out w1 _ _ T R ta tn tc ra na sa rc q5 q6 q7 nc sc rfl rfl (treeN_old hT1 HGd.out.1 HN.out) hR1 HGd.out.1 HGd.out.2.1 HB1.out
   clear hT1 hR1 hb1 hq5 hq6 hq7 HC hw0 HB0 HO HT HTF HE0
   obtain ⟨r0, r1⟩ := HB1.out.2.2.1.c
   have z0 := HB1.out.2.2.1.fz 0
   have z1 := HB1.out.2.2.1.fz 1
   obtain ⟨s0, s1, s2, s3, s4, s5, s6, s7, sz⟩ := HB1.out.re
   go_wp2
   refine bodyPost_ret (v := .tuple #[.agg #[.slice ta tn tc, .int .i64 T.next], .agg #[.int .i64 R.ino, .int .i64 R.kind, .int .i64 R.size, .int .i64 R.links, .int .i64 R.n, .slice ra q5 rc, .slice na q6 nc, .slice sa q7 sc], .int .i64 c]) (by simp [results, Tryz.results30, go_sem, *]) rfl ?_
   unfold outW at HEn
   exact ⟨_, _, rfl, HEn.out.1, HEn.out.2.1, HEn.out.2.2⟩
 · have e1 : (o.kind == 1) = false := by rw [hk]; rfl
   have e2 : (o.kind == 2) = false := by rw [hk]; rfl
   have e3 : (o.kind == 3) = false := by rw [hk]; rfl
   have e4 : (o.kind == 4) = false := by rw [hk]; rfl
   have e5 : (o.kind == 5) = false := by rw [hk]; rfl
   have e6 : (o.kind == 6) = false := by rw [hk]; rfl
   have e7 : (o.kind == 7) = false := by rw [hk]; rfl
   have e8 : (o.kind == 8) = false := by rw [hk]; rfl
   have e9 : (o.kind == 9) = true := by rw [hk]; rfl
   have HE : Hid (doB t o = fileB t o) := by show _ = _; simp [doB, hk]
   have HC : Hid (Calls Tryz.prog 52 #[.agg #[.slice (some ⟨b, off, none⟩) t.nodes.length cap, .int .i64 t.next], .agg #[.int .i64 o.kind, .string o.path, .string o.to, .int .i64 o.off, .int .i64 o.n, .slice do' dn dc, .int .i64 o.snap]] w0 _) := file_any5 _ _ t o w0 (HT.out.below HB0.out.2.2.2.2) HG.out.1 (HO.out.below HB0.out.2.2.2.2) (.inr (.inr hk))
   have HN : Hid ((doB t o).1.next = t.next) := HGd.out.2.2 (by omega) (by omega)
   rw [← HE.out] at HC
   obtain ⟨T, hT⟩ : ∃ z, (doB t o).1 = z := ⟨_, rfl⟩
   obtain ⟨R, hR⟩ : ∃ z, (doB t o).2.1 = z := ⟨_, rfl⟩
   obtain ⟨c, hc⟩ : ∃ z, (doB t o).2.2 = z := ⟨_, rfl⟩
   rw [hT, hR, hc] at HC ⊢
   rw [hT, hR] at HGd
   rw [hT] at HN
   clear hT hR hc HE hk HH
   go_enter Tryz.func30, Tryz.ntmps30
   go_wp2_with fail
   go_at_call 52
   rw [← hw0]
   refine HC.out.mono ?_
   rintro e w1 ⟨tv, rv, rfl, hT1, hR1, hb1⟩
   have HB1 : Hid (Bx w w1 (.slice (some ⟨b, off, none⟩) t.nodes.length cap) (.int .i64 t.next) o (.slice do' dn dc)) := HB0.out.below hb1
   obtain ⟨ta, tn, tc, htv⟩ := tree_form hT1
   subst htv
   obtain ⟨ra, rc, na, nc, sa, sc, hrv, _⟩ := reply_form8 hR1
   subst hrv
   obtain ⟨q5, hq5⟩ : ∃ z, R.data.length = z := ⟨_, rfl⟩
   obtain ⟨q6, hq6⟩ : ∃ z, R.names.length = z := ⟨_, rfl⟩
   obtain ⟨q7, hq7⟩ : ∃ z, R.snaps.length = z := ⟨_, rfl⟩
   rw [hq5, hq6, hq7] at hR1 ⊢
   have HEn : Hid (_ ∧ _ ∧ _) := HE0.out w1 _ _ T R ta tn tc ra na sa rc q5 q6 q7 nc sc rfl rfl (treeN_old hT1 HGd.out.1 HN.out) hR1 HGd.out.1 HGd.out.2.1 HB1.out
   clear hT1 hR1 hb1 hq5 hq6 hq7 HC hw0 HB0 HO HT HTF HE0
   obtain ⟨r0, r1⟩ := HB1.out.2.2.1.c
   have z0 := HB1.out.2.2.1.fz 0
   have z1 := HB1.out.2.2.1.fz 1
   obtain ⟨s0, s1, s2, s3, s4, s5, s6, s7, sz⟩ := HB1.out.re
   go_wp2
   refine bodyPost_ret (v := .tuple #[.agg #[.slice ta tn tc, .int .i64 T.next], .agg #[.int .i64 R.ino, .int .i64 R.kind, .int .i64 R.size, .int .i64 R.links, .int .i64 R.n, .slice ra q5 rc, .slice na q6 nc, .slice sa q7 sc], .int .i64 c]) (by simp [results, Tryz.results30, go_sem, *]) rfl ?_
   unfold outW at HEn
   exact ⟨_, _, rfl, HEn.out.1, HEn.out.2.1, HEn.out.2.2⟩
set_option maxRecDepth 4000 in
set_option maxHeartbeats 40000000 in
theorem dref_none (v ov : Value) (t : TreeB) (o : OpB) (w : World) (hT : TreeAt w v t) (hg : Good t) (ho : OpAt w ov o) (hk : ∀ i : Int, 1 ≤ i → i ≤ 11 → o.kind ≠ i) :
 Calls Tryz.prog 30 #[v, ov] w fun e w' => ∃ tv rv, e = .returned (.tuple #[tv, rv, .int .i64 (doB t o).2.2]) ∧ TreeAt w' tv (doB t o).1 ∧ ReplyAt w' rv (doB t o).2.1 ∧ Below w.heap.size w w' := by
 have HT : Hid (TreeAt w v t) := hT
 obtain ⟨fs, hF⟩ : ∃ fs, TreeG w v t fs := by obtain ⟨sv, fs, h⟩ := hT; exact ⟨fs, sv, h⟩
 have HTF : Hid (TreeG w v t fs) := hF
 obtain ⟨ao, cap, rfl, q1, q2, q3, q4, q5⟩ := hF.opened
 obtain ⟨dv, rfl, ho1, ho2, ho3, ho4⟩ := ho
 obtain ⟨b, off, rfl, hb, hc⟩ := q5 hg.e.root0.1
 have hl := fs_len q3
 have lm : (t.nodes.length : Int) ≤ 60 := by have := hg.e.size; omega
 obtain ⟨do', dc, hdv, hdx⟩ := ho1
 obtain ⟨dn, hdn⟩ : ∃ n, (intsV .u8 o.data).length = n := ⟨_, rfl⟩
 rw [hdn] at hdv
 subst hdv
 have HG : Hid (Good t ∧ fs.map FN.n = t.nodes ∧ (∀ f ∈ fs, f.is w) ∧ b < w.heap.size ∧ ∀ k (hk : k < fs.length), At5 w b (off + k * 5) fs[k]) := ⟨hg, q3, q4, hb, hc⟩
 have HH : Hid (∀ W, Below w.heap.size w W → Calls Tryz.prog 83 #[.agg #[.slice (some ⟨b, off, none⟩) t.nodes.length cap, .int .i64 t.next], .string o.path] W fun e w' => e = .returned (resH (homeB t o.path)) ∧ Below W.heap.size W w') := fun W hb => home_any _ t o.path W (HT.out.below hb) hg ho2
 have HO : Hid (OpAt w (.agg #[.int .i64 o.kind, .string o.path, .string o.to, .int .i64 o.off, .int .i64 o.n, .slice do' dn dc, .int .i64 o.snap]) o) := ⟨_, rfl, ⟨do', dc, by rw [hdn], hdx⟩, ho2, ho3, ho4⟩
 have HO5 : Hid (bytesIn o.data) := ho4
 clear q1 q2 q3 q4 q5 hT hF hb hc hg ho2 ho3 ho4 hdn
 unfold opV
 obtain ⟨w0, hw0⟩ : ∃ w0, w0 = ((((w.alloc (.cells #[.slice (some ⟨b, off, none⟩) t.nodes.length cap, .int .i64 t.next] 29)).alloc (.cells #[.int .i64 o.kind, .string o.path, .string o.to, .int .i64 o.off, .int .i64 o.n, .slice do' dn dc, .int .i64 o.snap] 35)).alloc (.cells #[.slice none 0 0, .int .i64 0] 29)).alloc (.cells #[.int .i64 0, .int .i64 0, .int .i64 0, .int .i64 0, .int .i64 0, .slice none 0 0, .slice none 0 0, .slice none 0 0] 40)) := ⟨_, rfl⟩
 have HB0 : Hid (Bx w w0 (.slice (some ⟨b, off, none⟩) t.nodes.length cap) (.int .i64 t.next) o (.slice do' dn dc)) := by rw [hw0]; exact bx_new w _ _ _ o
 have e1 : (o.kind == 1) = false := beq_eq_false_iff_ne.2 (hk 1 (by omega) (by omega))
 have e2 : (o.kind == 2) = false := beq_eq_false_iff_ne.2 (hk 2 (by omega) (by omega))
 have e3 : (o.kind == 3) = false := beq_eq_false_iff_ne.2 (hk 3 (by omega) (by omega))
 have e4 : (o.kind == 4) = false := beq_eq_false_iff_ne.2 (hk 4 (by omega) (by omega))
 have e5 : (o.kind == 5) = false := beq_eq_false_iff_ne.2 (hk 5 (by omega) (by omega))
 have e6 : (o.kind == 6) = false := beq_eq_false_iff_ne.2 (hk 6 (by omega) (by omega))
 have e7 : (o.kind == 7) = false := beq_eq_false_iff_ne.2 (hk 7 (by omega) (by omega))
 have e8 : (o.kind == 8) = false := beq_eq_false_iff_ne.2 (hk 8 (by omega) (by omega))
 have e9 : (o.kind == 9) = false := beq_eq_false_iff_ne.2 (hk 9 (by omega) (by omega))
 have e10 : (o.kind == 10) = false := beq_eq_false_iff_ne.2 (hk 10 (by omega) (by omega))
 have e11 : (o.kind == 11) = false := beq_eq_false_iff_ne.2 (hk 11 (by omega) (by omega))
 have HR : Hid (doB t o = (t, noReply, 1)) := by
  show _ = _
  have n1 := hk 1 (by omega) (by omega)
  have n2 := hk 2 (by omega) (by omega)
  have n3 := hk 3 (by omega) (by omega)
  have n4 := hk 4 (by omega) (by omega)
  have n5 := hk 5 (by omega) (by omega)
  have n6 := hk 6 (by omega) (by omega)
  have n7 := hk 7 (by omega) (by omega)
  have n8 := hk 8 (by omega) (by omega)
  have n9 := hk 9 (by omega) (by omega)
  have n10 := hk 10 (by omega) (by omega)
  have n11 := hk 11 (by omega) (by omega)
  simp [doB, n1, n2, n3, n4, n5, n6, n7, n8, n9, n10, n11]
 clear hk HH HO
 rw [HR.out]
 go_enter Tryz.func30, Tryz.ntmps30
 go_wp2
 refine bodyPost_ret (v := .tuple #[.agg #[.slice (some ⟨b, off, none⟩) t.nodes.length cap, .int .i64 t.next], .agg #[.int .i64 0, .int .i64 0, .int .i64 0, .int .i64 0, .int .i64 0, .slice none 0 0, .slice none 0 0, .slice none 0 0], .int .i64 1]) (by simp [results, Tryz.results30, go_sem, *]) rfl ?_
 exact ⟨_, _, rfl, HT.out.below ((((Below.refl w.heap.size w).alloc (Nat.le_refl _) _).alloc (by simp) _).alloc (by simp; omega) _ |>.alloc (by simp; omega) _), replyAt_no _, (((Below.refl w.heap.size w).alloc (Nat.le_refl _) _).alloc (by simp) _).alloc (by simp; omega) _ |>.alloc (by simp; omega) _⟩
end Go.Proofs.YtbebgobboccjcaaGreatDoor
