/- Several texts in one: DDo DDo2L DDo3L. -/
import Derived.Test.YtbebgobboccjcaaGreatDoorMDActB
import Derived.Deep.RegionWith
/- act of any kind; fault.New; Do. -/
namespace Go.Proofs.YtbebgobboccjcaaGreatDoor
open Go.RowKit Kit
set_option linter.unusedVariables false

set_option maxRecDepth 4000 in
set_option maxHeartbeats 8000000 in
theorem dact_other (o : OpB) (da : Option Addr) (dc : Nat) (w : World) (p b : Nat) (t : TreeB) (hT : DTree w p b t) (ho : ∀ j : Int, 1 ≤ j → j ≤ 11 → o.kind ≠ j) :
    Calls Tryz.prog 37 #[.pointer (some ⟨p, 0, none⟩), .agg #[.int .i64 o.kind, .string o.path, .string o.to, .int .i64 o.off, .int .i64 o.n, .slice da o.data.length dc, .int .i64 o.snap]] w fun e w' => Told w p b (doB t o) e w' := by
  obtain ⟨hp, hb⟩ := hT.cells.2.2.2
  have H0 : Hid (Two w _ o (.slice da o.data.length dc)) := two_new w o (.slice da o.data.length dc)
  have hd : doB t o = (t, noReply, 1) := by
    have h := fun j h1 h2 => ho j h1 h2
    unfold doB
    rw [if_neg (by have := h 1 (by omega) (by omega); have := h 2 (by omega) (by omega); omega), if_neg (by have := h 3 (by omega) (by omega); have := h 4 (by omega) (by omega); omega), if_neg (h 5 (by omega) (by omega)), if_neg (h 6 (by omega) (by omega)), if_neg (by have := h 7 (by omega) (by omega); have := h 8 (by omega) (by omega); have := h 9 (by omega) (by omega); omega), if_neg (by have := h 10 (by omega) (by omega); have := h 11 (by omega) (by omega); omega)]
  rw [hd]
  obtain ⟨kind, path, to, off, n, data, snap⟩ := o
  simp only at ho H0 ⊢
  have k1 : (kind == 1) = false := beq_eq_false_iff_ne.2 (ho 1 (by omega) (by omega))
  have k2 : (kind == 2) = false := beq_eq_false_iff_ne.2 (ho 2 (by omega) (by omega))
  have k3 : (kind == 3) = false := beq_eq_false_iff_ne.2 (ho 3 (by omega) (by omega))
  have k4 : (kind == 4) = false := beq_eq_false_iff_ne.2 (ho 4 (by omega) (by omega))
  have k5 : (kind == 5) = false := beq_eq_false_iff_ne.2 (ho 5 (by omega) (by omega))
  have k6 : (kind == 6) = false := beq_eq_false_iff_ne.2 (ho 6 (by omega) (by omega))
  have k7 : (kind == 7) = false := beq_eq_false_iff_ne.2 (ho 7 (by omega) (by omega))
  have k8 : (kind == 8) = false := beq_eq_false_iff_ne.2 (ho 8 (by omega) (by omega))
  have k9 : (kind == 9) = false := beq_eq_false_iff_ne.2 (ho 9 (by omega) (by omega))
  have ka : (kind == 10) = false := beq_eq_false_iff_ne.2 (ho 10 (by omega) (by omega))
  have kb : (kind == 11) = false := beq_eq_false_iff_ne.2 (ho 11 (by omega) (by omega))
  have HT : Hid (DTree w p b t ∧ p < w.heap.size ∧ b < w.heap.size) := ⟨hT, hp, hb⟩
  obtain ⟨W, hW⟩ : ∃ z, z = (w.alloc (.cells #[.int .i64 kind, .string path, .string to, .int .i64 off, .int .i64 n, .slice da data.length dc, .int .i64 snap] 35)).alloc (.cells #[.int .i64 0, .int .i64 0, .int .i64 0, .int .i64 0, .int .i64 0, .slice none 0 0, .slice none 0 0, .slice none 0 0] 40) := ⟨_, rfl⟩
  clear ho hd hT hp hb
  go_enter Tryz.func37, Tryz.ntmps37
  go_wp2
  refine bodyPost_ret (v := .tuple #[.agg #[.int .i64 0, .int .i64 0, .int .i64 0, .int .i64 0, .int .i64 0, .slice none 0 0, .slice none 0 0, .slice none 0 0], .iface 80 (.int .i64 1)]) (by simp [results, Tryz.results37, go_sem, *]) rfl ?_
  have hb2 : Below w.heap.size w ((w.alloc (.cells #[.int .i64 kind, .string path, .string to, .int .i64 off, .int .i64 n, .slice da data.length dc, .int .i64 snap] 35)).alloc (.cells #[.int .i64 0, .int .i64 0, .int .i64 0, .int .i64 0, .int .i64 0, .slice none 0 0, .slice none 0 0, .slice none 0 0] 40)) := H0.out.2.2
  exact ⟨_, rfl, replyAt_no' _ _ _ _ _ _, HT.out.1.below hb2, turn_below hb2⟩
theorem dact_any (o : OpB) (da : Option Addr) (dc : Nat) (w : World) (p b : Nat) (t : TreeB) (hT : DTree w p b t) (hG : Good t) (hs1 : o.path.size ≤ maxLen) (hs2 : o.to.size ≤ maxLen) (hdv : Sees w (.slice da o.data.length dc) (intsV .u8 o.data)) :
    Calls Tryz.prog 37 #[.pointer (some ⟨p, 0, none⟩), .agg #[.int .i64 o.kind, .string o.path, .string o.to, .int .i64 o.off, .int .i64 o.n, .slice da o.data.length dc, .int .i64 o.snap]] w fun e w' => Told w p b (doB t o) e w' := by
  by_cases h1 : o.kind = 1
  · exact dact_c1 o da dc w p b t hT hG hs1 hs2 hdv h1
  by_cases h2 : o.kind = 2
  · exact dact_c2 o da dc w p b t hT hG hs1 hs2 hdv h2
  by_cases h3 : o.kind = 3
  · exact dact_c3 o da dc w p b t hT hG hs1 hs2 hdv h3
  by_cases h4 : o.kind = 4
  · exact dact_c4 o da dc w p b t hT hG hs1 hs2 hdv h4
  by_cases h5 : o.kind = 5
  · exact dact_c5 o da dc w p b t hT hG hs1 hs2 hdv h5
  by_cases h6 : o.kind = 6
  · exact dact_c6 o da dc w p b t hT hG hs1 hs2 hdv h6
  by_cases h7 : o.kind = 7
  · exact dact_c7 o da dc w p b t hT hG hs1 hs2 hdv h7
  by_cases h8 : o.kind = 8
  · exact dact_c8 o da dc w p b t hT hG hs1 hs2 hdv h8
  by_cases h9 : o.kind = 9
  · exact dact_c9 o da dc w p b t hT hG hs1 hs2 hdv h9
  by_cases ha : o.kind = 10
  · exact dact_c10 o da dc w p b t hT hG hs1 hs2 hdv ha
  by_cases hb : o.kind = 11
  · exact dact_c11 o da dc w p b t hT hG hs1 hs2 hdv hb
  · exact dact_other o da dc w p b t hT (fun j k1 k2 e => by omega)
set_option maxRecDepth 4000 in
theorem dfnew_nil (op path : ByteArray) (w : World) : Calls Tryz.prog 36 #[.string op, .string path, .nilIface] w fun e w' => e = .returned .nilIface ∧ w' = w := by
  go_enter Tryz.func36, Tryz.ntmps36
  go_wp2
  go_ret
  exact ⟨rfl, rfl⟩
set_option maxRecDepth 4000 in
theorem dfnew_num (op path : ByteArray) (c : Int) (w : World) : Calls Tryz.prog 36 #[.string op, .string path, .iface 80 (.int .i64 c)] w fun e w' => e = .returned (.iface 85 (.pointer (some ⟨w.heap.size, 0, none⟩))) ∧ w' = w.alloc (.cells #[.string op, .string path, .iface 80 (.int .i64 c)] 89) := by
  go_enter Tryz.func36, Tryz.ntmps36
  go_wp2
  go_ret
  exact ⟨rfl, rfl⟩
end Go.Proofs.YtbebgobboccjcaaGreatDoor
/- Do. -/
namespace Go.Proofs.YtbebgobboccjcaaGreatDoor
open Go.RowKit Kit
set_option linter.unusedVariables false

def treeS : ByteArray := ⟨#[116, 114, 101, 101]⟩
/-- An error that is a number within a Fault of tree's, or none. -/
def FaultIs (w : World) (ev : Value) (c : Int) (path : ByteArray) : Prop := (c = 0 ∧ ev = .nilIface) ∨ (c ≠ 0 ∧ ∃ g, ev = .iface 85 (.pointer (some ⟨g, 0, none⟩)) ∧ w.heap[g]? = some (.cells #[.string treeS, .string path, .iface 80 (.int .i64 c)] 89))
def ToldF (w : World) (p b : Nat) (x : TreeB × ReplyB × Int) (path : ByteArray) (e : Ending) (w' : World) : Prop := ∃ rv ev, e = .returned (.tuple #[rv, ev]) ∧ ReplyAt w' rv x.2.1 ∧ FaultIs w' ev x.2.2 path ∧ DTree w' p b x.1 ∧ Turn p b w w'
theorem do_snaps {t : TreeB} (hG : Good t) (o : OpB) : (doB t o).2.1.snaps = [] := by
  unfold doB
  split
  · exact makes_snaps t o
  · split
    · rw [removes_reply]; rfl
    · split
      · rw [rename_reply]; rfl
      · split
        · rw [link_reply]; rfl
        · split
          · rename_i h
            rw [file_eq hG o (by omega)]; exact file_snaps t o _
          · split
            · exact looks_snaps t o
            · rfl
theorem ReplyAt.below {w w' : World} {v : Value} {r : ReplyB} (h : ReplyAt w v r) (hb : Below w.heap.size w w') : ReplyAt w' v r := by
  obtain ⟨a, b, c, e, h1, h2, h3⟩ := h
  exact ⟨a, b, c, e, h1.below hb, h2.below hb, h3.below hb⟩
theorem fault_nil (w : World) (path : ByteArray) : FaultIs w .nilIface 0 path := Or.inl ⟨rfl, rfl⟩
/-- The ends of Do: the box that act's reply was put in is newer (1), or older (2) than act. -/
theorem do_fin {w W2 W' : World} {p b : Nat} {t : TreeB} {r : ReplyB} {v : Value} {c : Int} {ev : Value} {path : ByteArray} (h1 : ReplyAt W2 v r) (h2 : DTree W2 p b t) (h3 : Turn p b w W2) (hbe : Below W2.heap.size W2 W') (hf : FaultIs W' ev c path) : ToldF w p b (t, r, c) path (.returned (.tuple #[v, ev])) W' :=
  ⟨v, ev, rfl, h1.below hbe, hf, h2.below hbe, h3.trans (turn_below hbe)⟩
theorem do_end1 {w w1 : World} {p b : Nat} {t : TreeB} {r : ReplyB} {v r0 r1 r2 r3 r4 r5 r6 r7 : Value} {blk : Obj} {path : ByteArray} (h1 : ReplyAt w1 v r) (h2 : DTree w1 p b t) (h3 : Turn p b w w1) (h4 : RBox w1 (w.heap.size + 1)) (hp : p < w.heap.size) (hb : b < w.heap.size) (hs : r.snaps = []) :
    ToldF w p b (t, r, 0) path (.returned (.tuple #[v, .nilIface])) ((outR w1 (w.heap.size + 1) r0 r1 r2 r3 r4 r5 r6 r7).alloc blk).drew := by
  have ho := outR_only w1 (w.heap.size + 1) r0 r1 r2 r3 r4 r5 r6 r7
  have hf := told_two h2 h3 h4 hp hb ho
  have hbe : Below (outR w1 (w.heap.size + 1) r0 r1 r2 r3 r4 r5 r6 r7).heap.size (outR w1 (w.heap.size + 1) r0 r1 r2 r3 r4 r5 r6 r7) ((outR w1 (w.heap.size + 1) r0 r1 r2 r3 r4 r5 r6 r7).alloc blk).drew := ((Below.refl _ _).alloc (Nat.le_refl _) _).drew
  exact do_fin (reply_fin h1 hs h4 ho) hf.1 hf.2 hbe (fault_nil _ _)
theorem do_end2 {w w1 : World} {p b : Nat} {t : TreeB} {r : ReplyB} {v r0 r1 r2 r3 r4 r5 r6 r7 q0 q1 q2 q3 q4 q5 q6 q7 : Value} {path : ByteArray} (h1 : ReplyAt w1 v r) (h2 : DTree w1 p b t) (h3 : Turn p b w w1) (h4 : RBox w1 (w.heap.size + 1)) (h5 : RBox w1 (w.heap.size + 2)) (hp : p < w.heap.size) (hb : b < w.heap.size) (hs : r.snaps = []) :
    ToldF w p b (t, r, 0) path (.returned (.tuple #[v, .nilIface])) (outR (outR w1 (w.heap.size + 2) q0 q1 q2 q3 q4 q5 q6 q7) (w.heap.size + 1) r0 r1 r2 r3 r4 r5 r6 r7).drew := by
  have ho := outR_only w1 (w.heap.size + 2) q0 q1 q2 q3 q4 q5 q6 q7
  have hf := told_fin h2 h3 h5 (by omega) (by omega) (by omega) ho (Below.refl _ _)
  have hr := reply_fin h1 hs h5 ho
  have h6 : RBox (outR w1 (w.heap.size + 2) q0 q1 q2 q3 q4 q5 q6 q7) (w.heap.size + 1) := (ho.block _ h4.c.2.2.2.2.2.2.2.2.2 (by omega)).trans h4
  have ho2 := outR_only (outR w1 (w.heap.size + 2) q0 q1 q2 q3 q4 q5 q6 q7) (w.heap.size + 1) r0 r1 r2 r3 r4 r5 r6 r7
  have hf2 := told_two hf.1 hf.2 h6 hp hb ho2
  exact do_fin (reply_fin hr hs h6 ho2) hf2.1 hf2.2 (Below.refl _ _).drew (fault_nil _ _)
end Go.Proofs.YtbebgobboccjcaaGreatDoor
/- The ends of Do with an error. -/
namespace Go.Proofs.YtbebgobboccjcaaGreatDoor
open Go.RowKit Kit
set_option linter.unusedVariables false

theorem outR_size (w : World) (B : Nat) (r0 r1 r2 r3 r4 r5 r6 r7 : Value) : (outR w B r0 r1 r2 r3 r4 r5 r6 r7).heap.size = w.heap.size := by simp [outR, World.setCell]
theorem do_err1 {w w1 : World} {p b : Nat} {t : TreeB} {r : ReplyB} {v r0 r1 r2 r3 r4 r5 r6 r7 : Value} {blk : Obj} {path : ByteArray} {c : Int} {g : Nat} (h1 : ReplyAt w1 v r) (h2 : DTree w1 p b t) (h3 : Turn p b w w1) (h4 : RBox w1 (w.heap.size + 1)) (hp : p < w.heap.size) (hb : b < w.heap.size) (hs : r.snaps = []) (hc : c ≠ 0) (hg : g = w1.heap.size + 1) :
    ToldF w p b (t, r, c) path (.returned (.tuple #[v, .iface 85 (.pointer (some ⟨g, 0, none⟩))])) (((outR w1 (w.heap.size + 1) r0 r1 r2 r3 r4 r5 r6 r7).alloc blk).alloc (.cells #[.string treeS, .string path, .iface 80 (.int .i64 c)] 89)).drew := by
  have ho := outR_only w1 (w.heap.size + 1) r0 r1 r2 r3 r4 r5 r6 r7
  have hz := outR_size w1 (w.heap.size + 1) r0 r1 r2 r3 r4 r5 r6 r7
  have hf := told_two h2 h3 h4 hp hb ho
  have hr := reply_fin h1 hs h4 ho
  generalize outR w1 (w.heap.size + 1) r0 r1 r2 r3 r4 r5 r6 r7 = O at *
  have hbe : Below O.heap.size O ((O.alloc blk).alloc (.cells #[.string treeS, .string path, .iface 80 (.int .i64 c)] 89)).drew := (((Below.refl _ _).alloc (Nat.le_refl _) _).alloc (by simp) _).drew
  refine do_fin hr hf.1 hf.2 hbe (Or.inr ⟨hc, g, rfl, ?_⟩)
  have he : g = (O.alloc blk).heap.size := by rw [hg, ← hz]; simp
  subst he
  exact (MapKept.heap_alloc (O.alloc blk) _).1
theorem do_err2 {w w1 : World} {p b : Nat} {t : TreeB} {r : ReplyB} {v r0 r1 r2 r3 r4 r5 r6 r7 q0 q1 q2 q3 q4 q5 q6 q7 : Value} {path : ByteArray} {c : Int} {g : Nat} (h1 : ReplyAt w1 v r) (h2 : DTree w1 p b t) (h3 : Turn p b w w1) (h4 : RBox w1 (w.heap.size + 1)) (h5 : RBox w1 (w.heap.size + 2)) (hp : p < w.heap.size) (hb : b < w.heap.size) (hs : r.snaps = []) (hc : c ≠ 0) (hg : g = w1.heap.size) :
    ToldF w p b (t, r, c) path (.returned (.tuple #[v, .iface 85 (.pointer (some ⟨g, 0, none⟩))])) ((outR (outR w1 (w.heap.size + 2) q0 q1 q2 q3 q4 q5 q6 q7) (w.heap.size + 1) r0 r1 r2 r3 r4 r5 r6 r7).alloc (.cells #[.string treeS, .string path, .iface 80 (.int .i64 c)] 89)).drew := by
  have ho := outR_only w1 (w.heap.size + 2) q0 q1 q2 q3 q4 q5 q6 q7
  have hz := outR_size w1 (w.heap.size + 2) q0 q1 q2 q3 q4 q5 q6 q7
  have hf := told_fin h2 h3 h5 (by omega) (by omega) (by omega) ho (Below.refl _ _)
  have hr := reply_fin h1 hs h5 ho
  have h6 : RBox (outR w1 (w.heap.size + 2) q0 q1 q2 q3 q4 q5 q6 q7) (w.heap.size + 1) := (ho.block _ h4.c.2.2.2.2.2.2.2.2.2 (by omega)).trans h4
  generalize outR w1 (w.heap.size + 2) q0 q1 q2 q3 q4 q5 q6 q7 = O1 at *
  have ho2 := outR_only O1 (w.heap.size + 1) r0 r1 r2 r3 r4 r5 r6 r7
  have hz2 := outR_size O1 (w.heap.size + 1) r0 r1 r2 r3 r4 r5 r6 r7
  have hf2 := told_two hf.1 hf.2 h6 hp hb ho2
  have hr2 := reply_fin hr hs h6 ho2
  generalize outR O1 (w.heap.size + 1) r0 r1 r2 r3 r4 r5 r6 r7 = O at *
  have hbe : Below O.heap.size O (O.alloc (.cells #[.string treeS, .string path, .iface 80 (.int .i64 c)] 89)).drew := ((Below.refl _ _).alloc (Nat.le_refl _) _).drew
  refine do_fin hr2 hf2.1 hf2.2 hbe (Or.inr ⟨hc, g, rfl, ?_⟩)
  have he : g = O.heap.size := by rw [hg, hz2, hz]
  subst he
  exact (MapKept.heap_alloc O _).1
end Go.Proofs.YtbebgobboccjcaaGreatDoor
