/- dolmenlaw9.does: a step on both maps. -/
import Derived.Test.YthdmclhccbjgoaaEPut
import Derived.Test.YthdmclhccbjgoaaECut
import Derived.Test.YthdmclhccbjgoaaRPutF
import Derived.Test.YthdmclhccbjgoaaRCutF
import Derived.Test.YthdmclhccbjgoaaLCode
import Derived.Test.YthdmclhccbjgoaaLSteps
import Derived.Deep.RegionHeld3
namespace Go.Proofs.Ythdmclhccbjgoaa
open Go.RowKit Kit
set_option linter.unusedVariables false

/-- From w to w' the two maps turned, the program's row from v to v', and nothing else. -/
structure Turn10 (p q : Nat) (v v' : Value) (w w' : World) : Prop where
  os : w'.os = w.os
  tape : w'.tape = w.tape
  output : w'.output = w.output
  size : w.heap.size ≤ w'.heap.size
  block : ∀ k, k < w.heap.size → k ≠ p → k ≠ q → v.ownBlock ≠ some k → w'.heap[k]? = w.heap[k]?
  fresh : ∀ k, v'.ownBlock = some k → v.ownBlock = some k ∨ w.heap.size ≤ k
theorem Turn10.trans {p q : Nat} {v v1 v2 : Value} {w w1 w2 : World} (h : Turn10 p q v v1 w w1) (k : Turn10 p q v1 v2 w1 w2) : Turn10 p q v v2 w w2 :=
  ⟨k.os.trans h.os, k.tape.trans h.tape, k.output.trans h.output, Nat.le_trans h.size k.size,
   fun i hi h1 h2 h3 => (k.block i (Nat.lt_of_lt_of_le hi h.size) h1 h2 (fun e => (h.fresh i e).elim h3 (by omega))).trans (h.block i hi h1 h2 h3),
   fun i hi => (k.fresh i hi).elim (fun e => h.fresh i e) (fun e => .inr (Nat.le_trans h.size e))⟩
theorem turn10_9 {p : Nat} (q : Nat) {v v' : Value} {w w' : World} (h : Turn9 p v v' w w') : Turn10 p q v v' w w' := ⟨h.os, h.tape, h.output, h.size, fun k hk h1 _ h2 => h.block k hk h1 h2, h.fresh⟩
theorem turn10_1 (p : Nat) {q : Nat} {v : Value} {w w' : World} (h : Turn1 q w w') : Turn10 p q v v w w' := ⟨h.os, h.tape, h.output, h.size, fun k hk _ h1 _ => h.block k hk h1, fun k hk => .inl hk⟩
theorem turn10_b {p q : Nat} {v : Value} {w w' : World} (h : Below w.heap.size w w') : Turn10 p q v v w w' := ⟨h.os, h.tape, h.output, h.size, fun k hk _ _ _ => h.block k hk, fun k hk => .inl hk⟩
theorem Turn10.below {p q B : Nat} {v v' : Value} {w0 w w' : World} (h : Turn10 p q v v' w w') (h0 : Below B w0 w) (hB : B ≤ w.heap.size) (hp : B ≤ p) (hq : B ≤ q) (hv : ∀ k, v.ownBlock = some k → B ≤ k) : Below B w0 w' :=
  ⟨h.os.trans h0.os, h.tape.trans h0.tape, h.output.trans h0.output, Nat.le_trans h0.size h.size, fun k hk => (h.block k (by omega) (by omega) (by omega) (fun e => by have := hv k e; omega)).trans (h0.block k hk)⟩
/-- Both maps show the same pieces, and lie apart. -/
structure Both9 (w : World) (p q B : Nat) (v u : Value) (ps : List Pc) : Prop where
  em : EMap w p B v ps
  rc : w.heap[q]? = some (.cells #[u] 29)
  rs : SeesE pcE w u ps
  pq : p ≠ q
  vq : v.ownBlock ≠ some q
  up : 0 < ps.length → u.ownBlock ≠ some p
  uv : 0 < ps.length → ∀ k, u.ownBlock = some k → v.ownBlock ≠ some k
theorem sees_block {w w' : World} {u : Value} {ps : List Pc} (h : SeesE pcE w u ps) (hb : 0 < ps.length → ∀ k, u.ownBlock = some k → k < w.heap.size → w'.heap[k]? = w.heap[k]?) (hs : w.heap.size ≤ w'.heap.size) : SeesE pcE w' u ps := by
  obtain ⟨ao, cap, h1, h2, h3, h4, h5⟩ := h
  refine ⟨ao, cap, h1, h2, h3, h4, fun h0 => ?_⟩
  obtain ⟨b, off, e, hl, hh⟩ := h5 h0
  subst h1 e
  refine ⟨b, off, rfl, Nat.lt_of_lt_of_le hl hs, fun i x hx => ?_⟩
  have := hb h0 b rfl hl
  exact (World.cell?_of_block (a := ⟨b, off + i, none⟩) this).trans (hh i x hx)
theorem sees_lt {w : World} {u : Value} {ps : List Pc} (h : SeesE pcE w u ps) (h0 : 0 < ps.length) {k : Nat} (hk : u.ownBlock = some k) : k < w.heap.size := by
  obtain ⟨ao, cap, h1, h2, h3, h4, h5⟩ := h
  obtain ⟨b, off, e, hl, hh⟩ := h5 h0
  subst h1 e
  have hk : some b = some k := hk
  injection hk with hk
  omega
theorem Both9.below {w w' : World} {p q B : Nat} {v u : Value} {ps : List Pc} (h : Both9 w p q B v u ps) (hb : Below w.heap.size w w') : Both9 w' p q B v u ps :=
  ⟨h.em.below hb, blk_below hb h.rc, h.rs.below hb, h.pq, h.vq, h.up, h.uv⟩
/-- The program's map is done, then the document's. -/
theorem Both9.step {w w1 w2 : World} {p q B : Nat} {v v' u u' : Value} {ps qs : List Pc} (h : Both9 w p q B v u ps) (h1 : EMap w1 p B v' qs) (t1 : Turn9 p v v' w w1) (h2 : w2.heap[q]? = some (.cells #[u'] 29)) (r2 : RowE pcE w2 w1.heap.size 32 u' qs) (t2 : Turn1 q w1 w2) :
    Both9 w2 p q B v' u' qs ∧ Turn10 p q v v' w w2 := by
  have hq1 : v'.ownBlock ≠ some q := fun e => (t1.fresh q e).elim h.vq (fun h3 => by have := blk_lt h.rc; omega)
  have hp := blk_lt h1.cell
  have hbk : ∀ k, v'.ownBlock = some k → k < w1.heap.size := fun k hk => row_lt h1.row hk
  refine ⟨⟨⟨blk_turn t2 h1.cell h.pq, ?_, h1.off, Nat.le_trans h1.low t2.size⟩, h2, r2.sees, h.pq, hq1, fun _ e => by have := r2.block p e; omega, fun _ k hk e => by have := r2.block k hk; have := hbk k e; omega⟩, (turn10_9 q t1).trans (turn10_1 p t2)⟩
  obtain ⟨k1, k2⟩ := id h1.row
  refine ⟨k1, ?_⟩
  rcases k2 with k2 | ⟨g, cap, cur, hv, hg, hh, r⟩
  · exact .inl k2
  · exact .inr ⟨g, cap, cur, hv, hg, blk_turn t2 hh (fun e => hq1 (by rw [hv, e]; rfl)), r⟩
/-- The document's map while the program's turns. -/
theorem Both9.rmap {w w1 : World} {p q B : Nat} {v v' u : Value} {ps : List Pc} (h : Both9 w p q B v u ps) (t1 : Turn9 p v v' w w1) : RMap w1 q ps :=
  ⟨u, by rw [t1.block q (blk_lt h.rc) (fun e => h.pq e.symm) h.vq]; exact h.rc, sees_block h.rs (fun h0 k hk hl => t1.block k hl (fun e => h.up h0 (by rw [hk, e])) (h.uv h0 k hk)) t1.size⟩
/-- A step that both refuse, or that changes nothing. -/
theorem Both9.same {w w1 : World} {p q B : Nat} {v v' u : Value} {ps : List Pc} (h : Both9 w p q B v u ps) (h1 : EMap w1 p B v' ps) (t1 : Turn9 p v v' w w1) : Both9 w1 p q B v' u ps ∧ Turn10 p q v v' w w1 := by
  obtain ⟨u2, hc, hs⟩ := h.rmap t1
  have hu : u2 = u := by
    have h3 : w1.heap[q]? = w.heap[q]? := t1.block q (blk_lt h.rc) (fun e => h.pq e.symm) h.vq
    rw [h3, h.rc] at hc
    injection hc with hc
    injection hc with hc _ _
    injection hc with hc
    injection hc with hc _
    exact hc.symm
  subst hu
  exact ⟨⟨h1, hc, hs, h.pq, fun e => (t1.fresh q e).elim h.vq (fun h3 => by have := blk_lt h.rc; omega), h.up, fun h0 k hk e => (t1.fresh k e).elim (h.uv h0 k hk) (fun h3 => by have := sees_lt h.rs h0 hk; omega)⟩, turn10_9 q t1⟩
def Cut9 (a b : Int) : Prop := 0 ≤ a ∧ a ≤ b ∧ b ≤ 4294967296
open Classical in
noncomputable def stepB (s : St9) (ps : List Pc) : List Pc := if s.kind = 1 then (if Put9 s.pc then putB ps s.pc else ps) else if s.kind = 2 then (if Cut9 s.a s.b then cutB ps s.a s.b else ps) else ps
theorem step_good {s : St9} {ps : List Pc} (h : Good9 ps) : Good9 (stepB s ps) ∧ (stepB s ps).length ≤ ps.length + 2 := by
  unfold stepB
  split
  · split
    · rename_i hp
      exact ⟨good9_put h (put9_fit hp), put_len h.can.1 (put9_fit hp).2.1⟩
    · exact ⟨h, by omega⟩
  · split
    · split
      · exact ⟨good9_cut h, by have := cut_len (a := s.a) (b := s.b) h.can.1; omega⟩
      · exact ⟨h, by omega⟩
    · exact ⟨h, by omega⟩
def Box9 (X : World) (a : Nat) (k po pl pg pp sa sb : Int) : Prop :=
  X.cell? ⟨a, 0, none⟩ = some (.int .i64 k) ∧ X.cell? ⟨a, 1, none⟩ = some (.int .i64 po) ∧ X.cell? ⟨a, 2, none⟩ = some (.int .i64 pl) ∧ X.cell? ⟨a, 3, none⟩ = some (.int .i64 pg) ∧ X.cell? ⟨a, 4, none⟩ = some (.int .i64 pp) ∧ X.cell? ⟨a, 5, none⟩ = some (.int .i64 sa) ∧ X.cell? ⟨a, 6, none⟩ = some (.int .i64 sb)
theorem box9_of {X : World} {a : Nat} {k po pl pg pp sa sb : Int} (h : X.heap[a]? = some (.cells #[.int .i64 k, .int .i64 po, .int .i64 pl, .int .i64 pg, .int .i64 pp, .int .i64 sa, .int .i64 sb] 34)) : Box9 X a k po pl pg pp sa sb :=
  ⟨blk_cell h rfl, blk_cell h rfl, blk_cell h rfl, blk_cell h rfl, blk_cell h rfl, blk_cell h rfl, blk_cell h rfl⟩
set_option maxRecDepth 4000 in
set_option maxHeartbeats 8000000 in
theorem does_put (p q B : Nat) (k po pl pg pp sa sb : Int) (v u : Value) (ps : List Pc) (w : World) (hb : Both9 w p q B v u ps) (hg : Good9 ps) (hl : ps.length ≤ 900) (hk : k = 1) (hx : Put9 ⟨po, pl, pg, pp⟩) :
    Calls Try.prog 10 #[.pointer (some ⟨p, 0, none⟩), .pointer (some ⟨q, 0, none⟩), .agg #[.int .i64 k, .int .i64 po, .int .i64 pl, .int .i64 pg, .int .i64 pp, .int .i64 sa, .int .i64 sb]] w fun e w' => e = .returned (.bool true) ∧ ∃ v' u', Both9 w' p q B v' u' (putB ps ⟨po, pl, pg, pp⟩) ∧ Turn10 p q v v' w w' := by
  subst hk
  obtain ⟨W, hW⟩ : ∃ z, z = w.alloc (.cells #[.int .i64 1, .int .i64 po, .int .i64 pl, .int .i64 pg, .int .i64 pp, .int .i64 sa, .int .i64 sb] 34) := ⟨_, rfl⟩
  have hbx : W.heap[w.heap.size]? = some (.cells #[.int .i64 1, .int .i64 po, .int .i64 pl, .int .i64 pg, .int .i64 pp, .int .i64 sa, .int .i64 sb] 34) := by rw [hW]; exact (MapKept.heap_alloc w _).1
  have hbel : Below w.heap.size w W := by rw [hW]; exact bel_newG _ _
  have HBD : Hid (Both9 W.drew p q B v u ps ∧ Below w.heap.size w W.drew) := ⟨(hb.below hbel).below (bel_drew W), bel_tr hbel (bel_drew W)⟩
  have HB : Hid (Both9 w p q B v u ps) := hb
  have hbd : W.drew.heap[w.heap.size]? = some (.cells #[.int .i64 1, .int .i64 po, .int .i64 pl, .int .i64 pg, .int .i64 pp, .int .i64 sa, .int .i64 sb] 34) := hbx
  have HP : Hid (Calls Try.prog 25 #[.pointer (some ⟨p, 0, none⟩), .agg #[.int .i64 po, .int .i64 pl, .int .i64 pg, .int .i64 pp]] W.drew fun e w' => e = .returned .nilIface ∧ ∃ v', EMap w' p B v' (putB ps ⟨po, pl, pg, pp⟩) ∧ Turn9 p v v' W.drew w') := eput_good p B po pl pg pp v ps W.drew HBD.out.1.em hg hl hx
  have HR : Hid (∀ X, RMap X q ps → Calls Try.prog 29 #[.pointer (some ⟨q, 0, none⟩), .agg #[.int .i64 po, .int .i64 pl, .int .i64 pg, .int .i64 pp]] X fun e w' => e = .returned (.int .i64 0) ∧ (∃ u, w'.heap[q]? = some (.cells #[u] 29) ∧ RowE pcE w' X.heap.size 32 u (putB ps (⟨po, pl, pg, pp⟩ : Pc))) ∧ Turn1 q X w') := fun X hX => rput_goodF q po pl pg pp ps X hX hl hg hx
  obtain ⟨b0, b1, b2, b3, b4, b5, b6⟩ := box9_of hbx
  have hap : w.heap.size ≠ p := fun e => by have := blk_lt hb.em.cell; omega
  have haq : w.heap.size ≠ q := fun e => by have := blk_lt hb.rc; omega
  have hav : v.ownBlock ≠ some w.heap.size := fun e => by have := row_lt hb.em.row e; omega
  clear hb hg hl hx hbx hbel
  go_enter Try.func10, Try.ntmps10
  go_upto_region 3 with fail
  rw [← hW]
  clear hW b0 b1 b2 b3 b4 b5 b6
  go_region_held3 (fun X => X.cell? ⟨w.heap.size, 1, none⟩ = some (.int .i64 po) ∧ X.cell? ⟨w.heap.size, 2, none⟩ = some (.int .i64 pl) ∧ X.cell? ⟨w.heap.size, 3, none⟩ = some (.int .i64 pg) ∧ X.cell? ⟨w.heap.size, 4, none⟩ = some (.int .i64 pp)) (first | exact ⟨(box9_of hbd).2.1, (box9_of hbd).2.2.1, (box9_of hbd).2.2.2.1, (box9_of hbd).2.2.2.2.1⟩ | exact ⟨(box9_of hb1).2.1, (box9_of hb1).2.2.1, (box9_of hb1).2.2.2.1, (box9_of hb1).2.2.2.2.1⟩ | exact ⟨(box9_of hb2).2.1, (box9_of hb2).2.2.1, (box9_of hb2).2.2.2.1, (box9_of hb2).2.2.2.2.1⟩)
    (first
      | (go_at_call 25; refine HP.out.mono ?_; rintro e w1 ⟨rfl, v1, hm1, ht1⟩; have hb1 : w1.heap[w.heap.size]? = some (.cells #[.int .i64 1, .int .i64 po, .int .i64 pl, .int .i64 pg, .int .i64 pp, .int .i64 sa, .int .i64 sb] 34) := (ht1.block w.heap.size (blk_lt hbd) hap hav).trans hbd)
      | (go_at_call 27; refine (code_nil _).mono ?_; rintro e w9 ⟨rfl, rfl⟩)
      | (go_at_call 29; refine (HR.out _ (HBD.out.1.rmap ht1)).mono ?_; rintro e w2 ⟨rfl, ⟨u2, hc2, hr2⟩, ht2⟩; have hb2 : w2.heap[w.heap.size]? = some (.cells #[.int .i64 1, .int .i64 po, .int .i64 pl, .int .i64 pg, .int .i64 pp, .int .i64 sa, .int .i64 sb] 34) := (ht2.block w.heap.size (blk_lt hb1) haq).trans hb1)
      | fail)
  have HEnd : Hid (Both9 w2 p q B v1 u2 (putB ps ⟨po, pl, pg, pp⟩) ∧ Turn10 p q v v1 w w2) := by
    obtain ⟨s1, s2⟩ := HBD.out.1.step hm1 ht1 hc2 hr2 ht2
    exact ⟨s1, (turn10_b HBD.out.2).trans s2⟩
  clear hm1 ht1 hc2 hr2 ht2 hb1 hb2
  go_wp2_with fail
  go_ret
  exact ⟨rfl, v1, u2, HEnd.out.1, HEnd.out.2⟩
end Go.Proofs.Ythdmclhccbjgoaa
