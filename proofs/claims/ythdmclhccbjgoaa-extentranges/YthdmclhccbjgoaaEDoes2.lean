/- dolmenlaw9.does: the other ways, and all. -/
import Derived.Test.YthdmclhccbjgoaaEDoes
namespace Go.Proofs.Ythdmclhccbjgoaa
open Go.RowKit Kit
set_option linter.unusedVariables false

set_option maxRecDepth 4000 in
set_option maxHeartbeats 8000000 in
theorem does_putbad (p q B : Nat) (k po pl pg pp sa sb : Int) (v u : Value) (ps : List Pc) (w : World) (hb : Both9 w p q B v u ps) (hg : Good9 ps) (hl : ps.length ≤ 900) (hk : k = 1) (hx : ¬ Put9 ⟨po, pl, pg, pp⟩) :
    Calls Try.prog 10 #[.pointer (some ⟨p, 0, none⟩), .pointer (some ⟨q, 0, none⟩), .agg #[.int .i64 k, .int .i64 po, .int .i64 pl, .int .i64 pg, .int .i64 pp, .int .i64 sa, .int .i64 sb]] w fun e w' => e = .returned (.bool true) ∧ ∃ v' u', Both9 w' p q B v' u' ps ∧ Turn10 p q v v' w w' := by
  subst hk
  obtain ⟨W, hW⟩ : ∃ z, z = w.alloc (.cells #[.int .i64 1, .int .i64 po, .int .i64 pl, .int .i64 pg, .int .i64 pp, .int .i64 sa, .int .i64 sb] 34) := ⟨_, rfl⟩
  have hbx : W.heap[w.heap.size]? = some (.cells #[.int .i64 1, .int .i64 po, .int .i64 pl, .int .i64 pg, .int .i64 pp, .int .i64 sa, .int .i64 sb] 34) := by rw [hW]; exact (MapKept.heap_alloc w _).1
  have hbel : Below w.heap.size w W := by rw [hW]; exact bel_newG _ _
  have HBD : Hid (Both9 W.drew p q B v u ps ∧ Below w.heap.size w W.drew) := ⟨(hb.below hbel).below (bel_drew W), bel_tr hbel (bel_drew W)⟩
  have HB : Hid (Both9 w p q B v u ps) := hb
  have hbd : W.drew.heap[w.heap.size]? = some (.cells #[.int .i64 1, .int .i64 po, .int .i64 pl, .int .i64 pg, .int .i64 pp, .int .i64 sa, .int .i64 sb] 34) := hbx
  obtain ⟨b0, b1, b2, b3, b4, b5, b6⟩ := box9_of hbx
  have hap : w.heap.size ≠ p := fun e => by have := blk_lt hb.em.cell; omega
  have haq : w.heap.size ≠ q := fun e => by have := blk_lt hb.rc; omega
  have hav : v.ownBlock ≠ some w.heap.size := fun e => by have := row_lt hb.em.row e; omega
  clear hb hg hl hbx hbel
  go_enter Try.func10, Try.ntmps10
  go_upto_region 3 with fail
  rw [← hW]
  clear hW b0 b1 b2 b3 b4 b5 b6
  go_region_held3 (fun X => X.cell? ⟨w.heap.size, 1, none⟩ = some (.int .i64 po) ∧ X.cell? ⟨w.heap.size, 2, none⟩ = some (.int .i64 pl) ∧ X.cell? ⟨w.heap.size, 3, none⟩ = some (.int .i64 pg) ∧ X.cell? ⟨w.heap.size, 4, none⟩ = some (.int .i64 pp)) (first | exact ⟨(box9_of hbd).2.1, (box9_of hbd).2.2.1, (box9_of hbd).2.2.2.1, (box9_of hbd).2.2.2.2.1⟩ | exact ⟨(box9_of hb1).2.1, (box9_of hb1).2.2.1, (box9_of hb1).2.2.2.1, (box9_of hb1).2.2.2.2.1⟩ | exact ⟨(box9_of hb2).2.1, (box9_of hb2).2.2.1, (box9_of hb2).2.2.2.1, (box9_of hb2).2.2.2.2.1⟩)
    (first
      | (go_at_call 25; refine (eput_bad p po pl pg pp _ hx).mono ?_; rintro e w1 ⟨rfl, hbe1⟩; have hb1 : w1.heap[w.heap.size]? = some (.cells #[.int .i64 1, .int .i64 po, .int .i64 pl, .int .i64 pg, .int .i64 pp, .int .i64 sa, .int .i64 sb] 34) := blk_below hbe1 hbd)
      | (go_at_call 27; refine (code_num 12 _ (by omega) (by omega)).mono ?_; rintro e w9 ⟨rfl, rfl⟩)
      | (go_at_call 29; refine (rput_bad q po pl pg pp _ hx).mono ?_; rintro e w2 ⟨rfl, hbe2⟩; have hb2 : w2.heap[w.heap.size]? = some (.cells #[.int .i64 1, .int .i64 po, .int .i64 pl, .int .i64 pg, .int .i64 pp, .int .i64 sa, .int .i64 sb] 34) := blk_below hbe2 hb1)
      | fail)
  have HEnd : Hid (Both9 w2 p q B v u ps ∧ Turn10 p q v v w w2) := ⟨(HBD.out.1.below hbe1).below hbe2, turn10_b (bel_tr HBD.out.2 (bel_tr hbe1 hbe2))⟩
  clear hbe1 hbe2 hb1 hb2
  go_wp2_with fail
  go_ret
  exact ⟨rfl, _, _, HEnd.out.1, HEnd.out.2⟩
set_option maxRecDepth 4000 in
set_option maxHeartbeats 8000000 in
theorem does_cutlt (p q B : Nat) (k po pl pg pp sa sb : Int) (v u : Value) (ps : List Pc) (w : World) (hb : Both9 w p q B v u ps) (hg : Good9 ps) (hl : ps.length ≤ 900) (hk : k = 2) (h0 : 0 ≤ sa) (h1 : sa < sb) (h2 : sb ≤ 4294967296) :
    Calls Try.prog 10 #[.pointer (some ⟨p, 0, none⟩), .pointer (some ⟨q, 0, none⟩), .agg #[.int .i64 k, .int .i64 po, .int .i64 pl, .int .i64 pg, .int .i64 pp, .int .i64 sa, .int .i64 sb]] w fun e w' => e = .returned (.bool true) ∧ ∃ v' u', Both9 w' p q B v' u' (cutB ps sa sb) ∧ Turn10 p q v v' w w' := by
  subst hk
  obtain ⟨W, hW⟩ : ∃ z, z = w.alloc (.cells #[.int .i64 2, .int .i64 po, .int .i64 pl, .int .i64 pg, .int .i64 pp, .int .i64 sa, .int .i64 sb] 34) := ⟨_, rfl⟩
  have hbx : W.heap[w.heap.size]? = some (.cells #[.int .i64 2, .int .i64 po, .int .i64 pl, .int .i64 pg, .int .i64 pp, .int .i64 sa, .int .i64 sb] 34) := by rw [hW]; exact (MapKept.heap_alloc w _).1
  have hbel : Below w.heap.size w W := by rw [hW]; exact bel_newG _ _
  have HBD : Hid (Both9 W.drew p q B v u ps ∧ Below w.heap.size w W.drew) := ⟨(hb.below hbel).below (bel_drew W), bel_tr hbel (bel_drew W)⟩
  have HB : Hid (Both9 w p q B v u ps) := hb
  have hbd : W.drew.heap[w.heap.size]? = some (.cells #[.int .i64 2, .int .i64 po, .int .i64 pl, .int .i64 pg, .int .i64 pp, .int .i64 sa, .int .i64 sb] 34) := hbx
  have HP : Hid (Calls Try.prog 24 #[.pointer (some ⟨p, 0, none⟩), .int .i64 sa, .int .i64 sb] W.drew fun e w' => e = .returned .nilIface ∧ ∃ v', EMap w' p B v' (cutB ps sa sb) ∧ Turn9 p v v' W.drew w') := ecut_good p B sa sb v ps W.drew HBD.out.1.em hg hl h0 (by omega) h2
  have HR : Hid (∀ X, RMap X q ps → Calls Try.prog 30 #[.pointer (some ⟨q, 0, none⟩), .int .i64 sa, .int .i64 sb] X fun e w' => e = .returned (.int .i64 0) ∧ (∃ u, w'.heap[q]? = some (.cells #[u] 29) ∧ RowE pcE w' X.heap.size 32 u (cutB ps sa sb)) ∧ Turn1 q X w') := fun X hX => rcut_lt q sa sb ps X hX hl hg h0 (by omega) h2 h1
  obtain ⟨b0, b1, b2, b3, b4, b5, b6⟩ := box9_of hbx
  have hap : w.heap.size ≠ p := fun e => by have := blk_lt hb.em.cell; omega
  have haq : w.heap.size ≠ q := fun e => by have := blk_lt hb.rc; omega
  have hav : v.ownBlock ≠ some w.heap.size := fun e => by have := row_lt hb.em.row e; omega
  clear hb hg hl hbx hbel
  go_enter Try.func10, Try.ntmps10
  go_upto_region 5 with fail
  rw [← hW]
  clear hW b0 b1 b2 b3 b4 b5 b6
  go_region_held3 (fun X => X.cell? ⟨w.heap.size, 5, none⟩ = some (.int .i64 sa) ∧ X.cell? ⟨w.heap.size, 6, none⟩ = some (.int .i64 sb)) (first | exact ⟨(box9_of hbd).2.2.2.2.2.1, (box9_of hbd).2.2.2.2.2.2⟩ | exact ⟨(box9_of hb1).2.2.2.2.2.1, (box9_of hb1).2.2.2.2.2.2⟩ | exact ⟨(box9_of hb2).2.2.2.2.2.1, (box9_of hb2).2.2.2.2.2.2⟩)
    (first
      | (go_at_call 24; refine HP.out.mono ?_; rintro e w1 ⟨rfl, v1, hm1, ht1⟩; have hb1 : w1.heap[w.heap.size]? = some (.cells #[.int .i64 2, .int .i64 po, .int .i64 pl, .int .i64 pg, .int .i64 pp, .int .i64 sa, .int .i64 sb] 34) := (ht1.block w.heap.size (blk_lt hbd) hap hav).trans hbd)
      | (go_at_call 27; refine (code_nil _).mono ?_; rintro e w9 ⟨rfl, rfl⟩)
      | (go_at_call 30; refine (HR.out _ (HBD.out.1.rmap ht1)).mono ?_; rintro e w2 ⟨rfl, ⟨u2, hc2, hr2⟩, ht2⟩; have hb2 : w2.heap[w.heap.size]? = some (.cells #[.int .i64 2, .int .i64 po, .int .i64 pl, .int .i64 pg, .int .i64 pp, .int .i64 sa, .int .i64 sb] 34) := (ht2.block w.heap.size (blk_lt hb1) haq).trans hb1)
      | fail)
  have HEnd : Hid (Both9 w2 p q B v1 u2 (cutB ps sa sb) ∧ Turn10 p q v v1 w w2) := by
    obtain ⟨s1, s2⟩ := HBD.out.1.step hm1 ht1 hc2 hr2 ht2
    exact ⟨s1, (turn10_b HBD.out.2).trans s2⟩
  clear hm1 ht1 hc2 hr2 ht2 hb1 hb2
  go_wp2_with fail
  go_ret
  exact ⟨rfl, _, _, HEnd.out.1, HEnd.out.2⟩
set_option maxRecDepth 4000 in
set_option maxHeartbeats 8000000 in
theorem does_cuteq (p q B : Nat) (k po pl pg pp sa sb : Int) (v u : Value) (ps : List Pc) (w : World) (hb : Both9 w p q B v u ps) (hg : Good9 ps) (hl : ps.length ≤ 900) (hk : k = 2) (h0 : 0 ≤ sa) (h1 : sb = sa) (h2 : sa ≤ 4294967296) :
    Calls Try.prog 10 #[.pointer (some ⟨p, 0, none⟩), .pointer (some ⟨q, 0, none⟩), .agg #[.int .i64 k, .int .i64 po, .int .i64 pl, .int .i64 pg, .int .i64 pp, .int .i64 sa, .int .i64 sb]] w fun e w' => e = .returned (.bool true) ∧ ∃ v' u', Both9 w' p q B v' u' ps ∧ Turn10 p q v v' w w' := by
  subst hk
  obtain ⟨W, hW⟩ : ∃ z, z = w.alloc (.cells #[.int .i64 2, .int .i64 po, .int .i64 pl, .int .i64 pg, .int .i64 pp, .int .i64 sa, .int .i64 sb] 34) := ⟨_, rfl⟩
  have hbx : W.heap[w.heap.size]? = some (.cells #[.int .i64 2, .int .i64 po, .int .i64 pl, .int .i64 pg, .int .i64 pp, .int .i64 sa, .int .i64 sb] 34) := by rw [hW]; exact (MapKept.heap_alloc w _).1
  have hbel : Below w.heap.size w W := by rw [hW]; exact bel_newG _ _
  have HBD : Hid (Both9 W.drew p q B v u ps ∧ Below w.heap.size w W.drew) := ⟨(hb.below hbel).below (bel_drew W), bel_tr hbel (bel_drew W)⟩
  have HB : Hid (Both9 w p q B v u ps) := hb
  have hbd : W.drew.heap[w.heap.size]? = some (.cells #[.int .i64 2, .int .i64 po, .int .i64 pl, .int .i64 pg, .int .i64 pp, .int .i64 sa, .int .i64 sb] 34) := hbx
  subst h1
  have HP : Hid (Calls Try.prog 24 #[.pointer (some ⟨p, 0, none⟩), .int .i64 sb, .int .i64 sb] W.drew fun e w' => e = .returned .nilIface ∧ ∃ v', EMap w' p B v' ps ∧ Turn9 p v v' W.drew w') := by
    have := ecut_good p B sb sb v ps W.drew HBD.out.1.em hg hl h0 (Int.le_refl _) h2
    rw [cut_nil9] at this
    exact this
  obtain ⟨b0, b1, b2, b3, b4, b5, b6⟩ := box9_of hbx
  have hap : w.heap.size ≠ p := fun e => by have := blk_lt hb.em.cell; omega
  have haq : w.heap.size ≠ q := fun e => by have := blk_lt hb.rc; omega
  have hav : v.ownBlock ≠ some w.heap.size := fun e => by have := row_lt hb.em.row e; omega
  clear hb hg hl hbx hbel
  go_enter Try.func10, Try.ntmps10
  go_upto_region 5 with fail
  rw [← hW]
  clear hW b0 b1 b2 b3 b4 b5 b6
  go_region_held3 (fun X => X.cell? ⟨w.heap.size, 5, none⟩ = some (.int .i64 sb) ∧ X.cell? ⟨w.heap.size, 6, none⟩ = some (.int .i64 sb)) (first | exact ⟨(box9_of hbd).2.2.2.2.2.1, (box9_of hbd).2.2.2.2.2.2⟩ | exact ⟨(box9_of hb1).2.2.2.2.2.1, (box9_of hb1).2.2.2.2.2.2⟩)
    (first
      | (go_at_call 24; refine HP.out.mono ?_; rintro e w1 ⟨rfl, v1, hm1, ht1⟩; have hb1 : w1.heap[w.heap.size]? = some (.cells #[.int .i64 2, .int .i64 po, .int .i64 pl, .int .i64 pg, .int .i64 pp, .int .i64 sb, .int .i64 sb] 34) := (ht1.block w.heap.size (blk_lt hbd) hap hav).trans hbd)
      | (go_at_call 27; refine (code_nil _).mono ?_; rintro e w9 ⟨rfl, rfl⟩)
      | (go_at_call 30; refine (rcut_eq q sb _ h0 h2).mono ?_; rintro e w2 ⟨rfl, rfl⟩)
      | fail)
  have HEnd := HBD.out.1.same hm1 ht1
  have HEnd : Hid (_ ∧ _) := ⟨HEnd.1, (turn10_b HBD.out.2).trans HEnd.2⟩
  clear hm1 ht1 hb1
  go_wp2_with fail
  go_ret
  exact ⟨rfl, _, _, HEnd.out.1, HEnd.out.2⟩
set_option maxRecDepth 4000 in
set_option maxHeartbeats 8000000 in
theorem does_cutbad (p q B : Nat) (k po pl pg pp sa sb : Int) (v u : Value) (ps : List Pc) (w : World) (hb : Both9 w p q B v u ps) (hg : Good9 ps) (hl : ps.length ≤ 900) (hk : k = 2) (hx : sa < 0 ∨ sb < sa ∨ 4294967296 < sb) :
    Calls Try.prog 10 #[.pointer (some ⟨p, 0, none⟩), .pointer (some ⟨q, 0, none⟩), .agg #[.int .i64 k, .int .i64 po, .int .i64 pl, .int .i64 pg, .int .i64 pp, .int .i64 sa, .int .i64 sb]] w fun e w' => e = .returned (.bool true) ∧ ∃ v' u', Both9 w' p q B v' u' ps ∧ Turn10 p q v v' w w' := by
  subst hk
  obtain ⟨W, hW⟩ : ∃ z, z = w.alloc (.cells #[.int .i64 2, .int .i64 po, .int .i64 pl, .int .i64 pg, .int .i64 pp, .int .i64 sa, .int .i64 sb] 34) := ⟨_, rfl⟩
  have hbx : W.heap[w.heap.size]? = some (.cells #[.int .i64 2, .int .i64 po, .int .i64 pl, .int .i64 pg, .int .i64 pp, .int .i64 sa, .int .i64 sb] 34) := by rw [hW]; exact (MapKept.heap_alloc w _).1
  have hbel : Below w.heap.size w W := by rw [hW]; exact bel_newG _ _
  have HBD : Hid (Both9 W.drew p q B v u ps ∧ Below w.heap.size w W.drew) := ⟨(hb.below hbel).below (bel_drew W), bel_tr hbel (bel_drew W)⟩
  have HB : Hid (Both9 w p q B v u ps) := hb
  have hbd : W.drew.heap[w.heap.size]? = some (.cells #[.int .i64 2, .int .i64 po, .int .i64 pl, .int .i64 pg, .int .i64 pp, .int .i64 sa, .int .i64 sb] 34) := hbx
  obtain ⟨b0, b1, b2, b3, b4, b5, b6⟩ := box9_of hbx
  have hap : w.heap.size ≠ p := fun e => by have := blk_lt hb.em.cell; omega
  have haq : w.heap.size ≠ q := fun e => by have := blk_lt hb.rc; omega
  have hav : v.ownBlock ≠ some w.heap.size := fun e => by have := row_lt hb.em.row e; omega
  clear hb hg hl hbx hbel
  go_enter Try.func10, Try.ntmps10
  go_upto_region 5 with fail
  rw [← hW]
  clear hW b0 b1 b2 b3 b4 b5 b6
  go_region_held3 (fun X => X.cell? ⟨w.heap.size, 5, none⟩ = some (.int .i64 sa) ∧ X.cell? ⟨w.heap.size, 6, none⟩ = some (.int .i64 sb)) (first | exact ⟨(box9_of hbd).2.2.2.2.2.1, (box9_of hbd).2.2.2.2.2.2⟩)
    (first
      | (go_at_call 24; refine (ecut_bad p sa sb _ hx).mono ?_; rintro e w1 ⟨rfl, rfl⟩)
      | (go_at_call 27; refine (code_num 12 _ (by omega) (by omega)).mono ?_; rintro e w9 ⟨rfl, rfl⟩)
      | (go_at_call 30; refine (rcut_bad q sa sb _ (by omega)).mono ?_; rintro e w2 ⟨rfl, rfl⟩)
      | fail)
  have HEnd : Hid (Both9 W.drew p q B v u ps ∧ Turn10 p q v v w W.drew) := ⟨HBD.out.1, turn10_b HBD.out.2⟩
  go_wp2_with fail
  go_ret
  exact ⟨rfl, _, _, HEnd.out.1, HEnd.out.2⟩
set_option maxRecDepth 4000 in
set_option maxHeartbeats 8000000 in
theorem does_other (p q B : Nat) (k po pl pg pp sa sb : Int) (v u : Value) (ps : List Pc) (w : World) (hb : Both9 w p q B v u ps) (h1 : ¬ k = 1) (h2 : ¬ k = 2) :
    Calls Try.prog 10 #[.pointer (some ⟨p, 0, none⟩), .pointer (some ⟨q, 0, none⟩), .agg #[.int .i64 k, .int .i64 po, .int .i64 pl, .int .i64 pg, .int .i64 pp, .int .i64 sa, .int .i64 sb]] w fun e w' => e = .returned (.bool true) ∧ ∃ v' u', Both9 w' p q B v' u' ps ∧ Turn10 p q v v' w w' := by
  have HB : Hid (Both9 w p q B v u ps) := hb
  clear hb
  go_enter Try.func10, Try.ntmps10
  go_wp2_with fail
  go_ret
  exact ⟨rfl, v, u, HB.out.below (bel_newG _ _), turn10_b (bel_newG _ _)⟩
theorem does9_any (p q B : Nat) (s : St9) (v u : Value) (ps : List Pc) (w : World) (hb : Both9 w p q B v u ps) (hg : Good9 ps) (hl : ps.length ≤ 900) :
    Calls Try.prog 10 #[.pointer (some ⟨p, 0, none⟩), .pointer (some ⟨q, 0, none⟩), .agg (stE.c s).toArray] w fun e w' => e = .returned (.bool true) ∧ ∃ v' u', Both9 w' p q B v' u' (stepB s ps) ∧ Turn10 p q v v' w w' := by
  obtain ⟨k, ⟨po, pl, pg, pp⟩, sa, sb⟩ := s
  unfold stepB
  simp only
  by_cases h1 : k = 1
  · rw [if_pos h1]
    by_cases hx : Put9 ⟨po, pl, pg, pp⟩
    · rw [if_pos hx]; exact does_put p q B k po pl pg pp sa sb v u ps w hb hg hl h1 hx
    · rw [if_neg hx]; exact does_putbad p q B k po pl pg pp sa sb v u ps w hb hg hl h1 hx
  · rw [if_neg h1]
    by_cases h2 : k = 2
    · rw [if_pos h2]
      by_cases hx : Cut9 sa sb
      · rw [if_pos hx]
        obtain ⟨c1, c2, c3⟩ := hx
        by_cases hab : sa < sb
        · exact does_cutlt p q B k po pl pg pp sa sb v u ps w hb hg hl h2 c1 hab c3
        · have he : sb = sa := by omega
          have hc : cutB ps sa sb = ps := by rw [he]; exact cut_nil9 ps sa
          rw [hc]
          exact does_cuteq p q B k po pl pg pp sa sb v u ps w hb hg hl h2 c1 he (by omega)
      · rw [if_neg hx]
        exact does_cutbad p q B k po pl pg pp sa sb v u ps w hb hg hl h2 (by unfold Cut9 at hx; omega)
    · rw [if_neg h2]
      exact does_other p q B k po pl pg pp sa sb v u ps w hb h1 h2
end Go.Proofs.Ythdmclhccbjgoaa
