/- dolmenlaw10.does: a step on both books. -/
import Derived.Test.YtbkciencikdacaaLDoes0
import Derived.Deep.RegionHeld3
namespace Go.Proofs.Ytbkciencikdacaa
open Go.RowKit Kit
set_option linter.unusedVariables false

theorem bel_drewL (w : World) : Below w.heap.size w w.drew := (Below.refl _ w).drew
set_option maxRecDepth 4000 in
set_option maxHeartbeats 8000000 in
theorem does_birth (p q B C : Nat) (id ep : Int) (v iv sv : Value) (ps rs : List Th) (w : World) (hp : BookAt w p B v ps) (hr : RBook w q C iv sv rs) (ha : Asc ps) (ho : Once rs) (hl : ps.length ≤ 900) (hl2 : rs.length ≤ 900) :
    Calls Try.prog 10 #[.pointer (some ⟨p, 0, none⟩), .pointer (some ⟨q, 0, none⟩), .agg #[.int .i64 1, .int .i64 id, .int .i64 ep]] w fun e w' => e = .returned (.bool (okB ⟨1, id, ep⟩ ps == okB ⟨1, id, ep⟩ rs)) ∧ ∃ v' iv' sv', BookAt w' p B v' (stepP ⟨1, id, ep⟩ ps) ∧ RBook w' q C iv' sv' (stepR ⟨1, id, ep⟩ rs) ∧ TurnF (bfoot p q v iv sv) (bfoot p q v' iv' sv') w w' := by
  obtain ⟨W, hW⟩ : ∃ z, z = w.alloc (.cells #[.int .i64 1, .int .i64 id, .int .i64 ep] 35) := ⟨_, rfl⟩
  have hbx : W.heap[w.heap.size]? = some (.cells #[.int .i64 1, .int .i64 id, .int .i64 ep] 35) := by rw [hW]; exact (MapKept.heap_alloc w _).1
  have hbel : Below w.heap.size w W := by rw [hW]; exact bel_newG _ _
  have hbd : W.drew.heap[w.heap.size]? = some (.cells #[.int .i64 1, .int .i64 id, .int .i64 ep] 35) := hbx
  have HBD : Hid (BookAt W.drew p B v ps ∧ RBook W.drew q C iv sv rs ∧ Below w.heap.size w W.drew) := ⟨(hp.below hbel).below (bel_drewL W), RBk.below (RBk.below hr hbel) (bel_drewL W), bel_tr hbel (bel_drewL W)⟩
  obtain ⟨cP, hcP⟩ : ∃ z, z = okB ⟨1, id, ep⟩ ps := ⟨_, rfl⟩
  obtain ⟨cR, hcR⟩ : ∃ z, z = okB ⟨1, id, ep⟩ rs := ⟨_, rfl⟩
  have HP : Hid (Calls Try.prog 25 #[.pointer (some ⟨p, 0, none⟩), .int .i64 id, .int .i64 ep] W.drew fun e w' => e = .returned (errV cP) ∧ ∃ v', BookAt w' p B v' (stepP ⟨1, id, ep⟩ ps) ∧ TurnF (pfoot p v) (pfoot p v') W.drew w') := by rw [hcP]; exact fbirth_any p B v ps ⟨1, id, ep⟩ rfl W.drew HBD.out.1 ha hl
  have HR : Hid (∀ X, RBook X q C iv sv rs → Calls Try.prog 29 #[.pointer (some ⟨q, 0, none⟩), .int .i64 id, .int .i64 ep] X fun e w' => e = .returned (.int .i64 (codeI cR)) ∧ ∃ iv' sv', RBook w' q C iv' sv' (stepR ⟨1, id, ep⟩ rs) ∧ TurnF (rfoot q iv sv) (rfoot q iv' sv') X w') := fun X hX => by rw [hcR]; exact rbirth_any q C iv sv rs ⟨1, id, ep⟩ rfl X hX hl2
  have HC : Hid (∀ X, Calls Try.prog 27 #[errV cP] X fun e w' => e = .returned (.int .i64 (codeI cP)) ∧ w' = X) := fun X => codeV_any cP X
  rw [← hcP, ← hcR]
  have b0 : W.cell? ⟨w.heap.size, 0, none⟩ = some (.int .i64 1) := blk_cell hbx rfl
  have hap : ¬ pfoot p v w.heap.size := fun e => by have := hp.foot_lt _ e; omega
  have haq : ¬ rfoot q iv sv w.heap.size := fun e => by have := RBk.lt hr _ e; omega
  have HBX : Hid (W.drew.heap[w.heap.size]? = some (.cells #[.int .i64 1, .int .i64 id, .int .i64 ep] 35) ∧ ¬ pfoot p v w.heap.size ∧ ¬ rfoot q iv sv w.heap.size) := ⟨hbd, hap, haq⟩
  have d1 : W.drew.cell? ⟨w.heap.size, 1, none⟩ = some (.int .i64 id) := blk_cell hbd rfl
  have d2 : W.drew.cell? ⟨w.heap.size, 2, none⟩ = some (.int .i64 ep) := blk_cell hbd rfl
  clear hp hr ha ho hl hl2 hbx hbd hbel hap haq hcP hcR
  go_enter Try.func10, Try.ntmps10
  go_upto_region 1 with fail
  rw [← hW]
  clear hW
  go_upto_region 3 with fail
  clear b0
  go_region_held3 (fun X => X.cell? ⟨w.heap.size, 1, none⟩ = some (.int .i64 id) ∧ X.cell? ⟨w.heap.size, 2, none⟩ = some (.int .i64 ep)) (first | with_reducible exact ⟨d1, d2⟩ | with_reducible exact ⟨e1, e2⟩ | with_reducible exact ⟨g1, g2⟩ | fail)
    (first
      | (go_at_call 25; refine HP.out.mono ?_; rintro e w1 ⟨rfl, v1, hm1, ht1⟩; have hb1 : w1.heap[w.heap.size]? = some (.cells #[.int .i64 1, .int .i64 id, .int .i64 ep] 35) := ht1.kept HBX.out.1 HBX.out.2.1; have e1 : w1.cell? ⟨w.heap.size, 1, none⟩ = some (.int .i64 id) := blk_cell hb1 rfl; have e2 : w1.cell? ⟨w.heap.size, 2, none⟩ = some (.int .i64 ep) := blk_cell hb1 rfl; have HM1 : Hid (BookAt w1 p B v1 (stepP ⟨1, id, ep⟩ ps) ∧ TurnF (pfoot p v) (pfoot p v1) W.drew w1 ∧ w1.heap[w.heap.size]? = some (.cells #[.int .i64 1, .int .i64 id, .int .i64 ep] 35)) := ⟨hm1, ht1, hb1⟩; clear hm1 ht1 hb1)
      | (go_at_call 27; refine (HC.out _).mono ?_; rintro e w9 ⟨rfl, hw9⟩; subst w9)
      | (go_at_call 29; refine (HR.out _ (both_mid HBD.out.1 HBD.out.2.1 HM1.out.2.1)).mono ?_; rintro e w2 ⟨rfl, iv2, sv2, hm2, ht2⟩; have hb2 : w2.heap[w.heap.size]? = some (.cells #[.int .i64 1, .int .i64 id, .int .i64 ep] 35) := ht2.kept HM1.out.2.2 HBX.out.2.2; have g1 : w2.cell? ⟨w.heap.size, 1, none⟩ = some (.int .i64 id) := blk_cell hb2 rfl; have g2 : w2.cell? ⟨w.heap.size, 2, none⟩ = some (.int .i64 ep) := blk_cell hb2 rfl; have HM2 : Hid (RBook w2 q C iv2 sv2 (stepR ⟨1, id, ep⟩ rs) ∧ TurnF (rfoot q iv sv) (rfoot q iv2 sv2) w1 w2) := ⟨hm2, ht2⟩; clear hm2 ht2 hb2)
      | fail)
  have HEnd : Hid (BookAt w2 p B v1 (stepP ⟨1, id, ep⟩ ps) ∧ RBook w2 q C iv2 sv2 (stepR ⟨1, id, ep⟩ rs) ∧ TurnF (bfoot p q v iv sv) (bfoot p q v1 iv2 sv2) w w2) := by
    obtain ⟨s1, s2, s3⟩ := both_step HBD.out.1 HBD.out.2.1 HM1.out.1 HM1.out.2.1 HM2.out.1 HM2.out.2
    exact ⟨s1, s2, (turnF_below HBD.out.2.2).trans s3⟩
  have HCE : Hid ((codeI cP == codeI cR) = (cP == cR)) := codeI_eq cP cR
  clear HM1 HM2 HBX d1 d2 e1 e2 g1 g2
  go_wp2_with fail
  go_ret
  exact ⟨by rw [← HCE.out]; rfl, _, _, _, HEnd.out⟩
set_option maxRecDepth 4000 in
set_option maxHeartbeats 8000000 in
theorem does_death (p q B C : Nat) (id ep : Int) (v iv sv : Value) (ps rs : List Th) (w : World) (hp : BookAt w p B v ps) (hr : RBook w q C iv sv rs) (ha : Asc ps) (ho : Once rs) (hl : ps.length ≤ 900) (hl2 : rs.length ≤ 900) :
    Calls Try.prog 10 #[.pointer (some ⟨p, 0, none⟩), .pointer (some ⟨q, 0, none⟩), .agg #[.int .i64 2, .int .i64 id, .int .i64 ep]] w fun e w' => e = .returned (.bool (okB ⟨2, id, ep⟩ ps == okB ⟨2, id, ep⟩ rs)) ∧ ∃ v' iv' sv', BookAt w' p B v' (stepP ⟨2, id, ep⟩ ps) ∧ RBook w' q C iv' sv' (stepR ⟨2, id, ep⟩ rs) ∧ TurnF (bfoot p q v iv sv) (bfoot p q v' iv' sv') w w' := by
  obtain ⟨W, hW⟩ : ∃ z, z = w.alloc (.cells #[.int .i64 2, .int .i64 id, .int .i64 ep] 35) := ⟨_, rfl⟩
  have hbx : W.heap[w.heap.size]? = some (.cells #[.int .i64 2, .int .i64 id, .int .i64 ep] 35) := by rw [hW]; exact (MapKept.heap_alloc w _).1
  have hbel : Below w.heap.size w W := by rw [hW]; exact bel_newG _ _
  have hbd : W.drew.heap[w.heap.size]? = some (.cells #[.int .i64 2, .int .i64 id, .int .i64 ep] 35) := hbx
  have HBD : Hid (BookAt W.drew p B v ps ∧ RBook W.drew q C iv sv rs ∧ Below w.heap.size w W.drew) := ⟨(hp.below hbel).below (bel_drewL W), RBk.below (RBk.below hr hbel) (bel_drewL W), bel_tr hbel (bel_drewL W)⟩
  obtain ⟨cP, hcP⟩ : ∃ z, z = okB ⟨2, id, ep⟩ ps := ⟨_, rfl⟩
  obtain ⟨cR, hcR⟩ : ∃ z, z = okB ⟨2, id, ep⟩ rs := ⟨_, rfl⟩
  have HP : Hid (Calls Try.prog 26 #[.pointer (some ⟨p, 0, none⟩), .int .i64 id, .int .i64 ep] W.drew fun e w' => e = .returned (errV cP) ∧ ∃ v', BookAt w' p B v' (stepP ⟨2, id, ep⟩ ps) ∧ TurnF (pfoot p v) (pfoot p v') W.drew w') := by rw [hcP]; exact fdeath_any p B v ps ⟨2, id, ep⟩ rfl W.drew HBD.out.1 ha hl
  have HR : Hid (∀ X, RBook X q C iv sv rs → Calls Try.prog 30 #[.pointer (some ⟨q, 0, none⟩), .int .i64 id, .int .i64 ep] X fun e w' => e = .returned (.int .i64 (codeI cR)) ∧ ∃ iv' sv', RBook w' q C iv' sv' (stepR ⟨2, id, ep⟩ rs) ∧ TurnF (rfoot q iv sv) (rfoot q iv' sv') X w') := fun X hX => by rw [hcR]; exact rdeath_any q C iv sv rs ⟨2, id, ep⟩ rfl X hX ho hl2
  have HC : Hid (∀ X, Calls Try.prog 27 #[errV cP] X fun e w' => e = .returned (.int .i64 (codeI cP)) ∧ w' = X) := fun X => codeV_any cP X
  rw [← hcP, ← hcR]
  have b0 : W.cell? ⟨w.heap.size, 0, none⟩ = some (.int .i64 2) := blk_cell hbx rfl
  have hap : ¬ pfoot p v w.heap.size := fun e => by have := hp.foot_lt _ e; omega
  have haq : ¬ rfoot q iv sv w.heap.size := fun e => by have := RBk.lt hr _ e; omega
  have HBX : Hid (W.drew.heap[w.heap.size]? = some (.cells #[.int .i64 2, .int .i64 id, .int .i64 ep] 35) ∧ ¬ pfoot p v w.heap.size ∧ ¬ rfoot q iv sv w.heap.size) := ⟨hbd, hap, haq⟩
  have d1 : W.drew.cell? ⟨w.heap.size, 1, none⟩ = some (.int .i64 id) := blk_cell hbd rfl
  have d2 : W.drew.cell? ⟨w.heap.size, 2, none⟩ = some (.int .i64 ep) := blk_cell hbd rfl
  clear hp hr ha ho hl hl2 hbx hbd hbel hap haq hcP hcR
  go_enter Try.func10, Try.ntmps10
  go_upto_region 1 with fail
  rw [← hW]
  clear hW
  go_upto_region 5 with fail
  clear b0
  go_region_held3 (fun X => X.cell? ⟨w.heap.size, 1, none⟩ = some (.int .i64 id) ∧ X.cell? ⟨w.heap.size, 2, none⟩ = some (.int .i64 ep)) (first | with_reducible exact ⟨d1, d2⟩ | with_reducible exact ⟨e1, e2⟩ | with_reducible exact ⟨g1, g2⟩ | fail)
    (first
      | (go_at_call 26; refine HP.out.mono ?_; rintro e w1 ⟨rfl, v1, hm1, ht1⟩; have hb1 : w1.heap[w.heap.size]? = some (.cells #[.int .i64 2, .int .i64 id, .int .i64 ep] 35) := ht1.kept HBX.out.1 HBX.out.2.1; have e1 : w1.cell? ⟨w.heap.size, 1, none⟩ = some (.int .i64 id) := blk_cell hb1 rfl; have e2 : w1.cell? ⟨w.heap.size, 2, none⟩ = some (.int .i64 ep) := blk_cell hb1 rfl; have HM1 : Hid (BookAt w1 p B v1 (stepP ⟨2, id, ep⟩ ps) ∧ TurnF (pfoot p v) (pfoot p v1) W.drew w1 ∧ w1.heap[w.heap.size]? = some (.cells #[.int .i64 2, .int .i64 id, .int .i64 ep] 35)) := ⟨hm1, ht1, hb1⟩; clear hm1 ht1 hb1)
      | (go_at_call 27; refine (HC.out _).mono ?_; rintro e w9 ⟨rfl, hw9⟩; subst w9)
      | (go_at_call 30; refine (HR.out _ (both_mid HBD.out.1 HBD.out.2.1 HM1.out.2.1)).mono ?_; rintro e w2 ⟨rfl, iv2, sv2, hm2, ht2⟩; have hb2 : w2.heap[w.heap.size]? = some (.cells #[.int .i64 2, .int .i64 id, .int .i64 ep] 35) := ht2.kept HM1.out.2.2 HBX.out.2.2; have g1 : w2.cell? ⟨w.heap.size, 1, none⟩ = some (.int .i64 id) := blk_cell hb2 rfl; have g2 : w2.cell? ⟨w.heap.size, 2, none⟩ = some (.int .i64 ep) := blk_cell hb2 rfl; have HM2 : Hid (RBook w2 q C iv2 sv2 (stepR ⟨2, id, ep⟩ rs) ∧ TurnF (rfoot q iv sv) (rfoot q iv2 sv2) w1 w2) := ⟨hm2, ht2⟩; clear hm2 ht2 hb2)
      | fail)
  have HEnd : Hid (BookAt w2 p B v1 (stepP ⟨2, id, ep⟩ ps) ∧ RBook w2 q C iv2 sv2 (stepR ⟨2, id, ep⟩ rs) ∧ TurnF (bfoot p q v iv sv) (bfoot p q v1 iv2 sv2) w w2) := by
    obtain ⟨s1, s2, s3⟩ := both_step HBD.out.1 HBD.out.2.1 HM1.out.1 HM1.out.2.1 HM2.out.1 HM2.out.2
    exact ⟨s1, s2, (turnF_below HBD.out.2.2).trans s3⟩
  have HCE : Hid ((codeI cP == codeI cR) = (cP == cR)) := codeI_eq cP cR
  clear HM1 HM2 HBX d1 d2 e1 e2 g1 g2
  go_wp2_with fail
  go_ret
  exact ⟨by rw [← HCE.out]; rfl, _, _, _, HEnd.out⟩
set_option maxRecDepth 4000 in
set_option maxHeartbeats 8000000 in
theorem does_drop (p q B C : Nat) (id ep : Int) (v iv sv : Value) (ps rs : List Th) (w : World) (hp : BookAt w p B v ps) (hr : RBook w q C iv sv rs) (ha : Asc ps) (ho : Once rs) (hl : ps.length ≤ 900) (hl2 : rs.length ≤ 900) :
    Calls Try.prog 10 #[.pointer (some ⟨p, 0, none⟩), .pointer (some ⟨q, 0, none⟩), .agg #[.int .i64 3, .int .i64 id, .int .i64 ep]] w fun e w' => e = .returned (.bool (okB ⟨3, id, ep⟩ ps == okB ⟨3, id, ep⟩ rs)) ∧ ∃ v' iv' sv', BookAt w' p B v' (stepP ⟨3, id, ep⟩ ps) ∧ RBook w' q C iv' sv' (stepR ⟨3, id, ep⟩ rs) ∧ TurnF (bfoot p q v iv sv) (bfoot p q v' iv' sv') w w' := by
  obtain ⟨W, hW⟩ : ∃ z, z = w.alloc (.cells #[.int .i64 3, .int .i64 id, .int .i64 ep] 35) := ⟨_, rfl⟩
  have hbx : W.heap[w.heap.size]? = some (.cells #[.int .i64 3, .int .i64 id, .int .i64 ep] 35) := by rw [hW]; exact (MapKept.heap_alloc w _).1
  have hbel : Below w.heap.size w W := by rw [hW]; exact bel_newG _ _
  have hbd : W.drew.heap[w.heap.size]? = some (.cells #[.int .i64 3, .int .i64 id, .int .i64 ep] 35) := hbx
  have HBD : Hid (BookAt W.drew p B v ps ∧ RBook W.drew q C iv sv rs ∧ Below w.heap.size w W.drew) := ⟨(hp.below hbel).below (bel_drewL W), RBk.below (RBk.below hr hbel) (bel_drewL W), bel_tr hbel (bel_drewL W)⟩
  obtain ⟨cP, hcP⟩ : ∃ z, z = okB ⟨3, id, ep⟩ ps := ⟨_, rfl⟩
  obtain ⟨cR, hcR⟩ : ∃ z, z = okB ⟨3, id, ep⟩ rs := ⟨_, rfl⟩
  have HP : Hid (Calls Try.prog 28 #[.pointer (some ⟨p, 0, none⟩), .int .i64 id] W.drew fun e w' => e = .returned (errV cP) ∧ ∃ v', BookAt w' p B v' (stepP ⟨3, id, ep⟩ ps) ∧ TurnF (pfoot p v) (pfoot p v') W.drew w') := by rw [hcP]; exact fdrop_any p B v ps ⟨3, id, ep⟩ rfl W.drew HBD.out.1 ha hl
  have HR : Hid (∀ X, RBook X q C iv sv rs → Calls Try.prog 31 #[.pointer (some ⟨q, 0, none⟩), .int .i64 id] X fun e w' => e = .returned (.int .i64 (codeI cR)) ∧ ∃ iv' sv', RBook w' q C iv' sv' (stepR ⟨3, id, ep⟩ rs) ∧ TurnF (rfoot q iv sv) (rfoot q iv' sv') X w') := fun X hX => by rw [hcR]; exact rdrop_any q C iv sv rs ⟨3, id, ep⟩ rfl X hX ho hl2
  have HC : Hid (∀ X, Calls Try.prog 27 #[errV cP] X fun e w' => e = .returned (.int .i64 (codeI cP)) ∧ w' = X) := fun X => codeV_any cP X
  rw [← hcP, ← hcR]
  have b0 : W.cell? ⟨w.heap.size, 0, none⟩ = some (.int .i64 3) := blk_cell hbx rfl
  have hap : ¬ pfoot p v w.heap.size := fun e => by have := hp.foot_lt _ e; omega
  have haq : ¬ rfoot q iv sv w.heap.size := fun e => by have := RBk.lt hr _ e; omega
  have HBX : Hid (W.drew.heap[w.heap.size]? = some (.cells #[.int .i64 3, .int .i64 id, .int .i64 ep] 35) ∧ ¬ pfoot p v w.heap.size ∧ ¬ rfoot q iv sv w.heap.size) := ⟨hbd, hap, haq⟩
  have d1 : W.drew.cell? ⟨w.heap.size, 1, none⟩ = some (.int .i64 id) := blk_cell hbd rfl
  have d2 : W.drew.cell? ⟨w.heap.size, 2, none⟩ = some (.int .i64 ep) := blk_cell hbd rfl
  clear hp hr ha ho hl hl2 hbx hbd hbel hap haq hcP hcR
  go_enter Try.func10, Try.ntmps10
  go_upto_region 1 with fail
  rw [← hW]
  clear hW
  go_upto_region 7 with fail
  clear b0
  go_region_held3 (fun X => X.cell? ⟨w.heap.size, 1, none⟩ = some (.int .i64 id) ∧ X.cell? ⟨w.heap.size, 2, none⟩ = some (.int .i64 ep)) (first | with_reducible exact ⟨d1, d2⟩ | with_reducible exact ⟨e1, e2⟩ | with_reducible exact ⟨g1, g2⟩ | fail)
    (first
      | (go_at_call 28; refine HP.out.mono ?_; rintro e w1 ⟨rfl, v1, hm1, ht1⟩; have hb1 : w1.heap[w.heap.size]? = some (.cells #[.int .i64 3, .int .i64 id, .int .i64 ep] 35) := ht1.kept HBX.out.1 HBX.out.2.1; have e1 : w1.cell? ⟨w.heap.size, 1, none⟩ = some (.int .i64 id) := blk_cell hb1 rfl; have e2 : w1.cell? ⟨w.heap.size, 2, none⟩ = some (.int .i64 ep) := blk_cell hb1 rfl; have HM1 : Hid (BookAt w1 p B v1 (stepP ⟨3, id, ep⟩ ps) ∧ TurnF (pfoot p v) (pfoot p v1) W.drew w1 ∧ w1.heap[w.heap.size]? = some (.cells #[.int .i64 3, .int .i64 id, .int .i64 ep] 35)) := ⟨hm1, ht1, hb1⟩; clear hm1 ht1 hb1)
      | (go_at_call 27; refine (HC.out _).mono ?_; rintro e w9 ⟨rfl, hw9⟩; subst w9)
      | (go_at_call 31; refine (HR.out _ (both_mid HBD.out.1 HBD.out.2.1 HM1.out.2.1)).mono ?_; rintro e w2 ⟨rfl, iv2, sv2, hm2, ht2⟩; have hb2 : w2.heap[w.heap.size]? = some (.cells #[.int .i64 3, .int .i64 id, .int .i64 ep] 35) := ht2.kept HM1.out.2.2 HBX.out.2.2; have g1 : w2.cell? ⟨w.heap.size, 1, none⟩ = some (.int .i64 id) := blk_cell hb2 rfl; have g2 : w2.cell? ⟨w.heap.size, 2, none⟩ = some (.int .i64 ep) := blk_cell hb2 rfl; have HM2 : Hid (RBook w2 q C iv2 sv2 (stepR ⟨3, id, ep⟩ rs) ∧ TurnF (rfoot q iv sv) (rfoot q iv2 sv2) w1 w2) := ⟨hm2, ht2⟩; clear hm2 ht2 hb2)
      | fail)
  have HEnd : Hid (BookAt w2 p B v1 (stepP ⟨3, id, ep⟩ ps) ∧ RBook w2 q C iv2 sv2 (stepR ⟨3, id, ep⟩ rs) ∧ TurnF (bfoot p q v iv sv) (bfoot p q v1 iv2 sv2) w w2) := by
    obtain ⟨s1, s2, s3⟩ := both_step HBD.out.1 HBD.out.2.1 HM1.out.1 HM1.out.2.1 HM2.out.1 HM2.out.2
    exact ⟨s1, s2, (turnF_below HBD.out.2.2).trans s3⟩
  have HCE : Hid ((codeI cP == codeI cR) = (cP == cR)) := codeI_eq cP cR
  clear HM1 HM2 HBX d1 d2 e1 e2 g1 g2
  go_wp2_with fail
  go_ret
  exact ⟨by rw [← HCE.out]; rfl, _, _, _, HEnd.out⟩
set_option maxRecDepth 4000 in
theorem does_other (p q B C : Nat) (k id ep : Int) (v iv sv : Value) (ps rs : List Th) (w : World) (hp : BookAt w p B v ps) (hr : RBook w q C iv sv rs) (h1 : ¬ k = 1) (h2 : ¬ k = 2) (h3 : ¬ k = 3) :
    Calls Try.prog 10 #[.pointer (some ⟨p, 0, none⟩), .pointer (some ⟨q, 0, none⟩), .agg #[.int .i64 k, .int .i64 id, .int .i64 ep]] w fun e w' => e = .returned (.bool true) ∧ ∃ v' iv' sv', BookAt w' p B v' (stepP ⟨k, id, ep⟩ ps) ∧ RBook w' q C iv' sv' (stepR ⟨k, id, ep⟩ rs) ∧ TurnF (bfoot p q v iv sv) (bfoot p q v' iv' sv') w w' := by
  rw [stepP_other (s := ⟨k, id, ep⟩) h1 h2 h3, stepR_other (s := ⟨k, id, ep⟩) h1 h2 h3]
  have HB : Hid (BookAt w p B v ps ∧ RBook w q C iv sv rs) := ⟨hp, hr⟩
  clear hp hr
  go_enter Try.func10, Try.ntmps10
  go_wp2_with fail
  go_ret
  exact ⟨rfl, v, iv, sv, HB.out.1.below (bel_newG _ _), RBk.below HB.out.2 (bel_newG _ _), turnF_below (bel_newG _ _)⟩
/-- A step on both: what is told, what they become. -/
theorem ldoes_any (p q B C : Nat) (s : St) (v iv sv : Value) (ps rs : List Th) (w : World) (hp : BookAt w p B v ps) (hr : RBook w q C iv sv rs) (ha : Asc ps) (ho : Once rs) (hl : ps.length ≤ 900) (hl2 : rs.length ≤ 900) :
    Calls Try.prog 10 #[.pointer (some ⟨p, 0, none⟩), .pointer (some ⟨q, 0, none⟩), .agg (stE.c s).toArray] w fun e w' => ∃ b, e = .returned (.bool b) ∧ (okB s ps = okB s rs → b = true) ∧ ∃ v' iv' sv', BookAt w' p B v' (stepP s ps) ∧ RBook w' q C iv' sv' (stepR s rs) ∧ TurnF (bfoot p q v iv sv) (bfoot p q v' iv' sv') w w' := by
  obtain ⟨k, id, ep⟩ := s
  have key : ∀ {e : Ending} {w' : World} {b : Bool} {Q : Prop}, (okB ⟨k, id, ep⟩ ps = okB ⟨k, id, ep⟩ rs → b = true) → (e = .returned (.bool b) ∧ Q) → ∃ b, e = .returned (.bool b) ∧ (okB ⟨k, id, ep⟩ ps = okB ⟨k, id, ep⟩ rs → b = true) ∧ Q := fun h1 ⟨h2, h3⟩ => ⟨_, h2, h1, h3⟩
  by_cases h1 : k = 1
  · subst h1
    exact (does_birth p q B C id ep v iv sv ps rs w hp hr ha ho hl hl2).mono fun e w' h => key (w' := w') (fun h => by rw [h]; exact beq_self_eq_true _) h
  · by_cases h2 : k = 2
    · subst h2
      exact (does_death p q B C id ep v iv sv ps rs w hp hr ha ho hl hl2).mono fun e w' h => key (w' := w') (fun h => by rw [h]; exact beq_self_eq_true _) h
    · by_cases h3 : k = 3
      · subst h3
        exact (does_drop p q B C id ep v iv sv ps rs w hp hr ha ho hl hl2).mono fun e w' h => key (w' := w') (fun h => by rw [h]; exact beq_self_eq_true _) h
      · exact (does_other p q B C k id ep v iv sv ps rs w hp hr h1 h2 h3).mono fun e w' h => key (w' := w') (fun _ => rfl) h
end Go.Proofs.Ytbkciencikdacaa
