/- dolmenlaw11.does: a step on both tables. -/
import Derived.Test.YthjcmagionaepaaGreatKTab
import Derived.Deep.RegionHeld3
namespace Go.Proofs.YthjcmagionaepaaGreat
open Go.RowKit Kit
set_option linter.unusedVariables false
variable {T : World → Nat → Nat → (Nat → Prop) → Tb → Prop}
set_option maxRecDepth 4000 in
set_option maxHeartbeats 8000000 in
theorem does_add (K : TabK T) (p q B C : Nat) (F : Nat → Prop) (sv : Value) (t r : Tb) (name : ByteArray) (ino ep : Int) (ea : Option Addr) (n ec : Nat) (es : List Int) (w : World) (hp : T w p B F t) (hr : RTab w q C sv r.last r.rs) (hi : Inv t) (hl : t.rs.length ≤ 900) (hl2 : r.rs.length ≤ 900) (hnm : name.size ≤ 2000) :
    Calls Tryz.prog 11 #[.pointer (some ⟨p, 0, none⟩), .pointer (some ⟨q, 0, none⟩), .agg #[.int .i64 1, .string name, .int .i64 ino, .int .i64 ep, .slice ea n ec]] w fun e w' => e = .returned (.bool (addC t name ino ep == addC r name ino ep)) ∧ ∃ F' sv', T w' p B F' (addT t name ino ep) ∧ RTab w' q C sv' (addT r name ino ep).last (addT r name ino ep).rs ∧ TurnF (bfootT F q sv) (bfootT F' q sv') w w' := by
  obtain ⟨W, hW⟩ : ∃ z, z = w.alloc (.cells #[.int .i64 1, .string name, .int .i64 ino, .int .i64 ep, .slice ea n ec] 34) := ⟨_, rfl⟩
  have hbx : W.heap[w.heap.size]? = some (.cells #[.int .i64 1, .string name, .int .i64 ino, .int .i64 ep, .slice ea n ec] 34) := by rw [hW]; exact (MapKept.heap_alloc w _).1
  have hbel : Below w.heap.size w W := by rw [hW]; exact bel_newG _ _
  have hbd : W.drew.heap[w.heap.size]? = some (.cells #[.int .i64 1, .string name, .int .i64 ino, .int .i64 ep, .slice ea n ec] 34) := hbx
  have HBD : Hid (T W.drew p B F t ∧ RTab W.drew q C sv r.last r.rs ∧ Below w.heap.size w W.drew) := ⟨K.below (K.below hp hbel) (bel_drewL W), (hr.below hbel).below (bel_drewL W), bel_tr hbel (bel_drewL W)⟩
  obtain ⟨cP, hcP⟩ : ∃ z, z = addC t name ino ep := ⟨_, rfl⟩
  obtain ⟨cR, hcR⟩ : ∃ z, z = addC r name ino ep := ⟨_, rfl⟩
  obtain ⟨t', ht'⟩ : ∃ z, z = addT t name ino ep := ⟨_, rfl⟩
  obtain ⟨r', hr'⟩ : ∃ z, z = addT r name ino ep := ⟨_, rfl⟩
  have HP : Hid (Calls Tryz.prog 23 #[.pointer (some ⟨p, 0, none⟩), .string name, .int .i64 ino, .int .i64 ep] W.drew fun e w' => e = .returned (errV cP) ∧ ∃ F', T w' p B F' t' ∧ TurnF F F' W.drew w') := by rw [hcP, ht']; exact K.add name ino ep HBD.out.1 hi hl hnm
  have HR : Hid (∀ X, RTab X q C sv r.last r.rs → Calls Tryz.prog 27 #[.pointer (some ⟨q, 0, none⟩), .string name, .int .i64 ino, .int .i64 ep] X fun e w' => e = .returned (.int .i64 cR) ∧ ∃ sv', RTab w' q C sv' r'.last r'.rs ∧ TurnF (tfoot q sv) (tfoot q sv') X w') := fun X hX => by rw [hcR, hr']; exact radd_uni q C sv r name ino ep X hX hl2
  have HC : Hid (∀ X, Calls Tryz.prog 24 #[errV cP] X fun e w' => e = .returned (.int .i64 cP) ∧ w' = X) := fun X => codeV_any cP (by rw [hcP]; rcases addC_in t name ino ep with h | h | h <;> rw [h] <;> simp) X
  rw [← hcP, ← hcR, ← ht', ← hr']
  have b0 : W.cell? ⟨w.heap.size, 0, none⟩ = some (.int .i64 1) := blk_cell hbx rfl
  have HBX : Hid (W.drew.heap[w.heap.size]? = some (.cells #[.int .i64 1, .string name, .int .i64 ino, .int .i64 ep, .slice ea n ec] 34) ∧ ¬ F w.heap.size ∧ ¬ tfoot q sv w.heap.size) := ⟨hbd, fun e => by have := (K.lo hp _ e).2; omega, fun e => by have := rtab_lt hr _ e; omega⟩
  have d1 : W.drew.cell? ⟨w.heap.size, 1, none⟩ = some (.string name) := blk_cell hbd rfl
  have d2 : W.drew.cell? ⟨w.heap.size, 2, none⟩ = some (.int .i64 ino) := blk_cell hbd rfl
  have d3 : W.drew.cell? ⟨w.heap.size, 3, none⟩ = some (.int .i64 ep) := blk_cell hbd rfl
  clear hp hr hi hl hl2 hnm hbx hbd hbel hcP hcR ht' hr'
  go_enter Tryz.func11, Tryz.ntmps11
  go_upto_region 1 with fail
  rw [← hW]
  clear hW
  go_upto_region 3 with fail
  clear b0
  go_region_held3 (fun X => X.cell? ⟨w.heap.size, 1, none⟩ = some (.string name) ∧ X.cell? ⟨w.heap.size, 2, none⟩ = some (.int .i64 ino) ∧ X.cell? ⟨w.heap.size, 3, none⟩ = some (.int .i64 ep)) (first | with_reducible exact ⟨d1, d2, d3⟩ | with_reducible exact ⟨e1, e2, e3⟩ | with_reducible exact ⟨g1, g2, g3⟩ | fail)
    (first
      | (go_at_call 23; refine HP.out.mono ?_; rintro e w1 ⟨rfl, F1, hm1, ht1⟩; have hb1 : w1.heap[w.heap.size]? = some (.cells #[.int .i64 1, .string name, .int .i64 ino, .int .i64 ep, .slice ea n ec] 34) := ht1.kept HBX.out.1 HBX.out.2.1; have e1 : w1.cell? ⟨w.heap.size, 1, none⟩ = some (.string name) := blk_cell hb1 rfl; have e2 : w1.cell? ⟨w.heap.size, 2, none⟩ = some (.int .i64 ino) := blk_cell hb1 rfl; have e3 : w1.cell? ⟨w.heap.size, 3, none⟩ = some (.int .i64 ep) := blk_cell hb1 rfl; have HM1 : Hid (T w1 p B F1 t' ∧ TurnF F F1 W.drew w1 ∧ w1.heap[w.heap.size]? = some (.cells #[.int .i64 1, .string name, .int .i64 ino, .int .i64 ep, .slice ea n ec] 34)) := ⟨hm1, ht1, hb1⟩; clear hm1 ht1 hb1)
      | (go_at_call 24; refine (HC.out _).mono ?_; rintro e w9 ⟨rfl, hw9⟩; subst w9)
      | (go_at_call 27; refine (HR.out _ (K.mid HBD.out.1 HBD.out.2.1 HM1.out.2.1)).mono ?_; rintro e w2 ⟨rfl, sv2, hm2, ht2⟩; have hb2 : w2.heap[w.heap.size]? = some (.cells #[.int .i64 1, .string name, .int .i64 ino, .int .i64 ep, .slice ea n ec] 34) := ht2.kept HM1.out.2.2 HBX.out.2.2; have g1 : w2.cell? ⟨w.heap.size, 1, none⟩ = some (.string name) := blk_cell hb2 rfl; have g2 : w2.cell? ⟨w.heap.size, 2, none⟩ = some (.int .i64 ino) := blk_cell hb2 rfl; have g3 : w2.cell? ⟨w.heap.size, 3, none⟩ = some (.int .i64 ep) := blk_cell hb2 rfl; have HM2 : Hid (RTab w2 q C sv2 r'.last r'.rs ∧ TurnF (tfoot q sv) (tfoot q sv2) w1 w2) := ⟨hm2, ht2⟩; clear hm2 ht2 hb2)
      | fail)
  have HEnd : Hid (T w2 p B F1 t' ∧ RTab w2 q C sv2 r'.last r'.rs ∧ TurnF (bfootT F q sv) (bfootT F1 q sv2) w w2) := by
    obtain ⟨s1, s2, s3⟩ := K.both HBD.out.1 HBD.out.2.1 HM1.out.1 HM1.out.2.1 HM2.out.1 HM2.out.2
    exact ⟨s1, s2, (turnF_below HBD.out.2.2).trans s3⟩
  clear HM1 HM2 HBX d1 d2 d3 e1 e2 e3 g1 g2 g3
  go_wp2_with fail
  go_ret
  exact ⟨rfl, _, _, HEnd.out⟩
set_option maxRecDepth 4000 in
set_option maxHeartbeats 8000000 in
theorem does_rem (K : TabK T) (p q B C : Nat) (F : Nat → Prop) (sv : Value) (t r : Tb) (name : ByteArray) (ino ep : Int) (ea : Option Addr) (n ec : Nat) (es : List Int) (w : World) (hp : T w p B F t) (hr : RTab w q C sv r.last r.rs) (hi : Inv t) (hl : t.rs.length ≤ 900) (hl2 : r.rs.length ≤ 900) (hnm : name.size ≤ maxLen) :
    Calls Tryz.prog 11 #[.pointer (some ⟨p, 0, none⟩), .pointer (some ⟨q, 0, none⟩), .agg #[.int .i64 2, .string name, .int .i64 ino, .int .i64 ep, .slice ea n ec]] w fun e w' => e = .returned (.bool (remC t name ep == remC r name ep)) ∧ ∃ F' sv', T w' p B F' (remT t name ep) ∧ RTab w' q C sv' (remT r name ep).last (remT r name ep).rs ∧ TurnF (bfootT F q sv) (bfootT F' q sv') w w' := by
  obtain ⟨W, hW⟩ : ∃ z, z = w.alloc (.cells #[.int .i64 2, .string name, .int .i64 ino, .int .i64 ep, .slice ea n ec] 34) := ⟨_, rfl⟩
  have hbx : W.heap[w.heap.size]? = some (.cells #[.int .i64 2, .string name, .int .i64 ino, .int .i64 ep, .slice ea n ec] 34) := by rw [hW]; exact (MapKept.heap_alloc w _).1
  have hbel : Below w.heap.size w W := by rw [hW]; exact bel_newG _ _
  have hbd : W.drew.heap[w.heap.size]? = some (.cells #[.int .i64 2, .string name, .int .i64 ino, .int .i64 ep, .slice ea n ec] 34) := hbx
  have HBD : Hid (T W.drew p B F t ∧ RTab W.drew q C sv r.last r.rs ∧ Below w.heap.size w W.drew) := ⟨K.below (K.below hp hbel) (bel_drewL W), (hr.below hbel).below (bel_drewL W), bel_tr hbel (bel_drewL W)⟩
  obtain ⟨cP, hcP⟩ : ∃ z, z = remC t name ep := ⟨_, rfl⟩
  obtain ⟨cR, hcR⟩ : ∃ z, z = remC r name ep := ⟨_, rfl⟩
  obtain ⟨t', ht'⟩ : ∃ z, z = remT t name ep := ⟨_, rfl⟩
  obtain ⟨r', hr'⟩ : ∃ z, z = remT r name ep := ⟨_, rfl⟩
  have HP : Hid (Calls Tryz.prog 26 #[.pointer (some ⟨p, 0, none⟩), .string name, .int .i64 ep] W.drew fun e w' => e = .returned (errV cP) ∧ ∃ F', T w' p B F' t' ∧ TurnF F F' W.drew w') := by rw [hcP, ht']; exact K.rem name ep HBD.out.1 hi hl hnm
  have HR : Hid (∀ X, RTab X q C sv r.last r.rs → Calls Tryz.prog 28 #[.pointer (some ⟨q, 0, none⟩), .string name, .int .i64 ep] X fun e w' => e = .returned (.int .i64 cR) ∧ ∃ sv', RTab w' q C sv' r'.last r'.rs ∧ TurnF (tfoot q sv) (tfoot q sv') X w') := fun X hX => by rw [hcR, hr']; exact rremove_uni q C sv r name ep X hX hl2
  have HC : Hid (∀ X, Calls Tryz.prog 24 #[errV cP] X fun e w' => e = .returned (.int .i64 cP) ∧ w' = X) := fun X => codeV_any cP (by rw [hcP]; rcases remC_in t name ep with h | h | h <;> rw [h] <;> simp) X
  rw [← hcP, ← hcR, ← ht', ← hr']
  have b0 : W.cell? ⟨w.heap.size, 0, none⟩ = some (.int .i64 2) := blk_cell hbx rfl
  have HBX : Hid (W.drew.heap[w.heap.size]? = some (.cells #[.int .i64 2, .string name, .int .i64 ino, .int .i64 ep, .slice ea n ec] 34) ∧ ¬ F w.heap.size ∧ ¬ tfoot q sv w.heap.size) := ⟨hbd, fun e => by have := (K.lo hp _ e).2; omega, fun e => by have := rtab_lt hr _ e; omega⟩
  have d1 : W.drew.cell? ⟨w.heap.size, 1, none⟩ = some (.string name) := blk_cell hbd rfl
  have d3 : W.drew.cell? ⟨w.heap.size, 3, none⟩ = some (.int .i64 ep) := blk_cell hbd rfl
  clear hp hr hi hl hl2 hnm hbx hbd hbel hcP hcR ht' hr'
  go_enter Tryz.func11, Tryz.ntmps11
  go_upto_region 1 with fail
  rw [← hW]
  clear hW
  go_upto_region 5 with fail
  clear b0
  go_region_held3 (fun X => X.cell? ⟨w.heap.size, 1, none⟩ = some (.string name) ∧ X.cell? ⟨w.heap.size, 3, none⟩ = some (.int .i64 ep)) (first | with_reducible exact ⟨d1, d3⟩ | with_reducible exact ⟨e1, e3⟩ | with_reducible exact ⟨g1, g3⟩ | fail)
    (first
      | (go_at_call 26; refine HP.out.mono ?_; rintro e w1 ⟨rfl, F1, hm1, ht1⟩; have hb1 : w1.heap[w.heap.size]? = some (.cells #[.int .i64 2, .string name, .int .i64 ino, .int .i64 ep, .slice ea n ec] 34) := ht1.kept HBX.out.1 HBX.out.2.1; have e1 : w1.cell? ⟨w.heap.size, 1, none⟩ = some (.string name) := blk_cell hb1 rfl; have e3 : w1.cell? ⟨w.heap.size, 3, none⟩ = some (.int .i64 ep) := blk_cell hb1 rfl; have HM1 : Hid (T w1 p B F1 t' ∧ TurnF F F1 W.drew w1 ∧ w1.heap[w.heap.size]? = some (.cells #[.int .i64 2, .string name, .int .i64 ino, .int .i64 ep, .slice ea n ec] 34)) := ⟨hm1, ht1, hb1⟩; clear hm1 ht1 hb1)
      | (go_at_call 24; refine (HC.out _).mono ?_; rintro e w9 ⟨rfl, hw9⟩; subst w9)
      | (go_at_call 28; refine (HR.out _ (K.mid HBD.out.1 HBD.out.2.1 HM1.out.2.1)).mono ?_; rintro e w2 ⟨rfl, sv2, hm2, ht2⟩; have hb2 : w2.heap[w.heap.size]? = some (.cells #[.int .i64 2, .string name, .int .i64 ino, .int .i64 ep, .slice ea n ec] 34) := ht2.kept HM1.out.2.2 HBX.out.2.2; have g1 : w2.cell? ⟨w.heap.size, 1, none⟩ = some (.string name) := blk_cell hb2 rfl; have g3 : w2.cell? ⟨w.heap.size, 3, none⟩ = some (.int .i64 ep) := blk_cell hb2 rfl; have HM2 : Hid (RTab w2 q C sv2 r'.last r'.rs ∧ TurnF (tfoot q sv) (tfoot q sv2) w1 w2) := ⟨hm2, ht2⟩; clear hm2 ht2 hb2)
      | fail)
  have HEnd : Hid (T w2 p B F1 t' ∧ RTab w2 q C sv2 r'.last r'.rs ∧ TurnF (bfootT F q sv) (bfootT F1 q sv2) w w2) := by
    obtain ⟨s1, s2, s3⟩ := K.both HBD.out.1 HBD.out.2.1 HM1.out.1 HM1.out.2.1 HM2.out.1 HM2.out.2
    exact ⟨s1, s2, (turnF_below HBD.out.2.2).trans s3⟩
  clear HM1 HM2 HBX d1 d3 e1 e3 g1 g3
  go_wp2_with fail
  go_ret
  exact ⟨rfl, _, _, HEnd.out⟩
set_option maxRecDepth 4000 in
set_option maxHeartbeats 8000000 in
theorem does_clean (K : TabK T) (p q B C : Nat) (F : Nat → Prop) (sv : Value) (t r : Tb) (name : ByteArray) (ino ep : Int) (ea : Option Addr) (n ec : Nat) (es : List Int) (w : World) (hp : T w p B F t) (hr : RTab w q C sv r.last r.rs) (hi : Inv t) (hl : t.rs.length ≤ 900) (hl2 : r.rs.length ≤ 900) (hnm : name.size ≤ maxLen) (hes : es.length ≤ 2000) (w0 : World) (hw0 : Below w0.heap.size w0 w) (hF0 : w0.heap.size ≤ B) (hse0 : Sees w0 (.slice ea n ec) (iV es)) :
    Calls Tryz.prog 11 #[.pointer (some ⟨p, 0, none⟩), .pointer (some ⟨q, 0, none⟩), .agg #[.int .i64 3, .string name, .int .i64 ino, .int .i64 ep, .slice ea n ec]] w fun e w' => e = .returned (.bool (cleanN t es == cleanN r es)) ∧ ∃ F' sv', T w' p B F' (cleanT t es) ∧ RTab w' q C sv' (cleanT r es).last (cleanT r es).rs ∧ TurnF (bfootT F q sv) (bfootT F' q sv') w w' := by
  obtain ⟨W, hW⟩ : ∃ z, z = w.alloc (.cells #[.int .i64 3, .string name, .int .i64 ino, .int .i64 ep, .slice ea n ec] 34) := ⟨_, rfl⟩
  have hbx : W.heap[w.heap.size]? = some (.cells #[.int .i64 3, .string name, .int .i64 ino, .int .i64 ep, .slice ea n ec] 34) := by rw [hW]; exact (MapKept.heap_alloc w _).1
  have hbel : Below w.heap.size w W := by rw [hW]; exact bel_newG _ _
  have hbd : W.drew.heap[w.heap.size]? = some (.cells #[.int .i64 3, .string name, .int .i64 ino, .int .i64 ep, .slice ea n ec] 34) := hbx
  have HBD : Hid (T W.drew p B F t ∧ RTab W.drew q C sv r.last r.rs ∧ Below w.heap.size w W.drew) := ⟨K.below (K.below hp hbel) (bel_drewL W), (hr.below hbel).below (bel_drewL W), bel_tr hbel (bel_drewL W)⟩
  obtain ⟨cP, hcP⟩ : ∃ z, z = cleanN t es := ⟨_, rfl⟩
  obtain ⟨cR, hcR⟩ : ∃ z, z = cleanN r es := ⟨_, rfl⟩
  obtain ⟨t', ht'⟩ : ∃ z, z = cleanT t es := ⟨_, rfl⟩
  obtain ⟨r', hr'⟩ : ∃ z, z = cleanT r es := ⟨_, rfl⟩
  have hesW : Sees W.drew (.slice ea n ec) (iV es) := hse0.below ((hw0.trans (hbel.mono hw0.size)).trans ((bel_drewL W).mono (Nat.le_trans hw0.size hbel.size)))
  have HSE : Hid (∀ X F', TurnF F F' W.drew X → Sees X (.slice ea n ec) (iV es)) := fun X F' ht => hse0.below (ht.below ((hw0.trans (hbel.mono hw0.size)).trans ((bel_drewL W).mono (Nat.le_trans hw0.size hbel.size))) (Nat.le_trans hw0.size HBD.out.2.2.size) fun k hk => Nat.le_trans hF0 (K.lo hp k hk).1)
  have HP : Hid (Calls Tryz.prog 21 #[.pointer (some ⟨p, 0, none⟩), .slice ea n ec] W.drew fun e w' => e = .returned (.int .i64 cP) ∧ ∃ F', T w' p B F' t' ∧ TurnF F F' W.drew w') := by rw [hcP, ht']; exact K.clean (.slice ea n ec) es HBD.out.1 hi hl hesW hes
  have HR : Hid (∀ X, RTab X q C sv r.last r.rs → Sees X (.slice ea n ec) (iV es) → Calls Tryz.prog 29 #[.pointer (some ⟨q, 0, none⟩), .slice ea n ec] X fun e w' => e = .returned (.int .i64 cR) ∧ ∃ sv', RTab w' q C sv' r'.last r'.rs ∧ TurnF (tfoot q sv) (tfoot q sv') X w') := fun X hX hse => by rw [hcR, hr']; exact rclean_uni q C sv (.slice ea n ec) r es X hX hl2 hse
  rw [← hcP, ← hcR, ← ht', ← hr']
  have b0 : W.cell? ⟨w.heap.size, 0, none⟩ = some (.int .i64 3) := blk_cell hbx rfl
  have HBX : Hid (W.drew.heap[w.heap.size]? = some (.cells #[.int .i64 3, .string name, .int .i64 ino, .int .i64 ep, .slice ea n ec] 34) ∧ ¬ F w.heap.size ∧ ¬ tfoot q sv w.heap.size) := ⟨hbd, fun e => by have := (K.lo hp _ e).2; omega, fun e => by have := rtab_lt hr _ e; omega⟩
  have d4 : W.drew.cell? ⟨w.heap.size, 4, none⟩ = some (.slice ea n ec) := blk_cell hbd rfl
  clear hp hr hi hl hl2 hnm hes hbx hbd hbel hcP hcR ht' hr' hw0 hF0 hse0 hesW
  go_enter Tryz.func11, Tryz.ntmps11
  go_upto_region 1 with fail
  rw [← hW]
  clear hW
  go_upto_region 7 with fail
  clear b0
  go_region_held3 (fun X => X.cell? ⟨w.heap.size, 4, none⟩ = some (.slice ea n ec)) (first | with_reducible exact d4 | with_reducible exact e4 | with_reducible exact g4 | fail)
    (first
      | (go_at_call 21; refine HP.out.mono ?_; rintro e w1 ⟨rfl, F1, hm1, ht1⟩; have hb1 : w1.heap[w.heap.size]? = some (.cells #[.int .i64 3, .string name, .int .i64 ino, .int .i64 ep, .slice ea n ec] 34) := ht1.kept HBX.out.1 HBX.out.2.1; have e4 : w1.cell? ⟨w.heap.size, 4, none⟩ = some (.slice ea n ec) := blk_cell hb1 rfl; have HM1 : Hid (T w1 p B F1 t' ∧ TurnF F F1 W.drew w1 ∧ w1.heap[w.heap.size]? = some (.cells #[.int .i64 3, .string name, .int .i64 ino, .int .i64 ep, .slice ea n ec] 34)) := ⟨hm1, ht1, hb1⟩; clear hm1 ht1 hb1)
      | (go_at_call 29; refine (HR.out _ (K.mid HBD.out.1 HBD.out.2.1 HM1.out.2.1) (HSE.out _ _ HM1.out.2.1)).mono ?_; rintro e w2 ⟨rfl, sv2, hm2, ht2⟩; have hb2 : w2.heap[w.heap.size]? = some (.cells #[.int .i64 3, .string name, .int .i64 ino, .int .i64 ep, .slice ea n ec] 34) := ht2.kept HM1.out.2.2 HBX.out.2.2; have g4 : w2.cell? ⟨w.heap.size, 4, none⟩ = some (.slice ea n ec) := blk_cell hb2 rfl; have HM2 : Hid (RTab w2 q C sv2 r'.last r'.rs ∧ TurnF (tfoot q sv) (tfoot q sv2) w1 w2) := ⟨hm2, ht2⟩; clear hm2 ht2 hb2)
      | fail)
  have HEnd : Hid (T w2 p B F1 t' ∧ RTab w2 q C sv2 r'.last r'.rs ∧ TurnF (bfootT F q sv) (bfootT F1 q sv2) w w2) := by
    obtain ⟨s1, s2, s3⟩ := K.both HBD.out.1 HBD.out.2.1 HM1.out.1 HM1.out.2.1 HM2.out.1 HM2.out.2
    exact ⟨s1, s2, (turnF_below HBD.out.2.2).trans s3⟩
  clear HM1 HM2 HBX d4 e4 g4
  go_wp2_with fail
  go_ret
  exact ⟨rfl, _, _, HEnd.out⟩
set_option maxRecDepth 4000 in
theorem does_other (K : TabK T) (p q B C : Nat) (F : Nat → Prop) (sv : Value) (t r : Tb) (k : Int) (name : ByteArray) (ino ep : Int) (ea : Option Addr) (n ec : Nat) (w : World) (hp : T w p B F t) (hr : RTab w q C sv r.last r.rs) (h1 : ¬ k = 1) (h2 : ¬ k = 2) (h3 : ¬ k = 3) :
    Calls Tryz.prog 11 #[.pointer (some ⟨p, 0, none⟩), .pointer (some ⟨q, 0, none⟩), .agg #[.int .i64 k, .string name, .int .i64 ino, .int .i64 ep, .slice ea n ec]] w fun e w' => e = .returned (.bool true) ∧ T w' p B F t ∧ RTab w' q C sv r.last r.rs ∧ TurnF (bfootT F q sv) (bfootT F q sv) w w' := by
  have HB : Hid (T w p B F t ∧ RTab w q C sv r.last r.rs) := ⟨hp, hr⟩
  clear hp hr
  go_enter Tryz.func11, Tryz.ntmps11
  go_wp2_with fail
  go_ret
  exact ⟨rfl, K.below HB.out.1 (bel_newG _ _), HB.out.2.below (bel_newG _ _), turnF_below (bel_newG _ _)⟩
/-- A step on both: what is told, what they become. -/
theorem does_any (K : TabK T) (p q B C : Nat) (F : Nat → Prop) (sv : Value) (t r : Tb) (s : Ts) (ea : Option Addr) (ec : Nat) (w : World) (hp : T w p B F t) (hr : RTab w q C sv r.last r.rs) (hi : Inv t) (hl : t.rs.length ≤ 900) (hl2 : r.rs.length ≤ 900) (w0 : World) (hw0 : Below w0.heap.size w0 w) (hF0 : w0.heap.size ≤ B) (hf : TsFit w0 s ea ec) (hsz : s.name.size ≤ 2000 ∧ s.es.length ≤ 2000) :
    Calls Tryz.prog 11 #[.pointer (some ⟨p, 0, none⟩), .pointer (some ⟨q, 0, none⟩), .agg #[.int .i64 s.kind, .string s.name, .int .i64 s.ino, .int .i64 s.ep, .slice ea s.es.length ec]] w fun e w' => ∃ b, e = .returned (.bool b) ∧ (t = r → b = true) ∧ ∃ F' sv', T w' p B F' (stepT t s) ∧ RTab w' q C sv' (stepT r s).last (stepT r s).rs ∧ TurnF (bfootT F q sv) (bfootT F' q sv') w w' := by
  obtain ⟨k, name, ino, ep, es⟩ := s
  by_cases h1 : k = 1
  · subst h1
    rw [step_add (t := t) (s := ⟨1, name, ino, ep, es⟩) rfl, step_add (t := r) (s := ⟨1, name, ino, ep, es⟩) rfl]
    exact (does_add K p q B C F sv t r name ino ep ea es.length ec es w hp hr hi hl hl2 hsz.1).mono fun e w' ⟨a, b⟩ => ⟨_, a, fun h => by rw [h]; exact beq_self_eq_true _, b⟩
  · by_cases h2 : k = 2
    · subst h2
      rw [step_rem (t := t) (s := ⟨2, name, ino, ep, es⟩) rfl, step_rem (t := r) (s := ⟨2, name, ino, ep, es⟩) rfl]
      exact (does_rem K p q B C F sv t r name ino ep ea es.length ec es w hp hr hi hl hl2 hf.2.1).mono fun e w' ⟨a, b⟩ => ⟨_, a, fun h => by rw [h]; exact beq_self_eq_true _, b⟩
    · by_cases h3 : k = 3
      · subst h3
        rw [step_clean (t := t) (s := ⟨3, name, ino, ep, es⟩) rfl, step_clean (t := r) (s := ⟨3, name, ino, ep, es⟩) rfl]
        exact (does_clean K p q B C F sv t r name ino ep ea es.length ec es w hp hr hi hl hl2 hf.2.1 hsz.2 w0 hw0 hF0 hf.1).mono fun e w' ⟨a, b⟩ => ⟨_, a, fun h => by rw [h]; exact beq_self_eq_true _, b⟩
      · rw [step_none (t := t) (s := ⟨k, name, ino, ep, es⟩) h1 h2 h3, step_none (t := r) (s := ⟨k, name, ino, ep, es⟩) h1 h2 h3]
        exact (does_other K p q B C F sv t r k name ino ep ea es.length ec w hp hr h1 h2 h3).mono fun e w' ⟨a, b⟩ => ⟨_, a, fun _ => rfl, F, sv, b⟩
end Go.Proofs.YthjcmagionaepaaGreat
