/- dolmenlaw2.awake: what one call answers. -/
import Derived.Test.YtnnongchjbckpaaDoorSeal
import Derived.Lib.SlBytesConst
namespace Go.Proofs.YtnnongchjbckpaaDoor
open Go.ChangeShapes Go.WideShapes Go.ChangeAt Go.RowKit Kit
set_option linter.unusedVariables false

def nine : List Int := [49, 50, 51, 52, 53, 54, 55, 56, 57]
theorem nine_in : bytesIn nine := by unfold bytesIn nine; decide
theorem nine_of : ((cOf (natB nine) : Nat) : Int) = 3421780262 := by decide +kernel
theorem bel2 {w w1 w2 : World} (h : Below w.heap.size w w1) (k : Below w1.heap.size w1 w2) : Below w.heap.size w w2 := h.trans (k.mono h.size)

theorem view_marked (w : World) (k : IntKind) (e : TypeId) (zs : List Int) (fr : Nat × Nat) (H : Nat) (hH : w.heap.size = H) (hz : 0 < zs.length) (hm : zs.length ≤ maxLen) : Vw (H + 1) (w.alloc (.cells (zs.map (Value.int k)).toArray e fr)) k (.slice (some ⟨H, 0, none⟩) zs.length zs.length) zs := by
  subst hH
  refine .inr ⟨hz, w.heap.size, 0, _, rfl, Nat.le_refl _, hm, by omega, ?_⟩
  intro i hi
  rw [World.cell?_alloc_mark]
  simp [hi]
theorem conv_const {P : Program} (w : World) (t e : TypeId) (C : Array Value) (n c g : Nat) (hg : g = w.heap.size) (ht : P.underlying t = some (.slice e)) (he : P.underlying e = some (.int .u8)) :
    (convert t t (.slice (some ⟨g, 0, none⟩) n c)).run P (w.alloc (.cells C e)) = .ok (.slice (some ⟨g, 0, none⟩) n c) (w.alloc (.cells C e (C.size, C.size + 1))) := by
  subst hg; exact Lib.run_convert_bytes_const w t e C n c ht he
set_option maxRecDepth 4000 in
set_option maxHeartbeats 1000000 in
theorem awake_any (w : World) (hT : Tab w) : Calls Tryd.prog 8 #[] w fun e w' => e = .returned (.bool true) ∧ Below w.heap.size w w' := by
  have hp := hT.size
  have B1 : Hid (Below w.heap.size w ((newSum w).alloc (.cells (nine.map (Value.int .u8)).toArray 5 (9, 10)))) := (newSum_below w).alloc (by simp [newSum]) _
  have V : Hid (Vw (w.heap.size + 1 + 1) ((newSum w).alloc (.cells (nine.map (Value.int .u8)).toArray 5 (9, 10))) .u8 (.slice (some ⟨w.heap.size + 1, 0, none⟩) 9 9) nine) := view_marked (newSum w) .u8 5 nine _ (w.heap.size + 1) (by simp [newSum]) (by simp [nine]) (by simp [nine, maxLen])
  have S : Hid (SumIs ((newSum w).alloc (.cells (nine.map (Value.int .u8)).toArray 5 (9, 10))) w.heap.size 0) := (newSum_is w).grown (World.grownBy_alloc _ _ none) (by simp)
  have HT : Hid (Tab ((newSum w).alloc (.cells (nine.map (Value.int .u8)).toArray 5 (9, 10)))) := hT.below B1.out hp
  have kc := conv_const (P := Tryd.prog) (newSum w) 22 5 (nine.map (Value.int .u8)).toArray 9 9 (w.heap.size + 1) (by simp [newSum]) Tryd.underlying22 Tryd.underlying5
  simp only [newSum, nine, List.map_cons, List.map_nil] at kc
  clear hT
  go_enter Tryd.func8, Tryd.ntmps8
  go_wp2_with fail
  go_at_call 11
  refine (of_any _ nine _ ((newSum w).alloc (.cells (nine.map (Value.int .u8)).toArray 5 (9, 10))) V.out (by simp [newSum]) nine_in HT.out).mono ?_
  rintro e w' ⟨rfl, hb⟩
  rw [nine_of]
  have S2 : Hid (SumIs w' w.heap.size 0 ∧ Below w.heap.size w w') := ⟨S.out.below hb S.out.2.2, bel2 B1.out hb⟩
  clear hb
  go_wp2_with fail
  go_at_call 20
  refine (sum_any w.heap.size _ w' S2.out.1.1).mono ?_
  rintro e w2 ⟨rfl, h⟩
  have h := h.symm
  subst h
  go_wp2_with fail
  go_at_call 20
  refine (sum_nil w').mono ?_
  rintro e w2 ⟨rfl, h⟩
  have h := h.symm
  subst h
  go_wp2_with fail
  go_at_call 17
  refine (add_nil _ _).mono ?_
  rintro e w2 ⟨rfl, h⟩
  have S3 : Hid (Below w.heap.size w w2) := by rw [h]; exact S2.out.2.alloc S2.out.2.size _
  clear h
  go_wp2_with fail
  go_at_call 18
  refine (word_nil _ _).mono ?_
  rintro e w3 ⟨rfl, h⟩
  go_wp2
  go_ret
  exact ⟨rfl, bel2 S3.out h⟩
end Go.Proofs.YtnnongchjbckpaaDoor
