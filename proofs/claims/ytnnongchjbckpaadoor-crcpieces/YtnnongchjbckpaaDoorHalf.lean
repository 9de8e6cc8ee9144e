/- (*crc.Sum).half, (*crc.Sum).Word: what one call answers. -/
import Derived.Test.YtnnongchjbckpaaDoorAdd
namespace Go.Proofs.YtnnongchjbckpaaDoor
open Go.ChangeShapes Go.WideShapes Go.ChangeAt Go.RowKit Kit
set_option linter.unusedVariables false

/-- A literal of integers, new. -/
theorem view_lit (w : World) (k : IntKind) (e : TypeId) (zs : List Int) (H : Nat) (hH : w.heap.size = H) (hz : 0 < zs.length) (hm : zs.length ≤ maxLen) : Vw (H + 1) (w.alloc (.cells (zs.map (Value.int k)).toArray e)) k (.slice (some ⟨H, 0, none⟩) zs.length zs.length) zs := by
  subst hH
  refine .inr ⟨hz, w.heap.size, 0, _, rfl, Nat.le_refl _, hm, by omega, ?_⟩
  intro i hi
  simp [hi]
theorem grown_set {w0 w : World} {p : Nat} (h : w0.grownBy w (some p)) (a : Addr) (ha : a.block = p) (u : Value) : w0.grownBy (w.setCell a u) (some p) :=
  ⟨h.os, h.tape, h.output, by simpa [World.setCell] using h.size, fun k hk hne => by
    rw [Below.heap_setCell _ _ _ _ (by intro e; subst e; exact hne (by rw [ha]))]; exact h.block k hk hne⟩
theorem grown_trans {a b c : World} {row : Option Nat} (h : a.grownBy b row) (k : b.grownBy c row) : a.grownBy c row :=
  ⟨k.os.trans h.os, k.tape.trans h.tape, k.output.trans h.output, Nat.le_trans h.size k.size, fun i hi hne => (k.block i (Nat.lt_of_lt_of_le hi h.size) hne).trans (h.block i hi hne)⟩
/-- A Sum lies at block p, and holds t. -/
def SumIs (w : World) (p t : Nat) : Prop := w.cell? ⟨p, 0, none⟩ = some (.int .u32 (t : Int)) ∧ w.frozen? ⟨p, 0, none⟩ = false ∧ p < w.heap.size
theorem SumIs.grown {w w' : World} {p t : Nat} {row : Option Nat} (h : SumIs w p t) (hg : w.grownBy w' row) (hr : some p ≠ row) : SumIs w' p t :=
  ⟨hg.cell h.1 hr, by rw [World.frozen?_of_block (w := w) (hg.block p h.2.2 hr)]; exact h.2.1, Nat.lt_of_lt_of_le h.2.2 hg.size⟩
theorem SumIs.below {w w' : World} {p t B : Nat} (h : SumIs w p t) (hb : Below B w w') (hB : p < B) : SumIs w' p t :=
  ⟨(hb.cell (by exact hB)).trans h.1, (hb.frozen (by exact hB)).trans h.2.1, Nat.lt_of_lt_of_le h.2.2 hb.size⟩
theorem SumIs.set {w : World} {p t : Nat} (h : SumIs w p t) (u : Nat) : SumIs (w.setCell ⟨p, 0, none⟩ (.int .u32 (u : Int))) p u := by
  obtain ⟨h1, h2, h3⟩ := h
  refine ⟨?_, ?_, by simpa [World.setCell] using h3⟩
  · exact World.cell?_setCell_same _ _ _ h1
  · rw [World.frozen?_setCell]; exact h2
theorem Tab.grown {w w' : World} {p : Nat} (h : Tab w) (hg : w.grownBy w' (some p)) (hp : 0 < p) : Tab w' := fun i hi => hg.cell (h i hi) (by simp; omega)
theorem Tab.size {w : World} (h : Tab w) : 0 < w.heap.size := cell_lt (h 0 (by omega))

def lay4 (h : Int) : List Int := [h % 256, h / 256 % 256, h / 65536 % 256, h / 16777216 % 256]
theorem lay4_in (h : Int) : bytesIn (lay4 h) := by
  intro z hz
  simp only [lay4, List.mem_cons, List.not_mem_nil, or_false] at hz
  rcases hz with rfl | rfl | rfl | rfl <;> omega
theorem lay4_nat (h : Nat) : natB (lay4 (h : Int)) = layN 4 h := by
  simp only [natB, lay4, layN, List.map_cons, List.map_nil, List.cons.injEq, and_true]
  refine ⟨?_, ?_, ?_, ?_⟩ <;> omega

theorem nilPost {w w' : World} (h : w' = w) : Below w.heap.size w w' := by subst h; exact Below.refl _ _
set_option maxRecDepth 4000 in
set_option maxHeartbeats 1000000 in
theorem half_any (p t : Nat) (ht : Hid (t < 4294967296)) (x : Int) (h : Nat) (hx : Hid (x = (h : Int))) (w : World) (hs : SumIs w p t) (hT : Tab w) (hp : 0 < p) :
    Calls Tryd.prog 22 #[.pointer (some ⟨p, 0, none⟩), .int .u32 x] w fun e w' => e = .returned (.pointer (some ⟨p, 0, none⟩)) ∧ SumIs w' p (sumN t (layN 4 h)) ∧ w.grownBy w' (some p) := by
  have hx2 := hx.out
  clear hx
  subst hx2
  have HT : Hid (Tab w) := hT
  have HS : Hid (SumIs w p t) := hs
  clear hT hs
  have G : Hid (w.grownBy (w.alloc (.cells ((lay4 (h : Int)).map (Value.int .u8)).toArray 5)) (some p)) := World.grownBy_alloc w _ _
  have S1 : Hid (SumIs (w.alloc (.cells ((lay4 (h : Int)).map (Value.int .u8)).toArray 5)) p t) := HS.out.grown (World.grownBy_alloc w _ none) (by simp)
  have V : Hid (Vw (w.heap.size + 1) (w.alloc (.cells ((lay4 (h : Int)).map (Value.int .u8)).toArray 5)) .u8 (.slice (some ⟨w.heap.size, 0, none⟩) 4 4) (lay4 (h : Int))) := view_lit w .u8 5 (lay4 (h : Int)) _ rfl (by simp [lay4]) (by simp [lay4, maxLen])
  have E : Hid (sumN t (natB (lay4 (h : Int))) = sumN t (layN 4 h)) := by show _ = _; rw [lay4_nat]
  go_enter Tryd.func22, Tryd.ntmps22
  go_wp2_with (go_at_call 17; refine (add_any p t ht _ (lay4 (h : Int)) _ _ V.out (lay4_in _) S1.out.1 S1.out.2.1 (HT.out.grown G.out hp)).mono ?_; rintro e w' ⟨rfl, hw⟩)
  go_ret
  refine ⟨rfl, ?_, ?_⟩
  · rw [← E.out]; exact S1.out.set _
  · exact grown_set G.out _ rfl _
set_option maxHeartbeats 1000000 in
theorem half_nil (x : Int) (w : World) : Calls Tryd.prog 22 #[.pointer none, .int .u32 x] w fun e w' => e = .returned (.pointer none) ∧ Below w.heap.size w w' := by
  go_enter Tryd.func22, Tryd.ntmps22
  go_wp2_with (go_at_call 17; refine (add_nil _ _).mono ?_; rintro e w' ⟨rfl, hw⟩)
  go_ret
  refine ⟨rfl, ?_⟩
  exact (Below.refl _ _).alloc (Nat.le_refl _) _

def lo32 (v : Nat) : Nat := v % 4294967296
def hi32 (v : Nat) : Nat := v / 4294967296 % 4294967296
theorem lay8 (v : Nat) : layN 8 v = layN 4 (lo32 v) ++ layN 4 (hi32 v) := by
  unfold lo32 hi32
  simp only [layN, List.cons_append, List.nil_append, List.cons.injEq, and_true]
  refine ⟨?_, ?_, ?_, ?_, ?_, ?_, ?_, ?_⟩ <;> omega
theorem lo32_int (v : Nat) : (v : Int) % 4294967296 = ((lo32 v : Nat) : Int) := by unfold lo32; omega
theorem hi32_int (v : Nat) : (v : Int) / 4294967296 % 4294967296 = ((hi32 v : Nat) : Int) := by unfold hi32; omega
theorem sum_lay8 (t v : Nat) : sumN (sumN t (layN 4 (lo32 v))) (layN 4 (hi32 v)) = sumN t (layN 8 v) := by rw [lay8, sumN_append]
theorem sum_lay (t : Nat) (ht : t < 4294967296) (n v : Nat) : sumN t (layN n v) < 4294967296 := sumN_lt _ _ ht (layN_bytes _ _)
set_option maxRecDepth 4000 in
set_option maxHeartbeats 1000000 in
theorem word_any (p t : Nat) (ht : Hid (t < 4294967296)) (x : Int) (v : Nat) (hx : Hid (x = (v : Int))) (w : World) (hs : SumIs w p t) (hT : Tab w) (hp : 0 < p) :
    Calls Tryd.prog 18 #[.pointer (some ⟨p, 0, none⟩), .int .u64 x] w fun e w' => e = .returned (.pointer (some ⟨p, 0, none⟩)) ∧ SumIs w' p (sumN t (layN 8 v)) ∧ w.grownBy w' (some p) := by
  have hx2 := hx.out
  clear hx
  subst hx2
  have HT : Hid (Tab w) := hT
  have HS : Hid (SumIs w p t) := hs
  clear hT hs
  have E1 : Hid (_ = _) := lo32_int v
  have E2 : Hid (_ = _) := hi32_int v
  have ht2 : Hid (sumN t (layN 4 (lo32 v)) < 4294967296) := sum_lay t ht.out _ _
  have E : Hid (_ = _) := sum_lay8 t v
  go_enter Tryd.func18, Tryd.ntmps18
  go_wp2_with fail
  go_at_call 22
  refine (half_any p t ht _ _ E1 _ HS.out HT.out hp).mono ?_
  rintro e w' ⟨rfl, hS1, hG1⟩
  have HS1 : Hid (SumIs w' p (sumN t (layN 4 (lo32 v))) ∧ w.grownBy w' (some p)) := ⟨hS1, hG1⟩
  clear hS1 hG1
  go_wp2_with fail
  go_at_call 22
  refine (half_any p _ ht2 _ _ E2 _ HS1.out.1 (HT.out.grown HS1.out.2 hp) hp).mono ?_
  rintro e w2 ⟨rfl, hS2, hG2⟩
  have HS2 : Hid (_ ∧ _) := ⟨hS2, hG2⟩
  clear hS2 hG2
  go_wp2
  go_ret
  exact ⟨rfl, by rw [← E.out]; exact HS2.out.1, grown_trans HS1.out.2 HS2.out.2⟩
set_option maxHeartbeats 1000000 in
theorem word_nil (x : Int) (w : World) : Calls Tryd.prog 18 #[.pointer none, .int .u64 x] w fun e w' => e = .returned (.pointer none) ∧ Below w.heap.size w w' := by
  go_enter Tryd.func18, Tryd.ntmps18
  go_wp2_with fail
  go_at_call 22
  refine (half_nil _ _).mono ?_
  rintro e w' ⟨rfl, hw⟩
  go_wp2_with fail
  go_at_call 22
  refine (half_nil _ _).mono ?_
  rintro e w2 ⟨rfl, hw2⟩
  go_wp2
  go_ret
  exact ⟨rfl, hw.trans (hw2.mono hw.size)⟩
end Go.Proofs.YtnnongchjbckpaaDoor
