/- dolmenalike.Op, Ops; dolmenlaw5.small. -/
import Derived.Test.YtbebgobboccjcaaGreatDoorPLOps
import Derived.Test.YtbebgobboccjcaaGreatDoorH1
namespace Go.Proofs.YtbebgobboccjcaaGreatDoor
open Go.RowKit Kit
set_option linter.unusedVariables false

theorem sum_three (W : World) (B x y z : Nat) (h : W.heap[B]? = some (.cells #[.int .i64 x, .int .i64 y, .int .i64 z] 3)) (hx : x ≤ maxLen) (hy : y ≤ maxLen) (hz : z ≤ maxLen) :
 Calls Tryz.prog 42 #[.int .i64 1, .slice (some ⟨B, 0, none⟩) 3 3] W fun e w' => ∃ m : Nat, m ≤ 1099511627776 ∧ e = .returned (.int .i64 (m : Int)) ∧ w' = W := by
 have hm : maxLen = 9223372036854775807 := rfl
 refine (sum_list [x, y, z] 1 B 3 W (by show _ ≤ _; omega) (fun i hi => ?_) (by simp) (fun i hi => ?_)).mono ?_
 · match i, hi with
   | 0, _ => simp; omega
   | 1, _ => simp; omega
   | 2, _ => simp; omega
 · match i, hi with
   | 0, _ => simp [World.cell?, h]
   | 1, _ => simp [World.cell?, h]
   | 2, _ => simp [World.cell?, h]
 · rintro e w' ⟨rfl, rfl⟩
   exact ⟨_, satSum_le _ _ (by omega), rfl, rfl⟩
theorem sees_len {w : World} {a : Option Addr} {n c : Nat} {xs : List Value} (h : Sees w (.slice a n c) xs) : n ≤ maxLen := by
 obtain ⟨ao, cap, h1, h2, h3, _⟩ := h
 injection h1 with e1 e2 e3
 omega
theorem box_two (w : World) (o o2 : Obj) : ((w.alloc o).alloc o2).heap[w.heap.size + 1]? = some o2 := by
 have h1 := (MapKept.heap_alloc (w.alloc o) o2).1
 have h2 : (w.alloc o).heap.size = w.heap.size + 1 := by simp
 rw [h2] at h1
 exact h1
set_option maxRecDepth 4000 in
set_option maxHeartbeats 2000000 in
theorem aop_any (o : OpB) (da : Option Addr) (dc : Nat) (w : World) (h : OpFit w o da dc) : Calls Tryz.prog 18 #[.agg #[.int .i64 o.kind, .string o.path, .string o.to, .int .i64 o.off, .int .i64 o.n, .slice da o.data.length dc, .int .i64 o.snap]] w fun e w' => ∃ m : Nat, m ≤ 1099511627776 ∧ e = .returned (.int .i64 (m : Int)) ∧ Below w.heap.size w w' := by
 have HL : Hid (o.data.length ≤ maxLen) := sees_len h.1
 have HX : Hid (∀ o1, Calls Tryz.prog 42 #[.int .i64 1, .slice (some ⟨w.heap.size + 1, 0, none⟩) 3 3] ((w.alloc o1).alloc (.cells #[.int .i64 o.path.size, .int .i64 o.to.size, .int .i64 o.data.length] 3)) fun e w' => ∃ m : Nat, m ≤ 1099511627776 ∧ e = .returned (.int .i64 (m : Int)) ∧ w' = ((w.alloc o1).alloc (.cells #[.int .i64 o.path.size, .int .i64 o.to.size, .int .i64 o.data.length] 3))) := fun o1 => sum_three _ _ _ _ _ (box_two _ _ _) h.2.2.1 h.2.2.2 HL.out
 clear h HL
 go_enter Tryz.func18, Tryz.ntmps18
 go_wp2_with fail
 go_at_call 42
 refine (HX.out _).mono ?_
 rintro e w' ⟨m, hm, rfl, rfl⟩
 go_wp2
 go_ret
 exact ⟨m, hm, rfl, ((Below.refl _ _).alloc (Nat.le_refl _) _).alloc (by simp) _⟩
end Go.Proofs.YtbebgobboccjcaaGreatDoor
