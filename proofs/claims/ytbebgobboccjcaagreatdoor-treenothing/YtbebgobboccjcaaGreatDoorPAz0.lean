/- errors.As at a target. -/
import Derived.Test.YtbebgobboccjcaaGreatDoorH1
namespace Go.Proofs.YtbebgobboccjcaaGreatDoor.A0
open Go.RowKit Go.Extern.Stop Go.Stop Go.Extern
set_option linter.unusedVariables false

theorem valueOfP (t : Addr) (w : World) : (ReflectliteValue.unpack (.iface 87 (.pointer (some t)))).run Tryz.prog w
 = .ok (.agg #[.pointer (some ⟨4, 87, none⟩), .pointer (some ⟨w.heap.size, 0, none⟩), .int .u64 150]) (w.alloc (.cells #[.pointer (some t)] 87)) := by kernel_rfl
theorem typeP (a : Addr) (w : World) : (ReflectliteValue.methodAny (ReflectliteValue.valueError "reflectlite.Value.Type" 0) (fun t _ _ _ => ReflectliteType.toType t) #[.agg #[.pointer (some ⟨4, 87, none⟩), .pointer (some a), .int .u64 150]]).run Tryz.prog w
 = .ok (.iface 159 (.agg #[.pointer (some ⟨4, 87, none⟩)])) w := by kernel_rfl
theorem methodKind (h : Value) (w : World) : (Go.method 354 159 (.agg #[h]) "Kind").run Tryz.prog w = .ok (187, h) w := by kernel_rfl
theorem kindP (w : World) : ((ReflectliteType.abiMethod fun t => (fun a : Nat => Value.int IntKind.u8 (a : Int)) <$> Rtype.kind t) #[.pointer (some ⟨4, 87, none⟩)]).run Tryz.prog w = .ok (.int .u8 22) w := by kernel_rfl
theorem kindT (w : World) : ((ReflectliteType.abiMethod fun t => (fun a : Nat => Value.int IntKind.u8 (a : Int)) <$> Rtype.kind t) #[.pointer (some ⟨4, 85, none⟩)]).run Tryz.prog w = .ok (.int .u8 22) w := by kernel_rfl
theorem isNilP (a p : Addr) (W : World) (ha : W.cell? a = some (.pointer (some p))) :
 (ReflectliteValue.method (ReflectliteValue.valueError "reflectlite.Value.IsNil" 0) ReflectliteValue.isNil #[.agg #[.pointer (some ⟨4, 87, none⟩), .pointer (some a), .int .u64 150]]).run Tryz.prog W = .ok (.bool false) W := by
 rw [rlm]
 simp only [Sem.run_bind, partsP, Result.andThen]
 simp [ReflectliteValue.isNil, loadVar, isAgg, underlying, Tryz.underlying87, ha, Result.andThen]
theorem methodElem (h : Value) (w : World) : (Go.method 354 159 (.agg #[h]) "Elem").run Tryz.prog w = .ok (199, .agg #[h]) w := by kernel_rfl
theorem methodImplements (h : Value) (w : World) : (Go.method 354 159 (.agg #[h]) "Implements").run Tryz.prog w = .ok (200, .agg #[h]) w := by kernel_rfl
theorem elemP (w : World) : (ReflectliteType.method ReflectliteType.elem #[.agg #[.pointer (some ⟨4, 87, none⟩)]]).run Tryz.prog w = .ok (.iface 159 (.agg #[.pointer (some ⟨4, 85, none⟩)])) w := by kernel_rfl
theorem implementsT (w : World) : (ReflectliteType.relation "Implements" ReflectliteType.implements_ #[.agg #[.pointer (some ⟨4, 85, none⟩)], .iface 159 (.agg #[.pointer (some ⟨4, 42, none⟩)])]).run Tryz.prog w = .ok (.bool true) w := by kernel_rfl

theorem as_nil (t : Value) (w : World) : Calls Tryz.prog 43 #[.nilIface, t] w fun e w' => e = .returned (.bool false) ∧ w' = w := by
 go_enter Tryz.func43, Tryz.ntmps43
 go_wp2
 go_ret
 exact ⟨rfl, rfl⟩

set_option maxRecDepth 4000 in
set_option maxHeartbeats 4000000 in
theorem as_any (f : Nat) (v : Value) (ns : List Nd) (w : World) (hp : Pre w f v ns) (t : Addr) (old : Value) (ht : w.cell? t = some old) (hf : w.frozen? t = false) (hg : w.cell? ⟨0, 0, none⟩ = some (.iface 159 (.agg #[.pointer (some ⟨4, 42, none⟩)]))) :
 Calls Tryz.prog 43 #[v, .iface 87 (.pointer (some t))] w fun e w' => e = .returned (.bool (firstOf 85 ns).isSome) ∧ AsPost w w' t (firstOf 85 ns) := by
 rcases Pre.form hp with he | ⟨u, x, he⟩
 · subst he
   refine (as_nil _ w).mono ?_
   rintro e w' ⟨rfl, rfl⟩
   rw [Pre.nil hp]
   exact ⟨rfl, Below.refl _ _⟩
 · subst he
   have HP : Hid (Pre w f (.iface u x) ns) := hp
   have e1 := @run_callFunc_extern Tryz.prog 72 _ (fun args => ReflectliteValue.unpack (args.getD 0 (.tuple #[]))) Tryz.func72 (by kernel_rfl) (by kernel_rfl) (by kernel_rfl) (by kernel_rfl)
   have e2 := @run_callFunc_extern Tryz.prog 73 _ (ReflectliteValue.methodAny (ReflectliteValue.valueError "reflectlite.Value.Type" 0) (fun t _ _ _ => ReflectliteType.toType t)) Tryz.func73 (by kernel_rfl) (by kernel_rfl) (by kernel_rfl) (by kernel_rfl)
   have e3 := @run_callFunc_extern Tryz.prog 74 _ (ReflectliteValue.method (ReflectliteValue.valueError "reflectlite.Value.IsNil" 0) ReflectliteValue.isNil) Tryz.func74 (by kernel_rfl) (by kernel_rfl) (by kernel_rfl) (by kernel_rfl)
   have e4 := @run_callFunc_extern Tryz.prog 187 _ (ReflectliteType.abiMethod fun t => do pure (.int .u8 (← Rtype.kind t))) Tryz.func187 (by kernel_rfl) (by kernel_rfl) (by kernel_rfl) (by kernel_rfl)
   have e5 := @run_callFunc_extern Tryz.prog 199 _ (ReflectliteType.method ReflectliteType.elem) Tryz.func199 (by kernel_rfl) (by kernel_rfl) (by kernel_rfl) (by kernel_rfl)
   have e6 := @run_callFunc_extern Tryz.prog 200 _ (ReflectliteType.relation "Implements" ReflectliteType.implements_) Tryz.func200 (by kernel_rfl) (by kernel_rfl) (by kernel_rfl) (by kernel_rfl)
   have f1 := valueOfP
   have f2 := typeP
   have mK := methodKind
   have mE := methodElem
   have mI := methodImplements
   have kP := kindP
   have kT := kindT
   have eP := elemP
   have iT := implementsT
   have B1 : Hid (Below w.heap.size w ((w.alloc (.cells #[.pointer (some t)] 87)).alloc (.cells #[.pointer (some ⟨4, 87, none⟩), .pointer (some ⟨w.heap.size, 0, none⟩), .int .u64 150] 116))) := ((Below.refl _ _).alloc (Nat.le_refl _) _).alloc (by simp) _
   have n36 := isNilP ⟨w.heap.size, 0, none⟩ t ((w.alloc (.cells #[.pointer (some t)] 87)).alloc (.cells #[.pointer (some ⟨4, 87, none⟩), .pointer (some ⟨w.heap.size, 0, none⟩), .int .u64 150] 116)) (by simp)
   have hg2 := cell_old B1.out hg
   have HX : Hid (Calls Tryz.prog 75 _ _ _) := as_pre f (.iface u x) ns ((w.alloc (.cells #[.pointer (some t)] 87)).alloc (.cells #[.pointer (some ⟨4, 87, none⟩), .pointer (some ⟨w.heap.size, 0, none⟩), .int .u64 150] 116)) (HP.out.below B1.out) (by simp) t ⟨w.heap.size, 0, none⟩ old (cell_old B1.out ht) (frozen_old B1.out ht hf) (by simp)
   clear hp ht hf hg
   go_enter Tryz.func43, Tryz.ntmps43
   go_wp2_with fail
   go_at_call 75
   refine HX.out.mono ?_
   rintro e w' ⟨rfl, hw⟩
   have HW : Hid (AsPost w w' t (firstOf 85 ns)) := hw.from B1.out
   clear hw HX n36 hg2
   go_wp2
   go_ret
   exact ⟨rfl, HW.out⟩
end Go.Proofs.YtbebgobboccjcaaGreatDoor.A0
