/- Closed facts on the errors of this program: their types, their methods, what is held against a number. -/
import Derived.Test.YtlandjnhhcnbeabDoorProg
import Derived.WalkKit
import Derived.LaidEql
import Derived.Lib.IfaceEq
import Derived.Stop.Asserts
import Derived.RowKitTokens
import Derived.Below
namespace Go.Proofs.YtlandjnhhcnbeabDoor
open Go.RowKit Go.Extern.Stop Go.Stop Go.Extern
set_option linter.unusedVariables false

theorem lacks52_28 (v : Value) (xT : TypeId) (w : World) : (Instr.typeAssert (.iface 28 v) xT 52 true).run Tryd.prog w = .ok (.tuple #[.nilIface, .bool false]) w := run_typeAssert_lacksB Tryd.underlying52 (by kernel_rfl) (by kernel_rfl) v xT w
theorem lacks55_28 (v : Value) (xT : TypeId) (w : World) : (Instr.typeAssert (.iface 28 v) xT 55 true).run Tryd.prog w = .ok (.tuple #[.nilIface, .bool false]) w := run_typeAssert_lacksB Tryd.underlying55 (by kernel_rfl) (by kernel_rfl) v xT w
theorem lacks57_28 (v : Value) (xT : TypeId) (w : World) : (Instr.typeAssert (.iface 28 v) xT 57 true).run Tryd.prog w = .ok (.tuple #[.nilIface, .bool false]) w := run_typeAssert_lacksB Tryd.underlying57 (by kernel_rfl) (by kernel_rfl) v xT w
theorem lacks52_23 (v : Value) (xT : TypeId) (w : World) : (Instr.typeAssert (.iface 23 v) xT 52 true).run Tryd.prog w = .ok (.tuple #[.nilIface, .bool false]) w := run_typeAssert_lacksB Tryd.underlying52 (by kernel_rfl) (by kernel_rfl) v xT w
theorem has55_23 (v : Value) (xT : TypeId) (w : World) : (Instr.typeAssert (.iface 23 v) xT 55 true).run Tryd.prog w = .ok (.tuple #[.iface 23 v, .bool true]) w := run_typeAssert_hasB Tryd.underlying55 (by kernel_rfl) v xT w
theorem meth_fault (v : Value) (w : World) : (Go.method 206 23 v "Unwrap").run Tryd.prog w = .ok (42, v) w := by kernel_rfl
theorem comp_num : (Tryd.prog.info? 28).map (·.comparable) = some true := by kernel_rfl
theorem eql_num (a b : Int) (w : World) : (binOp .eql 26 (.iface 28 (.int .i64 a)) (.iface 28 (.int .i64 b))).run Tryd.prog w = .ok (.bool (a == b)) w := Lib.run_eql_iface_int (P := Tryd.prog) w (t := 26) (tx := 28) (k := .i64) a b Tryd.underlying26 comp_num Tryd.underlying28
theorem eql_23 (v u : Value) (w : World) : (binOp .eql 26 (.iface 23 v) (.iface 28 u)).run Tryd.prog w = .ok (.bool false) w := run_eql_iface_types 23 28 v u Tryd.underlying26 (by decide) w
end Go.Proofs.YtlandjnhhcnbeabDoor
