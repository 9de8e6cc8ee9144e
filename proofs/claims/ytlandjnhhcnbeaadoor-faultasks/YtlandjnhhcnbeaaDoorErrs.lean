/- Closed facts on the errors of this program: their types, their methods, what is held against a number. -/
import Derived.Test.YtlandjnhhcnbeaaDoorProg
import Derived.WalkKit
import Derived.LaidEql
import Derived.Lib.IfaceEq
import Derived.Stop.Asserts
import Derived.RowKitTokens
import Derived.Below
namespace Go.Proofs.YtlandjnhhcnbeaaDoor
open Go.RowKit Go.Extern.Stop Go.Stop Go.Extern
set_option linter.unusedVariables false

theorem lacks95_39 (v : Value) (xT : TypeId) (w : World) : (Instr.typeAssert (.iface 39 v) xT 95 true).run Tryd.prog w = .ok (.tuple #[.nilIface, .bool false]) w := run_typeAssert_lacksB Tryd.underlying95 (by kernel_rfl) (by kernel_rfl) v xT w
theorem lacks98_39 (v : Value) (xT : TypeId) (w : World) : (Instr.typeAssert (.iface 39 v) xT 98 true).run Tryd.prog w = .ok (.tuple #[.nilIface, .bool false]) w := run_typeAssert_lacksB Tryd.underlying98 (by kernel_rfl) (by kernel_rfl) v xT w
theorem lacks100_39 (v : Value) (xT : TypeId) (w : World) : (Instr.typeAssert (.iface 39 v) xT 100 true).run Tryd.prog w = .ok (.tuple #[.nilIface, .bool false]) w := run_typeAssert_lacksB Tryd.underlying100 (by kernel_rfl) (by kernel_rfl) v xT w
theorem lacks95_47 (v : Value) (xT : TypeId) (w : World) : (Instr.typeAssert (.iface 47 v) xT 95 true).run Tryd.prog w = .ok (.tuple #[.nilIface, .bool false]) w := run_typeAssert_lacksB Tryd.underlying95 (by kernel_rfl) (by kernel_rfl) v xT w
theorem lacks98_47 (v : Value) (xT : TypeId) (w : World) : (Instr.typeAssert (.iface 47 v) xT 98 true).run Tryd.prog w = .ok (.tuple #[.nilIface, .bool false]) w := run_typeAssert_lacksB Tryd.underlying98 (by kernel_rfl) (by kernel_rfl) v xT w
theorem lacks100_47 (v : Value) (xT : TypeId) (w : World) : (Instr.typeAssert (.iface 47 v) xT 100 true).run Tryd.prog w = .ok (.tuple #[.nilIface, .bool false]) w := run_typeAssert_lacksB Tryd.underlying100 (by kernel_rfl) (by kernel_rfl) v xT w
theorem lacks95_54 (v : Value) (xT : TypeId) (w : World) : (Instr.typeAssert (.iface 54 v) xT 95 true).run Tryd.prog w = .ok (.tuple #[.nilIface, .bool false]) w := run_typeAssert_lacksB Tryd.underlying95 (by kernel_rfl) (by kernel_rfl) v xT w
theorem has98_54 (v : Value) (xT : TypeId) (w : World) : (Instr.typeAssert (.iface 54 v) xT 98 true).run Tryd.prog w = .ok (.tuple #[.iface 54 v, .bool true]) w := run_typeAssert_hasB Tryd.underlying98 (by kernel_rfl) v xT w
theorem lacks95_72 (v : Value) (xT : TypeId) (w : World) : (Instr.typeAssert (.iface 72 v) xT 95 true).run Tryd.prog w = .ok (.tuple #[.nilIface, .bool false]) w := run_typeAssert_lacksB Tryd.underlying95 (by kernel_rfl) (by kernel_rfl) v xT w
theorem lacks98_72 (v : Value) (xT : TypeId) (w : World) : (Instr.typeAssert (.iface 72 v) xT 98 true).run Tryd.prog w = .ok (.tuple #[.nilIface, .bool false]) w := run_typeAssert_lacksB Tryd.underlying98 (by kernel_rfl) (by kernel_rfl) v xT w
theorem has100_72 (v : Value) (xT : TypeId) (w : World) : (Instr.typeAssert (.iface 72 v) xT 100 true).run Tryd.prog w = .ok (.tuple #[.iface 72 v, .bool true]) w := run_typeAssert_hasB Tryd.underlying100 (by kernel_rfl) v xT w
theorem meth_fault (v : Value) (w : World) : (Go.method 239 54 v "Unwrap").run Tryd.prog w = .ok (67, v) w := by kernel_rfl
theorem meth_join (v : Value) (w : World) : (Go.method 239 72 v "Unwrap").run Tryd.prog w = .ok (69, v) w := by kernel_rfl
theorem comp_num : (Tryd.prog.info? 39).map (·.comparable) = some true := by kernel_rfl
theorem eql_num (a b : Int) (w : World) : (binOp .eql 29 (.iface 39 (.int .i64 a)) (.iface 39 (.int .i64 b))).run Tryd.prog w = .ok (.bool (a == b)) w := Lib.run_eql_iface_int (P := Tryd.prog) w (t := 29) (tx := 39) (k := .i64) a b Tryd.underlying29 comp_num Tryd.underlying39
theorem eql_47 (v u : Value) (w : World) : (binOp .eql 29 (.iface 47 v) (.iface 39 u)).run Tryd.prog w = .ok (.bool false) w := run_eql_iface_types 47 39 v u Tryd.underlying29 (by decide) w
theorem eql_54 (v u : Value) (w : World) : (binOp .eql 29 (.iface 54 v) (.iface 39 u)).run Tryd.prog w = .ok (.bool false) w := run_eql_iface_types 54 39 v u Tryd.underlying29 (by decide) w
theorem eql_72 (v u : Value) (w : World) : (binOp .eql 29 (.iface 72 v) (.iface 39 u)).run Tryd.prog w = .ok (.bool false) w := run_eql_iface_types 72 39 v u Tryd.underlying29 (by decide) w
end Go.Proofs.YtlandjnhhcnbeaaDoor
