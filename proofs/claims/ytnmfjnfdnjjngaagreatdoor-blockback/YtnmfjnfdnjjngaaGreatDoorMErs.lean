/-
  The program's errors (a number; a Fault that wraps one), held against a number by errors.Is.
-/
import Derived.Test.YtnmfjnfdnjjngaaGreatDoorChecked
import Derived.WalkKit
import Derived.LaidEql
import Derived.Stop.Asserts
import Derived.RowKitTokens
namespace Go.Proofs.YtnmfjnfdnjjngaaGreatDoor
open Go.RowKit Go.Extern.Stop Go.Stop Go.Extern
set_option maxRecDepth 100000

theorem esComp : (Tryz.prog.info? 38).map (·.comparable) = some true := by kernel_rfl
theorem esTypeOf (v : Value) (w : World) : (Extern.ReflectliteType.typeOf #[.iface 38 v]).run Tryz.prog w = .ok (.iface 150 (.agg #[.pointer (some ⟨3, 38, none⟩)])) w := by kernel_rfl
theorem esComparable (w : World) : ((Extern.ReflectliteType.method fun t => do Extern.Rtype.noPackHeld "Comparable" t; (fun a => Value.bool a.comparable) <$> typeInfo t) #[.agg #[.pointer (some ⟨3, 38, none⟩)]]).run Tryz.prog w = .ok (.bool true) w := by kernel_rfl
theorem esMethodComparable (v : Value) (w : World) : (Go.method 390 150 v "Comparable").run Tryz.prog w = .ok (201, v) w := by kernel_rfl
theorem esNoIs (v : Value) (xT : TypeId) (w : World) : (Instr.typeAssert (.iface 38 v) xT 152 true).run Tryz.prog w = .ok (.tuple #[.nilIface, .bool false]) w := run_typeAssert_lacksB Tryz.underlying152 (by kernel_rfl) (by kernel_rfl) v xT w
theorem esNoUnwrap (v : Value) (xT : TypeId) (w : World) : (Instr.typeAssert (.iface 38 v) xT 155 true).run Tryz.prog w = .ok (.tuple #[.nilIface, .bool false]) w := run_typeAssert_lacksB Tryz.underlying155 (by kernel_rfl) (by kernel_rfl) v xT w
theorem esNoUnwraps (v : Value) (xT : TypeId) (w : World) : (Instr.typeAssert (.iface 38 v) xT 157 true).run Tryz.prog w = .ok (.tuple #[.nilIface, .bool false]) w := run_typeAssert_lacksB Tryz.underlying157 (by kernel_rfl) (by kernel_rfl) v xT w
theorem esNoIsF (v : Value) (xT : TypeId) (w : World) : (Instr.typeAssert (.iface 92 v) xT 152 true).run Tryz.prog w = .ok (.tuple #[.nilIface, .bool false]) w := run_typeAssert_lacksB Tryz.underlying152 (by kernel_rfl) (by kernel_rfl) v xT w
theorem esUnwrapF (v : Value) (xT : TypeId) (w : World) : (Instr.typeAssert (.iface 92 v) xT 155 true).run Tryz.prog w = .ok (.tuple #[.iface 92 v, .bool true]) w := run_typeAssert_hasB Tryz.underlying155 (by kernel_rfl) v xT w
theorem esMethodUnwrap (v : Value) (w : World) : (Go.method 390 92 v "Unwrap").run Tryz.prog w = .ok (195, v) w := by kernel_rfl

theorem eqIn_num (d : Nat) (a b : Int) (w : World) : (Op.equalIn (d + 2) 33 (.iface 38 (.int .i64 a)) (.iface 38 (.int .i64 b))).run Tryz.prog w = .ok (a == b) w := by
  obtain ⟨i, hi, hc⟩ := Option.map_eq_some_iff.1 esComp
  simp [Op.equalIn, run_underlying Tryz.underlying33, run_underlying Tryz.underlying38, typeInfo, hi, hc]
/-- Two errors that are numbers are alike as the numbers are. -/
theorem eq_num (a b : Int) (w : World) : (binOp .eql 33 (.iface 38 (.int .i64 a)) (.iface 38 (.int .i64 b))).run Tryz.prog w = .ok (.bool (a == b)) w := by
  have h := eqIn_num 9998 a b w
  simp only [binOp]
  simp [Op.equal, Op.maxDepth, h]

/-- errors.Is of nil. -/
theorem is_nil (f : Int) (w : World) : Calls Tryz.prog 20 #[.nilIface, .iface 38 (.int .i64 f)] w fun e w' => e = .returned (.bool false) ∧ w' = w := by
  have hn := run_eql_iface_nil_left (P := Tryz.prog) w 38 (.int .i64 f) Tryz.underlying33
  go_enter Tryz.func20, Tryz.ntmps20
  go_wp2
  go_ret
  exact ⟨rfl, rfl⟩

set_option maxRecDepth 100000 in
/-- errors.Is of a number. -/
theorem is_num (a f : Int) (w : World) : Calls Tryz.prog 20 #[.iface 38 (.int .i64 a), .iface 38 (.int .i64 f)] w fun e w' => e = .returned (.bool (a == f)) ∧ w' = w := by
  have h8 := @run_callFunc_extern Tryz.prog 38 _ Extern.ReflectliteType.typeOf Tryz.func38 (by kernel_rfl) (by kernel_rfl) (by kernel_rfl) (by kernel_rfl)
  have h32 := @run_callFunc_extern Tryz.prog 201 _ (Extern.ReflectliteType.method fun t => do Extern.Rtype.noPackHeld "Comparable" t; pure (.bool (← typeInfo t).comparable)) Tryz.func201 (by kernel_rfl) (by kernel_rfl) (by kernel_rfl) (by kernel_rfl)
  have tT := esTypeOf
  have cT := esComparable
  have mR := esMethodComparable
  have nE := esNoIs
  have uE := esNoUnwrap
  have vE := esNoUnwraps
  have heq := eq_num a f
  cases hc : (a == f) <;> rw [hc] at heq <;> clear hc
  all_goals
    go_enter Tryz.func20, Tryz.ntmps20
    go_wp2
    refine wp_loop_rounds 1 ?_
    rw [rounds_succ]
    go_wp2
    go_ret
    exact ⟨rfl, rfl⟩

set_option maxRecDepth 100000 in
/-- errors.Is of a Fault that wraps a number. -/
theorem is_fault (b o : Nat) (a f : Int) (w : World) (h1 : w.cell? ⟨b, o + 1, none⟩ = some (.iface 38 (.int .i64 a))) :
    Calls Tryz.prog 20 #[.iface 92 (.pointer (some ⟨b, o, none⟩)), .iface 38 (.int .i64 f)] w fun e w' => e = .returned (.bool (a == f)) ∧ w' = w := by
  have h8 := @run_callFunc_extern Tryz.prog 38 _ Extern.ReflectliteType.typeOf Tryz.func38 (by kernel_rfl) (by kernel_rfl) (by kernel_rfl) (by kernel_rfl)
  have h32 := @run_callFunc_extern Tryz.prog 201 _ (Extern.ReflectliteType.method fun t => do Extern.Rtype.noPackHeld "Comparable" t; pure (.bool (← typeInfo t).comparable)) Tryz.func201 (by kernel_rfl) (by kernel_rfl) (by kernel_rfl) (by kernel_rfl)
  have tT := esTypeOf
  have cT := esComparable
  have mR := esMethodComparable
  have nE := esNoIs
  have uE := esNoUnwrap
  have vE := esNoUnwraps
  have nF := esNoIsF
  have uF := esUnwrapF
  have mU := esMethodUnwrap
  have hty := run_eql_iface_types (P := Tryz.prog) 92 38 (.pointer (some ⟨b, o, none⟩)) (.int .i64 f) Tryz.underlying33 (by decide) w
  have heq := eq_num a f
  cases hc : (a == f) <;> rw [hc] at heq <;> clear hc
  all_goals
    go_enter Tryz.func20, Tryz.ntmps20
    go_wp2
    refine wp_loop_rounds 2 ?_
    rw [rounds_succ]
    go_wp2
    rw [rounds_succ]
    go_wp2
    go_ret
    exact ⟨rfl, rfl⟩

end Go.Proofs.YtnmfjnfdnjjngaaGreatDoor
