/-
  Points and coins held against one another.
-/
import Derived.Test.YtdchbeomlfancaaLf
namespace Go.Proofs.Ytdchbeomlfancaa
open Go.RowKit

theorem run_eql_pt (w : World) (a : ByteArray) (i : Int) (b : ByteArray) (j : Int) :
    (binOp .eql 28 (.agg #[.string a, .int .u32 i]) (.agg #[.string b, .int .u32 j])).run Try.prog w = .ok (.bool (ptB a i b j)) w := by
  have u9 := Try.underlying9
  have u22 := Try.underlying26
  have a9 := Try.isAgg9
  have z9 := Try.sizeOf9
  have a22 := Try.isAgg26
  have z22 := Try.sizeOf26
  have hS : Try.prog.underlying 28 = some (.struct (Try.prog.fieldsOf 28)) := by kernel_rfl
  have hp : Try.prog.stoodInHeld 28 = false := by kernel_rfl
  rw [run_eql_struct, show (10000 : Nat) = 9999 + 1 from rfl, run_equalIn_agg w 9999 28 _ _ hS hp]
  simp only [Program.fieldsOf, Try.underlying28]
  go_simp
  unfold ptB
  by_cases h1 : a.toList = b.toList <;> by_cases h2 : i = j <;> simp [h1, h2]

theorem run_neq_pt (w : World) (a : ByteArray) (i : Int) (b : ByteArray) (j : Int) :
    (binOp .neq 28 (.agg #[.string a, .int .u32 i]) (.agg #[.string b, .int .u32 j])).run Try.prog w = .ok (.bool !(ptB a i b j)) w := by
  have u9 := Try.underlying9
  have u22 := Try.underlying26
  have a9 := Try.isAgg9
  have z9 := Try.sizeOf9
  have a22 := Try.isAgg26
  have z22 := Try.sizeOf26
  have hS : Try.prog.underlying 28 = some (.struct (Try.prog.fieldsOf 28)) := by kernel_rfl
  have hp : Try.prog.stoodInHeld 28 = false := by kernel_rfl
  rw [run_neq_struct, show (10000 : Nat) = 9999 + 1 from rfl, run_equalIn_agg w 9999 28 _ _ hS hp]
  simp only [Program.fieldsOf, Try.underlying28]
  go_simp
  unfold ptB
  by_cases h1 : a.toList = b.toList <;> by_cases h2 : i = j <;> simp [h1, h2]

/-- Are two coins one? -/
def coB (v : Int) (s : ByteArray) (t : Int) (v' : Int) (s' : ByteArray) (t' : Int) : Bool := ((v == v') && (s.toList == s'.toList)) && (t == t')
theorem coB_refl (v : Int) (s : ByteArray) (t : Int) : coB v s t v s t = true := by simp [coB]

theorem run_eql_co (w : World) (v : Int) (s : ByteArray) (t : Int) (v' : Int) (s' : ByteArray) (t' : Int) :
    (binOp .eql 35 (.agg #[.int .i64 v, .string s, .int .i64 t]) (.agg #[.int .i64 v', .string s', .int .i64 t'])).run Try.prog w = .ok (.bool (coB v s t v' s' t')) w := by
  have u9 := Try.underlying9
  have u3 := Try.underlying3
  have a9 := Try.isAgg9
  have z9 := Try.sizeOf9
  have a3 := Try.isAgg3
  have z3 := Try.sizeOf3
  have a33 := Try.isAgg33
  have z33 := Try.sizeOf33
  have hS : Try.prog.underlying 35 = some (.struct (Try.prog.fieldsOf 35)) := by kernel_rfl
  have hp : Try.prog.stoodInHeld 35 = false := by kernel_rfl
  have hS' : Try.prog.underlying 33 = some (.struct (Try.prog.fieldsOf 33)) := by kernel_rfl
  have hp' : Try.prog.stoodInHeld 33 = false := by kernel_rfl
  have hE : ∀ W : World, (Op.equalIn 9999 33 (.agg #[.int .i64 v, .string s]) (.agg #[.int .i64 v', .string s'])).run Try.prog W = .ok ((v == v') && (s.toList == s'.toList)) W := fun W => by
    rw [show (9999 : Nat) = 9998 + 1 from rfl, run_equalIn_agg W 9998 33 _ _ hS' hp']
    simp only [Program.fieldsOf, Try.underlying33]
    go_simp
    by_cases h1 : v = v' <;> by_cases h2 : s.toList = s'.toList <;> simp [h1, h2]
  rw [run_eql_struct, show (10000 : Nat) = 9999 + 1 from rfl, run_equalIn_agg w 9999 35 _ _ hS hp]
  simp only [Program.fieldsOf, Try.underlying35]
  go_simp
  unfold coB
  by_cases h1 : v = v' <;> by_cases h2 : s.toList = s'.toList <;> by_cases h3 : t = t' <;> simp [h1, h2, h3]

theorem run_neq_co (w : World) (v : Int) (s : ByteArray) (t : Int) (v' : Int) (s' : ByteArray) (t' : Int) :
    (binOp .neq 35 (.agg #[.int .i64 v, .string s, .int .i64 t]) (.agg #[.int .i64 v', .string s', .int .i64 t'])).run Try.prog w = .ok (.bool !(coB v s t v' s' t')) w := by
  have u9 := Try.underlying9
  have u3 := Try.underlying3
  have a9 := Try.isAgg9
  have z9 := Try.sizeOf9
  have a3 := Try.isAgg3
  have z3 := Try.sizeOf3
  have a33 := Try.isAgg33
  have z33 := Try.sizeOf33
  have hS : Try.prog.underlying 35 = some (.struct (Try.prog.fieldsOf 35)) := by kernel_rfl
  have hp : Try.prog.stoodInHeld 35 = false := by kernel_rfl
  have hS' : Try.prog.underlying 33 = some (.struct (Try.prog.fieldsOf 33)) := by kernel_rfl
  have hp' : Try.prog.stoodInHeld 33 = false := by kernel_rfl
  have hE : ∀ W : World, (Op.equalIn 9999 33 (.agg #[.int .i64 v, .string s]) (.agg #[.int .i64 v', .string s'])).run Try.prog W = .ok ((v == v') && (s.toList == s'.toList)) W := fun W => by
    rw [show (9999 : Nat) = 9998 + 1 from rfl, run_equalIn_agg W 9998 33 _ _ hS' hp']
    simp only [Program.fieldsOf, Try.underlying33]
    go_simp
    by_cases h1 : v = v' <;> by_cases h2 : s.toList = s'.toList <;> simp [h1, h2]
  rw [run_neq_struct, show (10000 : Nat) = 9999 + 1 from rfl, run_equalIn_agg w 9999 35 _ _ hS hp]
  simp only [Program.fieldsOf, Try.underlying35]
  go_simp
  unfold coB
  by_cases h1 : v = v' <;> by_cases h2 : s.toList = s'.toList <;> by_cases h3 : t = t' <;> simp [h1, h2, h3]

theorem pt_guard (op : BinOp) (x y : Operand) (a : Array Value) (b : Array Value) (w : World) : (eqGuard op 28 x y (.agg a) (.agg b)).run Try.prog w = .ok () w := run_eqGuard_agg w op 28 x y a b (by kernel_rfl)
theorem co_guard (op : BinOp) (x y : Operand) (a : Array Value) (b : Array Value) (w : World) : (eqGuard op 35 x y (.agg a) (.agg b)).run Try.prog w = .ok () w := run_eqGuard_agg w op 35 x y a b (by kernel_rfl)

end Go.Proofs.Ytdchbeomlfancaa
