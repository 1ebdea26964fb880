/-
  Layer 5's smallest calls: bounds, points and their order, closures that look at one part.
-/
import Derived.Test.YtmabfccieoaalaaData
import Derived.WalkSpells
import Derived.WalkLawsBesides
import Derived.Deep.QuietTactic
import Derived.BigQuiet
import Derived.Lib.Hide
import Derived.Laws.StructEq
import Derived.Shelf.SlicesE.Kit
namespace Go.Proofs.Ytmabfccieoaalaa
open Go.RowKit

theorem ret_int {k : IntKind} {a b : Int} (h : a = b) : Ending.returned (.int k a) = .returned (.int k b) := by rw [h]
theorem ret_bool {a b : Bool} (h : a = b) : Ending.returned (.bool a) = .returned (.bool b) := by rw [h]
theorem ret_pair {k l : IntKind} {a b c d : Int} (h : a = b) (g : c = d) : Ending.returned (.tuple #[.int k a, .int l c]) = .returned (.tuple #[.int k b, .int l d]) := by rw [h, g]

/-- Are two points one? -/
def ptB (a : ByteArray) (i : Int) (b : ByteArray) (j : Int) : Bool := (a.toList == b.toList) && (i == j)

theorem run_eql_pt (w : World) (a : ByteArray) (i : Int) (b : ByteArray) (j : Int) :
    (binOp .eql 45 (.agg #[.string a, .int .u32 i]) (.agg #[.string b, .int .u32 j])).run Try.prog w = .ok (.bool (ptB a i b j)) w := by
  have u9 := Try.underlying9
  have u22 := Try.underlying22
  have a9 := Try.isAgg9
  have z9 := Try.sizeOf9
  have a22 := Try.isAgg22
  have z22 := Try.sizeOf22
  have hS : Try.prog.underlying 45 = some (.struct (Try.prog.fieldsOf 45)) := by kernel_rfl
  have hp : Try.prog.stoodInHeld 45 = false := by kernel_rfl
  rw [run_eql_struct, show (10000 : Nat) = 9999 + 1 from rfl, run_equalIn_agg w 9999 45 _ _ hS hp]
  simp only [Program.fieldsOf, Try.underlying45]
  go_simp
  unfold ptB
  by_cases h1 : a.toList = b.toList <;> by_cases h2 : i = j <;> simp [h1, h2]

theorem pt_guard (op : BinOp) (x y : Operand) (a : Array Value) (b : Array Value) (w : World) : (eqGuard op 45 x y (.agg a) (.agg b)).run Try.prog w = .ok () w := run_eqGuard_agg w op 45 x y a b (by kernel_rfl)

/-- Is a number from one to another? -/
def inR (n a b : Int) : Bool := decide (a ≤ n) && decide (n ≤ b)

/-- Has a Witness too many texts? -/
def manyB (n : Nat) : Bool := decide (4 < n)

/-- The base point's ID: 32 bytes 0. -/
def zeros : ByteArray := ⟨#[0, 0, 0, 0, 0, 0, 0, 0, 0, 0, 0, 0, 0, 0, 0, 0, 0, 0, 0, 0, 0, 0, 0, 0, 0, 0, 0, 0, 0, 0, 0, 0]⟩

/-- Is a point the base point? -/
def baseB (a : ByteArray) (i : Int) : Bool := ptB a i zeros 4294967295

/-- Is an input's point amiss? -/
def amissB (alone : Bool) (a : ByteArray) (i : Int) : Bool := a.size != 32 || (!alone && baseB a i)

/-- The order of points. -/
def lessB (a : ByteArray) (i : Int) (b : ByteArray) (j : Int) : Bool := if a.toList == b.toList then decide (i < j) else Op.bytesLess a.toList b.toList

theorem less_same {a : ByteArray} {i : Int} {b : ByteArray} {j : Int} (h : (a.toList == b.toList) = true) : lessB a i b j = decide (i < j) := by simp [lessB, h]
theorem less_other {a : ByteArray} {i : Int} {b : ByteArray} {j : Int} (h : (a.toList == b.toList) = false) : lessB a i b j = Op.bytesLess a.toList b.toList := by simp [lessB, h]

end Go.Proofs.Ytmabfccieoaalaa
