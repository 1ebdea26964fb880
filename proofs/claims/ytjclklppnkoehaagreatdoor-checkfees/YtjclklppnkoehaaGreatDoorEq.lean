/-
  Are two transactions the same: slices.Equal, slices.EqualFunc, tx.Equal.
-/
import Derived.Test.YtjclklppnkoehaaGreatDoorLeaf
import Derived.Test.YtjclklppnkoehaaGreatDoorPure
import Derived.Deep.LoopGhost
import Derived.Shelf.Abstract
import Derived.Shelf.AbstractIn
namespace Go.Proofs.YtjclklppnkoehaaGreatDoor
open Go.RowKit
set_option maxRecDepth 100000

def strB (a b : ByteArray) : Bool := a.toList == b.toList
def strsB (xs ys : List ByteArray) : Bool := allB strB xs ys
def outB (x y : OutD) : Bool := (x.val == y.val) && strB x.scr y.scr
def inB (x y : InD) : Bool := ptB x.id x.ix y.id y.ix && (x.sq == y.sq) && strsB x.wit y.wit
def txB (t u : TxD) : Bool := (t.ver == u.ver) && (t.lock == u.lock) && allB inB t.ins u.ins && allB outB t.outs u.outs

theorem run_neq_out (w : World) (a : Int) (s : ByteArray) (b : Int) (r : ByteArray) :
    (binOp .neq 59 (.agg #[.int .i64 a, .string s]) (.agg #[.int .i64 b, .string r])).run Tryz.prog w = .ok (.bool !(outB ⟨a, s⟩ ⟨b, r⟩)) w := by
  have u9 := Tryz.underlying9
  have u3 := Tryz.underlying3
  have a9 := Tryz.isAgg9
  have z9 := Tryz.sizeOf9
  have a3 := Tryz.isAgg3
  have z3 := Tryz.sizeOf3
  have hS : Tryz.prog.underlying 59 = some (.struct (Tryz.prog.fieldsOf 59)) := by kernel_rfl
  have hp : Tryz.prog.stoodInHeld 59 = false := by kernel_rfl
  rw [run_neq_struct, show (10000 : Nat) = 9999 + 1 from rfl, run_equalIn_agg w 9999 59 _ _ hS hp]
  simp only [Program.fieldsOf, Tryz.underlying59]
  go_simp
  unfold outB strB
  by_cases h1 : s.toList = r.toList <;> by_cases h2 : a = b <;> simp [h1, h2]
theorem out_guard (op : BinOp) (x y : Operand) (a : Array Value) (b : Array Value) (w : World) : (eqGuard op 59 x y (.agg a) (.agg b)).run Tryz.prog w = .ok () w := run_eqGuard_agg w op 59 x y a b (by kernel_rfl)

/-- A counter and a world, as a loop over two lists has them. -/
def EqHead {α : Type} (r : α → α → Bool) (xs ys : List α) (w : World) (gg : Nat) (s : Value) (wr : World) : Prop :=
  ∃ kk : Nat, kk ≤ xs.length ∧ xs.length - kk ≤ gg ∧ s = .int .i64 kk ∧ Below w.heap.size w wr ∧ SoFar r xs ys kk

end Go.Proofs.YtjclklppnkoehaaGreatDoor
