/-
  Are two transactions the same: slices.Equal, slices.EqualFunc, tx.Equal.
  Are two transactions the same: the closure over inputs, slices.EqualFunc, tx.Equal.
-/
import Derived.Test.YtmabfccieoaalaaLeaf
import Derived.Test.YtmabfccieoaalaaPure
import Derived.Deep.LoopGhost
import Derived.Shelf.Abstract
import Derived.Shelf.AbstractIn

namespace Go.Proofs.Ytmabfccieoaalaa
open Go.RowKit

def strB (a b : ByteArray) : Bool := a.toList == b.toList
def strsB (xs ys : List ByteArray) : Bool := allB strB xs ys
def outB (x y : OutD) : Bool := (x.val == y.val) && strB x.scr y.scr
def inB (x y : InD) : Bool := ptB x.id x.ix y.id y.ix && (x.sq == y.sq) && strsB x.wit y.wit
def txB (t u : TxD) : Bool := (t.ver == u.ver) && (t.lock == u.lock) && allB inB t.ins u.ins && allB outB t.outs u.outs

theorem run_neq_out (w : World) (a : Int) (s : ByteArray) (b : Int) (r : ByteArray) :
    (binOp .neq 29 (.agg #[.int .i64 a, .string s]) (.agg #[.int .i64 b, .string r])).run Try.prog w = .ok (.bool !(outB ⟨a, s⟩ ⟨b, r⟩)) w := by
  have u9 := Try.underlying9
  have u3 := Try.underlying3
  have a9 := Try.isAgg9
  have z9 := Try.sizeOf9
  have a3 := Try.isAgg3
  have z3 := Try.sizeOf3
  have hS : Try.prog.underlying 29 = some (.struct (Try.prog.fieldsOf 29)) := by kernel_rfl
  have hp : Try.prog.stoodInHeld 29 = false := by kernel_rfl
  rw [run_neq_struct, show (10000 : Nat) = 9999 + 1 from rfl, run_equalIn_agg w 9999 29 _ _ hS hp]
  simp only [Program.fieldsOf, Try.underlying29]
  go_simp
  unfold outB strB
  by_cases h1 : s.toList = r.toList <;> by_cases h2 : a = b <;> simp [h1, h2]
theorem out_guard (op : BinOp) (x y : Operand) (a : Array Value) (b : Array Value) (w : World) : (eqGuard op 29 x y (.agg a) (.agg b)).run Try.prog w = .ok () w := run_eqGuard_agg w op 29 x y a b (by kernel_rfl)

/-- A counter and a world, as a loop over two lists has them. -/
def EqHead {α : Type} (r : α → α → Bool) (xs ys : List α) (w : World) (gg : Nat) (s : Value) (wr : World) : Prop :=
  ∃ kk : Nat, kk ≤ xs.length ∧ xs.length - kk ≤ gg ∧ s = .int .i64 kk ∧ Below w.heap.size w wr ∧ SoFar r xs ys kk

end Go.Proofs.Ytmabfccieoaalaa

namespace Go.Proofs.Ytmabfccieoaalaa
open Go.RowKit

theorem inB_pt {x y : InD} (h : ptB x.id x.ix y.id y.ix = false) : inB x y = false := by simp [inB, h]
theorem inB_sq {x y : InD} (h : ptB x.id x.ix y.id y.ix = true) (h2 : (x.sq == y.sq) = false) : inB x y = false := by simp [inB, h, h2]
theorem inB_wit {x y : InD} (h : ptB x.id x.ix y.id y.ix = true) (h2 : (x.sq == y.sq) = true) : inB x y = strsB x.wit y.wit := by simp [inB, h, h2]

theorem Ins.form {w : World} {lo hi : Nat} {v : Value} {xs : List InD} (h : Ins w lo hi v xs) : ∃ A c, v = .slice A xs.length c := by obtain ⟨A, c, h, _⟩ := h; exact ⟨A, c, h⟩
theorem Outs.form {w : World} {lo hi : Nat} {v : Value} {xs : List OutD} (h : Outs w lo hi v xs) : ∃ A c, v = .slice A xs.length c := by obtain ⟨A, c, h, _⟩ := h; exact ⟨A, c, h⟩
theorem Strs.form {w : World} {lo hi : Nat} {v : Value} {xs : List ByteArray} (h : Strs w lo hi v xs) : ∃ A c, v = .slice A xs.length c := by obtain ⟨A, c, h, _⟩ := h; exact ⟨A, c, h⟩

theorem txB_ver {t u : TxD} (h : (t.ver == u.ver) = false) : txB t u = false := by simp [txB, h]
theorem txB_lock {t u : TxD} (h : (t.lock == u.lock) = false) : txB t u = false := by simp [txB, h]
theorem txB_ins {t u : TxD} (h : allB inB t.ins u.ins = false) : txB t u = false := by simp [txB, h]
theorem txB_outs {t u : TxD} (h1 : (t.ver == u.ver) = true) (h2 : (t.lock == u.lock) = true) (h3 : allB inB t.ins u.ins = true) : txB t u = allB outB t.outs u.outs := by simp [txB, h1, h2, h3]

end Go.Proofs.Ytmabfccieoaalaa
