/-
  Plain mathematics of layer 5: lists that are the same, part by part.
  Are two transactions the same: slices.Equal, slices.EqualFunc, tx.Equal.
  Are two transactions the same: the closure over inputs, slices.EqualFunc, tx.Equal.
-/
import Derived.Test.YtfobdefncbaooaaDoorData
import Derived.Deep.LoopGhost
import Derived.Shelf.Abstract
import Derived.Shelf.AbstractIn

namespace Go.Proofs.YtfobdefncbaooaaDoor

/-- Are two lists the same, element by element? -/
def allB {α : Type} (r : α → α → Bool) : List α → List α → Bool
  | [], [] => true
  | x :: xs, y :: ys => r x y && allB r xs ys
  | _, _ => false

theorem allB_iff {α : Type} (r : α → α → Bool) (xs ys : List α) : allB r xs ys = true ↔ xs.length = ys.length ∧ ∀ (k : Nat) (x y : α), xs[k]? = some x → ys[k]? = some y → r x y = true := by
  induction xs generalizing ys with
  | nil => cases ys <;> simp [allB]
  | cons x xs ih =>
    cases ys with
    | nil => simp [allB]
    | cons y ys =>
      simp only [allB, Bool.and_eq_true, ih, List.length_cons, Nat.add_right_cancel_iff]
      constructor
      · rintro ⟨h1, h2, h3⟩
        refine ⟨h2, fun k a b ha hb => ?_⟩
        cases k with
        | zero => simp at ha hb; subst ha hb; exact h1
        | succ k => exact h3 k a b (by simpa using ha) (by simpa using hb)
      · rintro ⟨h2, h3⟩
        exact ⟨h3 0 x y rfl rfl, h2, fun k a b ha hb => h3 (k + 1) a b (by simpa using ha) (by simpa using hb)⟩
theorem allB_len {α : Type} {r : α → α → Bool} {xs ys : List α} (h : xs.length ≠ ys.length) : allB r xs ys = false := by
  rw [Bool.eq_false_iff]; intro h2; exact h ((allB_iff r xs ys).1 h2).1
theorem allB_miss {α : Type} {r : α → α → Bool} {xs ys : List α} {k : Nat} {x y : α} (hx : xs[k]? = some x) (hy : ys[k]? = some y) (h : r x y = false) : allB r xs ys = false := by
  rw [Bool.eq_false_iff]; intro h2
  have := ((allB_iff r xs ys).1 h2).2 k x y hx hy
  rw [h] at this; cases this
theorem allB_full {α : Type} {r : α → α → Bool} {xs ys : List α} (hl : xs.length = ys.length) (h : ∀ (k : Nat) (x y : α), xs[k]? = some x → ys[k]? = some y → r x y = true) : allB r xs ys = true := (allB_iff r xs ys).2 ⟨hl, h⟩
theorem allB_refl {α : Type} {r : α → α → Bool} (hr : ∀ x, r x x = true) (xs : List α) : allB r xs xs = true :=
  allB_full rfl fun _ x y hx hy => by rw [hx] at hy; injection hy with hy; subst hy; exact hr x
theorem allB_symm {α : Type} {r : α → α → Bool} (hr : ∀ x y, r x y = r y x) (xs ys : List α) : allB r xs ys = allB r ys xs := by
  rw [Bool.eq_iff_iff, allB_iff, allB_iff]
  exact ⟨fun h => ⟨h.1.symm, fun k x y hx hy => by rw [hr]; exact h.2 k y x hy hx⟩, fun h => ⟨h.1.symm, fun k x y hx hy => by rw [hr]; exact h.2 k y x hy hx⟩⟩

/-- Where two lists are the same up to k. -/
def SoFar {α : Type} (r : α → α → Bool) (xs ys : List α) (k : Nat) : Prop := ∀ (j : Nat) (x y : α), j < k → xs[j]? = some x → ys[j]? = some y → r x y = true
theorem SoFar.zero {α : Type} (r : α → α → Bool) (xs ys : List α) : SoFar r xs ys 0 := fun _ _ _ h => absurd h (Nat.not_lt_zero _)
theorem SoFar.step {α : Type} {r : α → α → Bool} {xs ys : List α} {k : Nat} {x y : α} (h : SoFar r xs ys k) (hx : xs[k]? = some x) (hy : ys[k]? = some y) (hr : r x y = true) : SoFar r xs ys (k + 1) := by
  intro j a b hj ha hb
  rcases Nat.lt_or_ge j k with hlt | hge
  · exact h j a b hlt ha hb
  · obtain rfl : j = k := by omega
    rw [hx] at ha; rw [hy] at hb; injection ha with ha; injection hb with hb; subst ha hb; exact hr
theorem SoFar.full {α : Type} {r : α → α → Bool} {xs ys : List α} {k : Nat} (h : SoFar r xs ys k) (hk : xs.length ≤ k) (hl : xs.length = ys.length) : allB r xs ys = true :=
  allB_full hl fun j x y hx hy => h j x y (by have := (List.getElem?_eq_some_iff.1 hx).1; omega) hx hy

end Go.Proofs.YtfobdefncbaooaaDoor

namespace Go.Proofs.YtfobdefncbaooaaDoor
open Go.RowKit

def strB (a b : ByteArray) : Bool := a.toList == b.toList
def strsB (xs ys : List ByteArray) : Bool := allB strB xs ys
def outB (x y : OutD) : Bool := (x.val == y.val) && strB x.scr y.scr
def inB (x y : InD) : Bool := ptB x.id x.ix y.id y.ix && (x.sq == y.sq) && strsB x.wit y.wit
def txB (t u : TxD) : Bool := (t.ver == u.ver) && (t.lock == u.lock) && allB inB t.ins u.ins && allB outB t.outs u.outs

theorem run_neq_out (w : World) (a : Int) (s : ByteArray) (b : Int) (r : ByteArray) :
    (binOp .neq 50 (.agg #[.int .i64 a, .string s]) (.agg #[.int .i64 b, .string r])).run Tryd.prog w = .ok (.bool !(outB ⟨a, s⟩ ⟨b, r⟩)) w := by
  have u9 := Tryd.underlying9
  have u3 := Tryd.underlying3
  have a9 := Tryd.isAgg9
  have z9 := Tryd.sizeOf9
  have a3 := Tryd.isAgg3
  have z3 := Tryd.sizeOf3
  have hS : Tryd.prog.underlying 50 = some (.struct (Tryd.prog.fieldsOf 50)) := by kernel_rfl
  have hp : Tryd.prog.stoodInHeld 50 = false := by kernel_rfl
  rw [run_neq_struct, show (10000 : Nat) = 9999 + 1 from rfl, run_equalIn_agg w 9999 50 _ _ hS hp]
  simp only [Program.fieldsOf, Tryd.underlying50]
  go_simp
  unfold outB strB
  by_cases h1 : s.toList = r.toList <;> by_cases h2 : a = b <;> simp [h1, h2]
theorem out_guard (op : BinOp) (x y : Operand) (a : Array Value) (b : Array Value) (w : World) : (eqGuard op 50 x y (.agg a) (.agg b)).run Tryd.prog w = .ok () w := run_eqGuard_agg w op 50 x y a b (by kernel_rfl)

/-- A counter and a world, as a loop over two lists has them. -/
def EqHead {α : Type} (r : α → α → Bool) (xs ys : List α) (w : World) (gg : Nat) (s : Value) (wr : World) : Prop :=
  ∃ kk : Nat, kk ≤ xs.length ∧ xs.length - kk ≤ gg ∧ s = .int .i64 kk ∧ Below w.heap.size w wr ∧ SoFar r xs ys kk

end Go.Proofs.YtfobdefncbaooaaDoor

namespace Go.Proofs.YtfobdefncbaooaaDoor
open Go.RowKit

theorem inB_pt {x y : InD} (h : ptB x.id x.ix y.id y.ix = false) : inB x y = false := by simp [inB, h]
theorem inB_sq {x y : InD} (h : ptB x.id x.ix y.id y.ix = true) (h2 : (x.sq == y.sq) = false) : inB x y = false := by simp [inB, h, h2]
theorem inB_wit {x y : InD} (h : ptB x.id x.ix y.id y.ix = true) (h2 : (x.sq == y.sq) = true) : inB x y = strsB x.wit y.wit := by simp [inB, h, h2]

theorem Ins.form {w : World} {lo hi : Nat} {v : Value} {xs : List InD} (h : Ins w lo hi v xs) : ∃ A c, v = .slice A xs.length c := by obtain ⟨A, c, h, _⟩ := h; exact ⟨A, c, h⟩
theorem Outs.form {w : World} {lo hi : Nat} {v : Value} {xs : List OutD} (h : Outs w lo hi v xs) : ∃ A c, v = .slice A xs.length c := by obtain ⟨A, c, h, _⟩ := h; exact ⟨A, c, h⟩
theorem Strs.form {w : World} {lo hi : Nat} {v : Value} {xs : List ByteArray} (h : Strs w lo hi v xs) : ∃ A c, v = .slice A xs.length c := by obtain ⟨A, c, h, _⟩ := h; exact ⟨A, c, h⟩

theorem txB_ver {t u : TxD} (h : (t.ver == u.ver) = false) : txB t u = false := by simp [txB, h]
theorem txB_lock {t u : TxD} (h : (t.lock == u.lock) = false) : txB t u = false := by simp [txB, h]
theorem txB_ins {t u : TxD} (h : allB inB t.ins u.ins = false) : txB t u = false := by simp [txB, h]
theorem txB_outs {t u : TxD} (h1 : (t.ver == u.ver) = true) (h2 : (t.lock == u.lock) = true) (h3 : allB inB t.ins u.ins = true) : txB t u = allB outB t.outs u.outs := by simp [txB, h1, h2, h3]

end Go.Proofs.YtfobdefncbaooaaDoor
