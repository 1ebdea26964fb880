/-
  Lists that are looked through by a closure: IndexFunc, ContainsFunc, at inputs, outputs and texts.
-/
import Derived.Test.YtmabfccieoaalaaLeaf
import Derived.Deep.LoopGhost
import Derived.Shelf.Abstract
import Derived.Shelf.AbstractIn
namespace Go.Proofs.Ytmabfccieoaalaa
open Go.RowKit

/-- The first place at which p holds, or -1. -/
def idxOf {α : Type} (p : α → Bool) (xs : List α) : Int := match xs.findIdx? p with | some k => (k : Int) | none => -1

theorem idxOf_hit {α : Type} {p : α → Bool} {xs : List α} {k : Nat} {x : α} (hx : xs[k]? = some x) (hp : p x = true) (hb : ∀ (j : Nat) (y : α), j < k → xs[j]? = some y → p y = false) : idxOf p xs = k := by
  have h : xs.findIdx? p = some k := by
    rw [List.findIdx?_eq_some_iff_getElem]
    obtain ⟨hk, rfl⟩ := List.getElem?_eq_some_iff.1 hx
    exact ⟨hk, hp, fun j hj => by have := hb j xs[j] hj (List.getElem?_eq_getElem (by omega)); simp [this]⟩
  simp [idxOf, h]
theorem idxOf_miss {α : Type} {p : α → Bool} {xs : List α} (hb : ∀ (j : Nat) (y : α), xs[j]? = some y → p y = false) : idxOf p xs = -1 := by
  have h : xs.findIdx? p = none := by
    rw [List.findIdx?_eq_none_iff]
    intro y hy
    obtain ⟨j, hj⟩ := List.getElem?_of_mem hy
    exact hb j y hj
  simp [idxOf, h]
theorem idxOf_any {α : Type} (p : α → Bool) (xs : List α) : decide (0 ≤ idxOf p xs) = xs.any p := by
  cases h : xs.findIdx? p with
  | none =>
    have h2 := List.findIdx?_eq_none_iff.1 h
    have : xs.any p = false := by rw [List.any_eq_false]; intro x hx; rw [h2 x hx]; simp
    simp [idxOf, h, this]
  | some k =>
    have h2 := (List.findIdx?_eq_some_iff_getElem.1 h)
    obtain ⟨hk, hp, _⟩ := h2
    have : xs.any p = true := List.any_eq_true.2 ⟨xs[k], List.getElem_mem hk, hp⟩
    simp [idxOf, h, this]

/-- What is asked of a closure that looks at one input: whatever blocks it lays, it tells p of it. -/
def LooksIn (w : World) (lo hi : Nat) (g : Nat) (lb : Array Value) (p : InD → Bool) (xs : List InD) : Prop :=
  ∀ (W : World) (x : InD) (A : Option Addr) (n c : Nat), x ∈ xs → Below w.heap.size w W → Strs W lo hi (.slice A n c) x.wit →
    Calls Try.prog g (#[.agg #[.string x.id, .int .u32 x.ix, .int .u32 x.sq, .slice A n c]] ++ lb) W fun e w' => e = .returned (.bool (p x)) ∧ Below W.heap.size W w'

/-- What is asked of a closure that looks at one output: whatever blocks it lays, it tells p of it. -/
def LooksOut (w : World) (g : Nat) (lb : Array Value) (p : OutD → Bool) (xs : List OutD) : Prop :=
  ∀ (W : World) (x : OutD), x ∈ xs → Below w.heap.size w W →
    Calls Try.prog g (#[.agg #[.int .i64 x.val, .string x.scr]] ++ lb) W fun e w' => e = .returned (.bool (p x)) ∧ Below W.heap.size W w'

/-- What is asked of a closure that looks at one text: whatever blocks it lays, it tells p of it. -/
def LooksStr (w : World) (g : Nat) (lb : Array Value) (p : ByteArray → Bool) (xs : List ByteArray) : Prop :=
  ∀ (W : World) (x : ByteArray), x ∈ xs → Below w.heap.size w W →
    Calls Try.prog g (#[.string x] ++ lb) W fun e w' => e = .returned (.bool (p x)) ∧ Below W.heap.size W w'

end Go.Proofs.Ytmabfccieoaalaa
