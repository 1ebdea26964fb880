/-
  A block of two numbers that the call itself made, as the world goes on.
-/
import Derived.Test.YtndjbobgccpdfaaPos
import Derived.LoopTactic
namespace Go.Proofs.Ytndjbobgccpdfaa
open Go.RowKit

/-- Block B holds n numbers. -/
def Rd (w : World) (B n : Nat) : Prop := B < w.heap.size ∧ ∀ k : Nat, k < n → ∃ v : Int, w.cell? ⟨B, k, none⟩ = some (.int .i64 v)

/-- A counter that is at most n. -/
def UpTo (n : Nat) (i : Value) : Prop := ∃ k : Nat, k ≤ n ∧ i = .int .i64 k

theorem UpTo.step {n k : Nat} (h : k < n) {x : Int} (e : x = (k : Int) + 1) : UpTo n (.int .i64 x) := ⟨k + 1, by omega, by rw [e]; rfl⟩
theorem UpTo.zero (n : Nat) : UpTo n (.int .i64 0) := ⟨0, by omega, rfl⟩

theorem Rd.at {w : World} {B n : Nat} (h : Rd w B n) {k : Nat} (hk : k < n) : ∃ v : Int, w.cell? ⟨B, k, none⟩ = some (.int .i64 v) := h.2 k hk

theorem Rd.alloc {w : World} {B n : Nat} (h : Rd w B n) (o : Obj) : Rd (w.alloc o) B n :=
  ⟨by have := h.1; simp; omega, fun k hk => by
    obtain ⟨v, hv⟩ := h.2 k hk
    exact ⟨v, by rw [World.cell?_alloc_past _ _ _ h.1]; exact hv⟩⟩

theorem Rd.two (w : World) (a b : Int) (t : TypeId) : Rd (w.alloc (.cells #[.int .i64 a, .int .i64 b] t)) w.heap.size 2 :=
  ⟨by simp, fun k hk => by
    match k, hk with
    | 0, _ => exact ⟨a, by go_simp⟩
    | 1, _ => exact ⟨b, by go_simp⟩⟩

theorem Rd.drewN {w : World} {B n : Nat} (h : Rd w B n) (k : Nat) : Rd (w.drewN k) B n := h

end Go.Proofs.Ytndjbobgccpdfaa
