/-
  A block of two numbers that the call itself made, as the world goes on.
-/
import Derived.Test.YtndjbobgccpdfaaPos
import Derived.LoopTactic
namespace Go.Proofs.Ytndjbobgccpdfaa
open Go.RowKit

/-- Block B holds n numbers. -/
def Rd (w : World) (B n : Nat) : Prop := B < w.heap.size ∧ ∀ k : Nat, k < n → ∃ v : Int, w.cell? ⟨B, k, none⟩ = some (.int .i64 v)

/-- A counter that is at most n. -/
def UpTo (n : Nat) (i : Value) : Prop := ∃ k : Nat, k ≤ n ∧ i = .int .i64 k

theorem UpTo.step {n k : Nat} (h : k < n) {x : Int} (e : x = (k : Int) + 1) : UpTo n (.int .i64 x) := ⟨k + 1, by omega, by rw [e]; rfl⟩
theorem UpTo.zero (n : Nat) : UpTo n (.int .i64 0) := ⟨0, by omega, rfl⟩

theorem Rd.at {w : World} {B n : Nat} (h : Rd w B n) {k : Nat} (hk : k < n) : ∃ v : Int, w.cell? ⟨B, k, none⟩ = some (.int .i64 v) := h.2 k hk

theorem Rd.alloc {w : World} {B n : Nat} (h : Rd w B n) (o : Obj) : Rd (w.alloc o) B n :=
  ⟨by have := h.1; simp; omega, fun k hk => by
    obtain ⟨v, hv⟩ := h.2 k hk
    exact ⟨v, by rw [World.cell?_alloc_past _ _ _ h.1]; exact hv⟩⟩

theorem Rd.two (w : World) (a b : Int) (t : TypeId) : Rd (w.alloc (.cells #[.int .i64 a, .int .i64 b] t)) w.heap.size 2 :=
  ⟨by simp, fun k hk => by
    match k, hk with
    | 0, _ => exact ⟨a, by go_simp⟩
    | 1, _ => exact ⟨b, by go_simp⟩⟩

theorem Rd.mk4 {w : World} {B : Nat} {a b c d : Int} (h : B < w.heap.size) (h0 : w.cell? ⟨B, 0, none⟩ = some (.int .i64 a)) (h1 : w.cell? ⟨B, 1, none⟩ = some (.int .i64 b))
    (h2 : w.cell? ⟨B, 2, none⟩ = some (.int .i64 c)) (h3 : w.cell? ⟨B, 3, none⟩ = some (.int .i64 d)) : Rd w B 4 :=
  ⟨h, fun k hk => by
    match k, hk with
    | 0, _ => exact ⟨a, h0⟩
    | 1, _ => exact ⟨b, h1⟩
    | 2, _ => exact ⟨c, h2⟩
    | 3, _ => exact ⟨d, h3⟩⟩

theorem Rd.four (w : World) (a b c d : Int) (t : TypeId) : Rd (w.alloc (.cells #[.int .i64 a, .int .i64 b, .int .i64 c, .int .i64 d] t)) w.heap.size 4 :=
  Rd.mk4 (a := a) (b := b) (c := c) (d := d) (by simp) (by go_simp) (by go_simp) (by go_simp) (by go_simp)

theorem Rd.drewN {w : World} {B n : Nat} (h : Rd w B n) (k : Nat) : Rd (w.drewN k) B n := h

end Go.Proofs.Ytndjbobgccpdfaa
