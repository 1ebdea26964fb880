/-
  The builtin max with 0; draws leave memory alone.
-/
import Derived.Test.YtndjbobgccpdfaaRefc
namespace Go.Proofs.Ytndjbobgccpdfaa
open Go.RowKit

/-- A number, or 0 if it is below 0. -/
def pos (n : Int) : Int := if n > 0 then n else 0
theorem run_max0 (w : World) (ts : Array TypeId) (t : TypeId) (x : Int) : (Builtin.max_ ts t #[.int .i64 0, .int .i64 x]).run Try.prog w = .ok (.int .i64 (pos x)) w := run_max_int2 w ts t .i64 .i64 0 x
theorem pos_nn (n : Int) : 0 ≤ pos n := by unfold pos; split <;> omega

theorem grown_drewN {W w : World} (h : Grown W w) (n : Nat) : Grown W (w.drewN n) := h

theorem cmpR_sign {f s o i : Int} (hf : 0 ≤ f) (hf2 : f ≤ 2100000000000000) (hs : 1 ≤ s) (hs2 : s ≤ 1000000) (ho : 0 ≤ o) (ho2 : o ≤ 2100000000000000) (hi : 1 ≤ i) (hi2 : i ≤ 1000000) :
    (cmpR f s o i < 0 ↔ f * i < o * s) ∧ (0 < cmpR f s o i ↔ o * s < f * i) := by
  have h1 := (hasB_iff f s).2 ⟨⟨hf, hf2⟩, hs, hs2⟩
  have h2 := (hasB_iff o i).2 ⟨⟨ho, ho2⟩, hi, hi2⟩
  rw [cmpR_yes h1 h2]
  generalize f * i = x
  generalize o * s = y
  unfold cmpI
  split
  · omega
  · split <;> omega

end Go.Proofs.Ytndjbobgccpdfaa
