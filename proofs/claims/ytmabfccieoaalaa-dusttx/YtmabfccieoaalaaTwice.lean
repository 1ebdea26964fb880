/-
  Are two inputs From the same output: the program's spendsTwice.
-/
import Derived.Test.YtmabfccieoaalaaMap
import Derived.Test.YtmabfccieoaalaaFind
import Derived.Test.YtmabfccieoaalaaEq
import Derived.RegionTactic
import Derived.BigRegion
import Derived.Carry
namespace Go.Proofs.Ytmabfccieoaalaa
open Go.RowKit

/-- Is a point counted more than once? -/
def moreB (n : Nat) : Bool := decide (1 < n)

theorem run_makeMap_hint {P : Program} (t k e : TypeId) (kd : IntKind) (n : Int) (ht : P.underlying t = some (.map k e)) (w : World) :
    (Instr.makeMap t (some (.int kd n))).run P w = .ok (.map (some w.heap.size)) (w.alloc (.map #[] 0)) := by
  simp [Instr.makeMap, run_underlying ht]; rfl

/-- Is an output spent twice? -/
def twiceB (xs : List InD) : Bool := xs.any fun x => moreB (cnt xs x)

/-- A counter and a map, as the loop's head has them. -/
def CountHead (xs : List InD) (w : World) (g b gg : Nat) (s : Value) (wr : World) : Prop :=
  ∃ k : Nat, k ≤ xs.length ∧ xs.length - k ≤ gg ∧ s = .int .i64 k ∧ MapIs wr b (xs.take k) ∧ wr.cell? ⟨g, 0, none⟩ = some (.map (some b)) ∧ Below w.heap.size w wr

end Go.Proofs.Ytmabfccieoaalaa
