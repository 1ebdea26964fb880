/-
  An error told: its number against another one, its place.
-/
import Derived.Test.YtnmfjnfdnjjngaaGreatDoorMLop
import Derived.Test.YtnmfjnfdnjjngaaGreatDoorMPla
namespace Go.Proofs.YtnmfjnfdnjjngaaGreatDoor
open Go.RowKit
set_option maxRecDepth 100000

/-- errors.Is of an error against a number. -/
theorem is_err {lo : Nat} {w : World} {v : Value} {c a : Int} (h : ErrV lo w v c a) {f : Int} (hf : f ≠ 0) : Calls Tryz.prog 20 #[v, .iface 38 (.int .i64 f)] w fun e w' => e = .returned (.bool (c == f)) ∧ w' = w := by
  rcases h with ⟨rfl, _, rfl⟩ | ⟨_, _, rfl⟩ | ⟨_, _, b, rfl, _, _, _, h5⟩
  · have hc : ((0 : Int) == f) = false := by simp; omega
    rw [hc]
    exact is_nil f w
  · exact is_num c f w
  · exact is_fault b 0 c f w h5
/-- api.Place of an error. -/
theorem place_err {lo : Nat} {w : World} {v : Value} {c a : Int} (h : ErrV lo w v c a) (hg : ErrDoor w) : Calls Tryz.prog 14 #[v] w fun e w' => e = .returned (.int .i64 a) ∧ Below w.heap.size w w' := by
  rcases h with ⟨_, rfl, rfl⟩ | ⟨_, rfl, rfl⟩ | ⟨_, _, b, rfl, _, h3, h4, _⟩
  · exact place_nil w
  · exact place_num c w hg
  · exact place_fault b 0 a w hg h4 h3

end Go.Proofs.YtnmfjnfdnjjngaaGreatDoor
