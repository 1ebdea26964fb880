/-
  The document's length: a number as layer 3's bytes.
-/
import Derived.Test.YtfobdefncbaooaaDoorViput
import Derived.Test.YtfobdefncbaooaaDoorClo
namespace Go.Proofs.YtfobdefncbaooaaDoor
open Go.RowKit

set_option maxHeartbeats 1000000 in
theorem length_any (n : Nat) (w : World) (h1 : n < 9223372036854775808) : Calls Tryd.prog 43 #[.int .i64 (n : Int)] w fun x w' => x = .returned (.string (Vi.vstr n)) ∧ Below w.heap.size w w' := by
  have v1 : IntKind.u64.wrap (n : Int) = n := by rw [IntKind.wrap_u64]; omega
  go_enter Tryd.func43, Tryd.ntmps43
  go_wp2_with fail
  refine (Vi.rvput_any (n : Int) _ (by omega) (by omega)).mono ?_
  rintro x w1 ⟨rfl, hb⟩
  go_wp2_with fail
  go_ret
  exact ⟨rfl, hb⟩

end Go.Proofs.YtfobdefncbaooaaDoor
