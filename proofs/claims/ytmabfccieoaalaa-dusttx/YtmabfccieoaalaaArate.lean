/-
  Fees, rates and how they compare: contracts over the translation.
-/
import Derived.Test.YtmabfccieoaalaaAleaf
namespace Go.Proofs.Ytmabfccieoaalaa.Am
open Go.RowKit

theorem mul_le {a b c d : Int} (h0 : 0 ≤ a) (h1 : a ≤ c) (h2 : 0 ≤ b) (h3 : b ≤ d) : 0 ≤ a * b ∧ a * b ≤ c * d :=
  ⟨Int.mul_nonneg h0 h2, Int.mul_le_mul h1 h3 h2 (by omega)⟩

set_option maxHeartbeats 400000 in
theorem fee_any (r s : Int) (w : World) :
    Calls Try.prog 17 #[.int .i64 r, .int .i64 s] w fun e w' => e = .returned (.tuple #[.int .i64 (feeV r s), .int .i64 (feeE r s)]) ∧ w = w' := by
  cases h1 : inB r 100000000
  · go_enter Try.func17, Try.ntmps17
    go_wp2_with (go_at_call 21; refine (within_any _ _ _).mono ?_; rintro e w' ⟨rfl, rfl⟩)
    go_ret2
    exact ⟨ret_pair (by simp [feeV, feeOk, h1]) (by simp [feeE, feeOk, h1]), rfl⟩
  · cases h2 : inB s 1000000
    · go_enter Try.func17, Try.ntmps17
      go_wp2_with (go_at_call 21; refine (within_any _ _ _).mono ?_; rintro e w' ⟨rfl, rfl⟩)
      go_ret2
      exact ⟨ret_pair (by simp [feeV, feeOk, h2]) (by simp [feeE, feeOk, h2]), rfl⟩
    · have b1 := (inB_iff r _).1 h1
      have b2 := (inB_iff s _).1 h2
      have b3 := mul_le b1.1 b1.2 b2.1 b2.2
      go_enter Try.func17, Try.ntmps17
      go_wp2_with (go_at_call 21; refine (within_any _ _ _).mono ?_; rintro e w' ⟨rfl, rfl⟩)
      go_ret2
      exact ⟨ret_pair (by simp [feeV, feeOk, h1, h2]; omega) (by simp [feeE, feeOk, h1, h2]), rfl⟩

end Go.Proofs.Ytmabfccieoaalaa.Am
