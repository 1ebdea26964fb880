/-
  What each call of layer 1 does: contracts over the translation.
-/
import Derived.Test.YtndjbobgccpdfaaRows
import Derived.Test.YtndjbobgccpdfaaMath
import Derived.WalkKit
import Derived.WalkSpells
import Derived.WalkLawsBesides
import Derived.Deep.QuietTactic
import Derived.BigQuiet
import Derived.Lib.Hide
namespace Go.Proofs.Ytndjbobgccpdfaa
open Go.RowKit

theorem ret_int {k : IntKind} {a b : Int} (h : a = b) : Ending.returned (.int k a) = .returned (.int k b) := by rw [h]
theorem ret_bool {a b : Bool} (h : a = b) : Ending.returned (.bool a) = .returned (.bool b) := by rw [h]
theorem ret_pair {k l : IntKind} {a b c d : Int} (h : a = b) (g : c = d) : Ending.returned (.tuple #[.int k a, .int l c]) = .returned (.tuple #[.int k b, .int l d]) := by rw [h, g]

set_option maxHeartbeats 400000 in
theorem within_any (n m : Int) (w : World) :
    Calls Try.prog 25 #[.int .i64 n, .int .i64 m] w fun e w' => e = .returned (.bool (inB n m)) ∧ w = w' := by
  by_cases h : 0 ≤ n
  · go_enter Try.func25, Try.ntmps25
    go_wp2
    go_ret
    exact ⟨ret_bool (by simp [inB, h]), rfl⟩
  · go_enter Try.func25, Try.ntmps25
    go_wp2
    go_ret
    exact ⟨ret_bool (inB_false (by omega)).symm, rfl⟩

set_option maxHeartbeats 400000 in
theorem good_any (n : Int) (w : World) :
    Calls Try.prog 15 #[.int .i64 n] w fun e w' => e = .returned (.bool (goodB n)) ∧ w = w' := by
  go_enter Try.func15, Try.ntmps15
  go_wp2_with (go_at_call 25; refine (within_any _ _ _).mono ?_; rintro e w' ⟨rfl, rfl⟩)
  go_ret
  exact ⟨rfl, rfl⟩

set_option maxHeartbeats 400000 in
theorem isnan_any (n : Int) (w : World) :
    Calls Try.prog 29 #[.int .i64 n] w fun e w' => e = .returned (.bool false) ∧ w = w' := by
  go_enter Try.func29, Try.ntmps29
  go_wp2
  go_ret
  exact ⟨by simp, rfl⟩

set_option maxHeartbeats 400000 in
theorem cmp_any (x y : Int) (w : World) :
    Calls Try.prog 27 #[.int .i64 x, .int .i64 y] w fun e w' => e = .returned (.int .i64 (cmpI x y)) ∧ w = w' := by
  by_cases h1 : x < y
  · go_enter Try.func27, Try.ntmps27
    go_wp2_with (go_at_call 29; refine (isnan_any _ _).mono ?_; rintro e w' ⟨rfl, rfl⟩)
    go_ret
    exact ⟨ret_int (cmpI_lt h1).symm, rfl⟩
  · by_cases h2 : y < x
    · go_enter Try.func27, Try.ntmps27
      go_wp2_with (go_at_call 29; refine (isnan_any _ _).mono ?_; rintro e w' ⟨rfl, rfl⟩)
      go_ret
      exact ⟨ret_int (cmpI_gt h2).symm, rfl⟩
    · go_enter Try.func27, Try.ntmps27
      go_wp2_with (go_at_call 29; refine (isnan_any _ _).mono ?_; rintro e w' ⟨rfl, rfl⟩)
      go_ret
      exact ⟨ret_int (cmpI_eq (by omega)).symm, rfl⟩

set_option maxHeartbeats 400000 in
theorem add_any (a b : Int) (w : World) :
    Calls Try.prog 12 #[.int .i64 a, .int .i64 b] w fun e w' => e = .returned (.tuple #[.int .i64 (addV a b), .int .i64 (addE a b)]) ∧ w = w' := by
  cases h1 : goodB a
  · go_enter Try.func12, Try.ntmps12
    go_wp2_with (go_at_call 15; refine (good_any _ _).mono ?_; rintro e w' ⟨rfl, rfl⟩)
    go_ret2
    exact ⟨ret_pair (by simp [addV, addOk, h1]) (by simp [addE, addOk, h1]), rfl⟩
  · cases h2 : goodB b
    · go_enter Try.func12, Try.ntmps12
      go_wp2_with (go_at_call 15; refine (good_any _ _).mono ?_; rintro e w' ⟨rfl, rfl⟩)
      go_ret2
      exact ⟨ret_pair (by simp [addV, addOk, h2]) (by simp [addE, addOk, h2]), rfl⟩
    · have b1 := (goodB_iff a).1 h1
      have b2 := (goodB_iff b).1 h2
      cases h3 : goodB (a + b)
      · go_enter Try.func12, Try.ntmps12
        go_wp2_with (go_at_call 15; refine (good_any _ _).mono ?_; rintro e w' ⟨rfl, rfl⟩)
        go_ret2
        exact ⟨ret_pair (by simp [addV, addOk, h3]) (by simp [addE, addOk, h3]), rfl⟩
      · go_enter Try.func12, Try.ntmps12
        go_wp2_with (go_at_call 15; refine (good_any _ _).mono ?_; rintro e w' ⟨rfl, rfl⟩)
        go_ret2
        exact ⟨ret_pair (by simp [addV, addOk, h1, h2, h3]) (by simp [addE, addOk, h1, h2, h3]), rfl⟩

set_option maxHeartbeats 400000 in
theorem sub_any (a b : Int) (w : World) :
    Calls Try.prog 13 #[.int .i64 a, .int .i64 b] w fun e w' => e = .returned (.tuple #[.int .i64 (subV a b), .int .i64 (subE a b)]) ∧ w = w' := by
  cases h1 : goodB a
  · go_enter Try.func13, Try.ntmps13
    go_wp2_with (go_at_call 15; refine (good_any _ _).mono ?_; rintro e w' ⟨rfl, rfl⟩)
    go_ret2
    exact ⟨ret_pair (by simp [subV, subOk, h1]) (by simp [subE, subOk, h1]), rfl⟩
  · cases h2 : goodB b
    · go_enter Try.func13, Try.ntmps13
      go_wp2_with (go_at_call 15; refine (good_any _ _).mono ?_; rintro e w' ⟨rfl, rfl⟩)
      go_ret2
      exact ⟨ret_pair (by simp [subV, subOk, h2]) (by simp [subE, subOk, h2]), rfl⟩
    · have b1 := (goodB_iff a).1 h1
      have b2 := (goodB_iff b).1 h2
      by_cases h3 : b ≤ a
      · go_enter Try.func13, Try.ntmps13
        go_wp2_with (go_at_call 15; refine (good_any _ _).mono ?_; rintro e w' ⟨rfl, rfl⟩)
        go_ret2
        exact ⟨ret_pair (by simp [subV, subOk, h1, h2, h3]) (by simp [subE, subOk, h1, h2, h3]), rfl⟩
      · have h4 : decide (b ≤ a) = false := by simpa using h3
        have H4 := Lib.hid h4
        clear h4
        go_enter Try.func13, Try.ntmps13
        go_wp2_with (go_at_call 15; refine (good_any _ _).mono ?_; rintro e w' ⟨rfl, rfl⟩)
        go_ret2
        exact ⟨ret_pair (by simp [subV, subOk, H4.out]) (by simp [subE, subOk, H4.out]), rfl⟩
end Go.Proofs.Ytndjbobgccpdfaa
