/-
  What the document fixes, and the sizes that the statements go through.
-/
import Derived.Test.YthcnldfadolpdaaPut
namespace Go.Proofs.Ythcnldfadolpdaa
open Go.RowKit

theorem put_258 (w : World) : Calls Try.prog 8 #[.int .u64 258, .int .i64 2] w fun e w' => e = .returned (.string ⟨#[2, 1]⟩) ∧ Below w.heap.size w w' :=
  (put_any 258 2 w (by decide) (by decide)).mono fun _ _ ⟨he, hw⟩ => ⟨he.trans (ret_str (by decide)), hw⟩
theorem put_1 (w : World) : Calls Try.prog 8 #[.int .u64 1, .int .i64 3] w fun e w' => e = .returned (.string ⟨#[]⟩) ∧ Below w.heap.size w w' :=
  (put_any 1 3 w (by decide) (by decide)).mono fun _ _ ⟨he, hw⟩ => ⟨he.trans (ret_str (by decide)), hw⟩
theorem get_258 (w : World) : Calls Try.prog 11 #[.string ⟨#[120, 2, 1]⟩, .int .i64 1, .int .i64 2] w fun e w' => e = .returned (.tuple #[.int .u64 258, .bool true]) ∧ w = w' :=
  (get_any ⟨#[120, 2, 1]⟩ 1 2 w (by decide)).mono fun _ _ ⟨he, hw⟩ => ⟨he.trans (ret_nb (by decide) (by decide)), hw⟩

set_option maxHeartbeats 1000000 in
theorem wakes_any (w : World) : Calls Try.prog 10 #[] w fun e w' => e = .returned (.bool true) ∧ Below w.heap.size w w' := by
  go_enter Try.func10, Try.ntmps10
  go_wp2_with fail
  refine (get_258 w).mono ?_
  rintro e w' ⟨rfl, rfl⟩
  go_wp2_with fail
  refine (put_258 w).mono ?_
  rintro e w1 ⟨rfl, hB⟩
  go_wp2_with fail
  refine (put_1 w1).mono ?_
  rintro e w2 ⟨rfl, hB2⟩
  go_wp2_with fail
  go_ret
  exact ⟨rfl, hB.trans (hB2.mono hB.size)⟩

/-- The size at a place of the five. -/
def sel (k : Int) (j : Nat) : Int := match j with
  | 0 => 1
  | 1 => 2
  | 2 => 4
  | 3 => 8
  | _ => k

theorem index0 (k : Int) (w : World) : (Instr.index 23 (.agg #[.int .i64 1, .int .i64 2, .int .i64 4, .int .i64 8, .int .i64 k]) (.int .i64 0)).run Try.prog w = .ok (.int .i64 1) w := by kernel_rfl
theorem index1 (k : Int) (w : World) : (Instr.index 23 (.agg #[.int .i64 1, .int .i64 2, .int .i64 4, .int .i64 8, .int .i64 k]) (.int .i64 1)).run Try.prog w = .ok (.int .i64 2) w := by kernel_rfl
theorem index2 (k : Int) (w : World) : (Instr.index 23 (.agg #[.int .i64 1, .int .i64 2, .int .i64 4, .int .i64 8, .int .i64 k]) (.int .i64 2)).run Try.prog w = .ok (.int .i64 4) w := by kernel_rfl
theorem index3 (k : Int) (w : World) : (Instr.index 23 (.agg #[.int .i64 1, .int .i64 2, .int .i64 4, .int .i64 8, .int .i64 k]) (.int .i64 3)).run Try.prog w = .ok (.int .i64 8) w := by kernel_rfl
theorem index4 (k : Int) (w : World) : (Instr.index 23 (.agg #[.int .i64 1, .int .i64 2, .int .i64 4, .int .i64 8, .int .i64 k]) (.int .i64 4)).run Try.prog w = .ok (.int .i64 k) w := by kernel_rfl

theorem index_five (k : Int) (j : Nat) (hj : j < 5) (w : World) :
    (Instr.index 23 (.agg #[.int .i64 1, .int .i64 2, .int .i64 4, .int .i64 8, .int .i64 k]) (.int .i64 (j : Int))).run Try.prog w = .ok (.int .i64 (sel k j)) w := by
  have : j = 0 ∨ j = 1 ∨ j = 2 ∨ j = 3 ∨ j = 4 := by omega
  rcases this with rfl | rfl | rfl | rfl | rfl
  · exact index0 k w
  · exact index1 k w
  · exact index2 k w
  · exact index3 k w
  · exact index4 k w

set_option maxHeartbeats 1000000 in
theorem sizes_any (k : Int) (w : World) :
    Calls Try.prog 7 #[.int .i64 k] w fun e w' => e = .returned (.agg #[.int .i64 1, .int .i64 2, .int .i64 4, .int .i64 8, .int .i64 k]) ∧ Below w.heap.size w w' := by
  go_enter Try.func7, Try.ntmps7
  go_wp2_with fail
  exact bodyPost_ret (v := .agg #[.int .i64 1, .int .i64 2, .int .i64 4, .int .i64 8, .int .i64 k]) (by simp [results, Try.results7, go_sem]) rfl ⟨rfl, (Below.refl _ _).alloc (Nat.le_refl _) _⟩
end Go.Proofs.Ythcnldfadolpdaa
