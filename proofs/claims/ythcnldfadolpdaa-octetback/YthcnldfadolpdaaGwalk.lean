/-
  The statement OctetGets, walked.
-/
import Derived.Test.YthcnldfadolpdaaPwalk
namespace Go.Proofs.Ythcnldfadolpdaa
open Go.RowKit

/-- A number, or 0 if it is below 0. -/
def pos (n : Int) : Int := if n > 0 then n else 0
theorem run_max0 (w : World) (ts : Array TypeId) (t : TypeId) (x : Int) : (Builtin.max_ ts t #[.int .i64 0, .int .i64 x]).run Try.prog w = .ok (.int .i64 (pos x)) w := run_max_int2 w ts t .i64 .i64 0 x
theorem pos_nn (n : Int) : 0 ≤ pos n := by unfold pos; split <;> omega
theorem pos_le (n : Int) (h : n ≤ 9223372036854775807) : pos n ≤ 9223372036854775807 := by unfold pos; split <;> omega

/-- A counter of the inner loop. -/
def Two (i : Value) : Prop := ∃ j : Nat, j ≤ 2 ∧ i = .int .i64 j

theorem cell_two (w : World) (x y : Int) (j : Nat) (hj : j < 2) : ∃ z : Int, (w.alloc (.cells #[.int .i64 x, .int .i64 y] 3)).cell? ⟨w.heap.size, j, none⟩ = some (.int .i64 z) := by
  have : j = 0 ∨ j = 1 := by omega
  rcases this with rfl | rfl
  · exact ⟨x, by simp⟩
  · exact ⟨y, by simp⟩

set_option maxHeartbeats 1000000 in
theorem gets_any (s : ByteArray) (a k : Int) (w : World) (hs : s.size ≤ 140737488351232) (ha : a ≤ 9223372036854775807) :
    Calls Try.prog 4 #[.string s, .int .i64 a, .int .i64 k] w fun e w' => e = .returned (.bool true) ∧ Below w.heap.size w w' := by
  have hm : s.size ≤ maxLen := by unfold maxLen; omega
  have hmax := run_max0
  have p0 := pos_nn a
  have p1 := pos_le a ha
  go_enter Try.func4, Try.ntmps4
  go_wp2_with fail
  refine (sizes_any k w).mono ?_
  rintro e w1 ⟨rfl, hB⟩
  go_wp2_with fail
  go_loopw [17] (fun i wr => UpTo 5 w i wr) (fun i _ => 5 - (intOf i).toNat)
  case atStart => exact ⟨0, by omega, rfl, hB⟩
  case round =>
    obtain ⟨j, hj, rfl, hB⟩ := hrel
    by_cases hlt : j < 5
    · have hx := index_five k j hlt
      generalize sel k j = x at hx
      have dj : decide ((j : Int) < 5) = true := by simp; omega
      go_wp2_with fail
      obtain ⟨w2, rfl⟩ : ∃ w2, w2 = wr := ⟨_, rfl⟩
      go_loop [29] (fun i => Two i) (fun i => 2 - (intOf i).toNat)
      case atStart => exact ⟨0, by omega, rfl⟩
      case round =>
        obtain ⟨i, hi, rfl⟩ := hrel
        by_cases hlt2 : i < 2
        · obtain ⟨y, hy⟩ := cell_two w2 a (pos a % ((s.size : Int) + 1)) i hlt2
          go_wp2_with fail
          refine (get_any s y x _ hm).mono ?_
          rintro e w' ⟨rfl, rfl⟩
          go_wp2_with fail
          refine (rget_any s y x _ hm).mono ?_
          rintro e w' ⟨rfl, rfl⟩
          go_wp2_with fail
          go_round
          case rel => exact ⟨i + 1, by omega, by go_num⟩
          case measure => simp [intOf]; omega
        · go_wp2_with fail
          go_roundw
          case rel => exact ⟨j + 1, by omega, by go_num, hB.alloc hB.size _⟩
          case measure => simp [intOf]; omega
    · go_wp2_with fail
      refine (wakes_any wr).mono ?_
      rintro e w2 ⟨rfl, hB2⟩
      go_wp2_with fail
      go_ret
      exact ⟨rfl, hB.trans (hB2.mono hB.size)⟩
end Go.Proofs.Ythcnldfadolpdaa
