/-
  The statement VintGets, walked.
-/
import Derived.Test.YtmdifblaloalpaaPwalk
namespace Go.Proofs.Ytmdifblaloalpaa
open Go.RowKit

/-- A number, or 0 if it is below 0. -/
def pos (n : Int) : Int := if n > 0 then n else 0
theorem run_max0 (w : World) (ts : Array TypeId) (t : TypeId) (x : Int) : (Builtin.max_ ts t #[.int .i64 0, .int .i64 x]).run Try.prog w = .ok (.int .i64 (pos x)) w := run_max_int2 w ts t .i64 .i64 0 x
theorem pos_nn (n : Int) : 0 ≤ pos n := by unfold pos; split <;> omega
theorem pos_le (n : Int) (h : n ≤ 9223372036854775807) : pos n ≤ 9223372036854775807 := by unfold pos; split <;> omega

/-- A counter behind a block that the call itself laid. -/
def Beside (n : Nat) (w w1 : World) (i : Value) (wr : World) : Prop := ∃ j : Nat, j ≤ n ∧ i = .int .i64 j ∧ Below (w.heap.size + 1) w1 wr
theorem beside_end {w wr w2 : World} {o : Obj} (hB : Below (w.heap.size + 1) (w.alloc o) wr) (hB2 : Below wr.heap.size wr w2) : Below w.heap.size w w2 :=
  (((Below.refl w.heap.size w).alloc (Nat.le_refl _) o).trans (hB.mono (Nat.le_succ _))).trans (hB2.mono (by have := hB.size; simp at this; omega))

theorem cell_two (w : World) (x y : Int) (j : Nat) (hj : j < 2) : ∃ z : Int, (w.alloc (.cells #[.int .i64 x, .int .i64 y] 3)).cell? ⟨w.heap.size, j, none⟩ = some (.int .i64 z) := by
  have : j = 0 ∨ j = 1 := by omega
  rcases this with rfl | rfl
  · exact ⟨x, by simp⟩
  · exact ⟨y, by simp⟩

set_option maxHeartbeats 1000000 in
theorem gets_any (s : ByteArray) (a : Int) (w : World) (hs : s.size ≤ 140737488351232) (ha : a ≤ 9223372036854775807) :
    Calls Try.prog 4 #[.string s, .int .i64 a] w fun e w' => e = .returned (.bool true) ∧ Below w.heap.size w w' := by
  have hm : s.size ≤ 422212465065984 := by omega
  have hmax := run_max0
  have p0 := pos_nn a
  have p1 := pos_le a ha
  go_enter Try.func4, Try.ntmps4
  go_wp2_with fail
  go_loopw [22] (fun i wr => Beside 2 w (w.alloc (.cells #[.int .i64 a, .int .i64 (pos a % ((s.size : Int) + 1))] 3)) i wr) (fun i _ => 2 - (intOf i).toNat)
  case atStart => exact ⟨0, by omega, rfl, Below.refl _ _⟩
  case round =>
    obtain ⟨j, hj, rfl, hB⟩ := hrel
    by_cases hlt : j < 2
    · obtain ⟨y, hy⟩ := cell_two w a (pos a % ((s.size : Int) + 1)) j hlt
      have hc : wr.cell? ⟨w.heap.size, j, none⟩ = some (.int .i64 y) := (hB.cell (p := ⟨w.heap.size, j, none⟩) (by simp)).trans hy
      clear hy
      go_wp2_with fail
      refine (vget_any s y wr hm).mono ?_
      rintro e w2 ⟨rfl, hB2⟩
      go_wp2_with fail
      refine (rvget_any s y w2 hm).mono ?_
      rintro e w3 ⟨rfl, hB3⟩
      have HB := Lib.hid (hB2.trans (hB3.mono hB2.size))
      have HC := Lib.hid hB
      clear hB2 hB3 hB hc
      go_wp2_with fail
      go_roundw
      case rel => exact ⟨j + 1, by omega, by go_num, HC.out.trans (HB.out.mono (by have := HC.out.size; simp at this; exact this))⟩
      case measure => simp [intOf]; omega
    · go_wp2_with fail
      refine (wakes_any wr).mono ?_
      rintro e w2 ⟨rfl, hB2⟩
      go_wp2_with fail
      go_ret
      exact ⟨rfl, beside_end hB hB2⟩
end Go.Proofs.Ytmdifblaloalpaa
