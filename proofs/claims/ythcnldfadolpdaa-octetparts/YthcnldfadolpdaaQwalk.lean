/-
  The statement OctetParts, walked.
-/
import Derived.Test.YthcnldfadolpdaaBwalk
namespace Go.Proofs.Ythcnldfadolpdaa
open Go.RowKit

theorem get_end (b : ByteArray) (k : Int) (hk : 1 ≤ k) (w : World) (hb : b.size ≤ 140737488351232) :
    Calls Try.prog 11 #[.string b, .int .i64 b.size, .int .i64 k] w fun e w' => e = .returned (.tuple #[.int .u64 0, .bool false]) ∧ w = w' :=
  (get_any b b.size k w (by unfold maxLen; omega)).mono fun _ _ ⟨he, hw⟩ => ⟨he.trans (ret_nb (getN_no (okB_far (by omega))) (okB_far (by omega))), hw⟩

theorem putS_parts (n : Int) (k m : Nat) (h : szB (k + m : Nat) = true) (h1 : szB k = true) (h2 : szB m = true) : putS n (k + m : Nat) = putS n k ++ putS (n / 256 ^ k) m := by
  rw [putS_yes h, putS_yes h1, putS_yes h2, digs_append, str_append]
theorem parts8 (n : Int) : putS n 8 = putS n 4 ++ putS (n / 4294967296) 4 := putS_parts n 4 4 (by decide) (by decide) (by decide)
theorem parts4 (n : Int) : putS n 4 = putS n 2 ++ putS (n / 65536) 2 := putS_parts n 2 2 (by decide) (by decide) (by decide)
theorem parts2 (n : Int) : putS n 2 = putS n 1 ++ putS (n / 256) 1 := putS_parts n 1 1 (by decide) (by decide) (by decide)

set_option maxHeartbeats 4000000 in
theorem parts_any (n : Int) (s : ByteArray) (w : World) (h0 : 0 ≤ n) (h1 : n < 18446744073709551616) (hs : s.size ≤ 140737488351232) :
    Calls Try.prog 6 #[.int .u64 n, .string s] w fun e w' => e = .returned (.bool true) ∧ Below w.heap.size w w' := by
  go_enter Try.func6, Try.ntmps6
  go_wp2_with fail
  refine (put_any n 8 w h0 h1).mono ?_
  rintro e w1 ⟨rfl, hB1⟩
  go_wp2_with fail
  refine (put_any n 4 w1 h0 h1).mono ?_
  rintro e w2 ⟨rfl, hB2⟩
  go_wp2_with fail
  refine (put_any (n / 4294967296) 4 w2 (by omega) (by omega)).mono ?_
  rintro e w3 ⟨rfl, hB3⟩
  go_wp2_with fail
  refine (put_any n 2 w3 h0 h1).mono ?_
  rintro e w4 ⟨rfl, hB4⟩
  have HB := Lib.hid (((hB1.trans (hB2.mono hB1.size)).trans (hB3.mono (Nat.le_trans hB1.size hB2.size))).trans (hB4.mono (Nat.le_trans (Nat.le_trans hB1.size hB2.size) hB3.size)))
  clear hB1 hB2 hB3 hB4
  go_wp2_with fail
  go_loopw [26] (fun i wr => Beside 4 w4 (w4.alloc (.cells #[.int .i64 1, .int .i64 2, .int .i64 4, .int .i64 8] 3)) i wr) (fun i _ => 4 - (intOf i).toNat)
  case atStart => exact ⟨0, by omega, rfl, Below.refl _ _⟩
  case round =>
    obtain ⟨j, hj, rfl, hB⟩ := hrel
    have : j = 0 ∨ j = 1 ∨ j = 2 ∨ j = 3 ∨ j = 4 := by omega
    rcases this with rfl | rfl | rfl | rfl | rfl
    · have hc : wr.cell? ⟨w4.heap.size, 0, none⟩ = some (.int .i64 1) := (hB.cell (p := ⟨w4.heap.size, 0, none⟩) (by simp)).trans (by simp)
      have hp : (putS n 1).size = 1 := putS_size (k := 1) (by decide)
      by_cases hk : 1 ≤ s.size
      · have d1 : decide ((1 : Int) ≤ (s.size : Int)) = true := by simp; omega
        go_wp2_with fail
        refine (get_head1 s hk wr hs).mono ?_
        rintro e w' ⟨rfl, rfl⟩
        go_wp2_with fail
        refine (put_any n 1 wr h0 h1).mono ?_
        rintro e w5 ⟨rfl, hB5⟩
        go_wp2_with fail
        refine (get_end s 1 (by decide) w5 hs).mono ?_
        rintro e w' ⟨rfl, rfl⟩
        go_wp2_with fail
        go_roundw
        case rel => exact ⟨1, by omega, rfl, hB.trans (hB5.mono (by have := hB.size; simp at this; exact this))⟩
        case measure => simp [intOf]
      · have d1 : decide ((1 : Int) ≤ (s.size : Int)) = false := by simp; omega
        go_wp2_with fail
        refine (get_none1 s hk wr hs).mono ?_
        rintro e w' ⟨rfl, rfl⟩
        go_wp2_with fail
        refine (put_any n 1 wr h0 h1).mono ?_
        rintro e w5 ⟨rfl, hB5⟩
        go_wp2_with fail
        refine (get_end s 1 (by decide) w5 hs).mono ?_
        rintro e w' ⟨rfl, rfl⟩
        go_wp2_with fail
        go_roundw
        case rel => exact ⟨1, by omega, rfl, hB.trans (hB5.mono (by have := hB.size; simp at this; exact this))⟩
        case measure => simp [intOf]
    · have hc : wr.cell? ⟨w4.heap.size, 1, none⟩ = some (.int .i64 2) := (hB.cell (p := ⟨w4.heap.size, 1, none⟩) (by simp)).trans (by simp)
      have hp : (putS n 2).size = 2 := putS_size (k := 2) (by decide)
      by_cases hk : 2 ≤ s.size
      · have d1 : decide ((2 : Int) ≤ (s.size : Int)) = true := by simp; omega
        go_wp2_with fail
        refine (get_head2 s hk wr hs).mono ?_
        rintro e w' ⟨rfl, rfl⟩
        go_wp2_with fail
        refine (put_any n 2 wr h0 h1).mono ?_
        rintro e w5 ⟨rfl, hB5⟩
        go_wp2_with fail
        refine (get_end s 2 (by decide) w5 hs).mono ?_
        rintro e w' ⟨rfl, rfl⟩
        go_wp2_with fail
        go_roundw
        case rel => exact ⟨2, by omega, rfl, hB.trans (hB5.mono (by have := hB.size; simp at this; exact this))⟩
        case measure => simp [intOf]
      · have d1 : decide ((2 : Int) ≤ (s.size : Int)) = false := by simp; omega
        go_wp2_with fail
        refine (get_none2 s hk wr hs).mono ?_
        rintro e w' ⟨rfl, rfl⟩
        go_wp2_with fail
        refine (put_any n 2 wr h0 h1).mono ?_
        rintro e w5 ⟨rfl, hB5⟩
        go_wp2_with fail
        refine (get_end s 2 (by decide) w5 hs).mono ?_
        rintro e w' ⟨rfl, rfl⟩
        go_wp2_with fail
        go_roundw
        case rel => exact ⟨2, by omega, rfl, hB.trans (hB5.mono (by have := hB.size; simp at this; exact this))⟩
        case measure => simp [intOf]
    · have hc : wr.cell? ⟨w4.heap.size, 2, none⟩ = some (.int .i64 4) := (hB.cell (p := ⟨w4.heap.size, 2, none⟩) (by simp)).trans (by simp)
      have hp : (putS n 4).size = 4 := putS_size (k := 4) (by decide)
      by_cases hk : 4 ≤ s.size
      · have d1 : decide ((4 : Int) ≤ (s.size : Int)) = true := by simp; omega
        go_wp2_with fail
        refine (get_head4 s hk wr hs).mono ?_
        rintro e w' ⟨rfl, rfl⟩
        go_wp2_with fail
        refine (put_any n 4 wr h0 h1).mono ?_
        rintro e w5 ⟨rfl, hB5⟩
        go_wp2_with fail
        refine (get_end s 4 (by decide) w5 hs).mono ?_
        rintro e w' ⟨rfl, rfl⟩
        go_wp2_with fail
        go_roundw
        case rel => exact ⟨3, by omega, rfl, hB.trans (hB5.mono (by have := hB.size; simp at this; exact this))⟩
        case measure => simp [intOf]
      · have d1 : decide ((4 : Int) ≤ (s.size : Int)) = false := by simp; omega
        go_wp2_with fail
        refine (get_none4 s hk wr hs).mono ?_
        rintro e w' ⟨rfl, rfl⟩
        go_wp2_with fail
        refine (put_any n 4 wr h0 h1).mono ?_
        rintro e w5 ⟨rfl, hB5⟩
        go_wp2_with fail
        refine (get_end s 4 (by decide) w5 hs).mono ?_
        rintro e w' ⟨rfl, rfl⟩
        go_wp2_with fail
        go_roundw
        case rel => exact ⟨3, by omega, rfl, hB.trans (hB5.mono (by have := hB.size; simp at this; exact this))⟩
        case measure => simp [intOf]
    · have hc : wr.cell? ⟨w4.heap.size, 3, none⟩ = some (.int .i64 8) := (hB.cell (p := ⟨w4.heap.size, 3, none⟩) (by simp)).trans (by simp)
      have hp : (putS n 8).size = 8 := putS_size (k := 8) (by decide)
      by_cases hk : 8 ≤ s.size
      · have d1 : decide ((8 : Int) ≤ (s.size : Int)) = true := by simp; omega
        go_wp2_with fail
        refine (get_head8 s hk wr hs).mono ?_
        rintro e w' ⟨rfl, rfl⟩
        go_wp2_with fail
        refine (put_any n 8 wr h0 h1).mono ?_
        rintro e w5 ⟨rfl, hB5⟩
        go_wp2_with fail
        refine (get_end s 8 (by decide) w5 hs).mono ?_
        rintro e w' ⟨rfl, rfl⟩
        go_wp2_with fail
        go_roundw
        case rel => exact ⟨4, by omega, rfl, hB.trans (hB5.mono (by have := hB.size; simp at this; exact this))⟩
        case measure => simp [intOf]
      · have d1 : decide ((8 : Int) ≤ (s.size : Int)) = false := by simp; omega
        go_wp2_with fail
        refine (get_none8 s hk wr hs).mono ?_
        rintro e w' ⟨rfl, rfl⟩
        go_wp2_with fail
        refine (put_any n 8 wr h0 h1).mono ?_
        rintro e w5 ⟨rfl, hB5⟩
        go_wp2_with fail
        refine (get_end s 8 (by decide) w5 hs).mono ?_
        rintro e w' ⟨rfl, rfl⟩
        go_wp2_with fail
        go_roundw
        case rel => exact ⟨4, by omega, rfl, hB.trans (hB5.mono (by have := hB.size; simp at this; exact this))⟩
        case measure => simp [intOf]
    · go_wp2_with fail
      refine (wakes_any wr).mono ?_
      rintro e w5 ⟨rfl, hB5⟩
      have hp1 := putS_size (n := n) (k := 1) (by decide)
      have hp2 := putS_size (n := n) (k := 2) (by decide)
      have hp3 := putS_size (n := n) (k := 4) (by decide)
      have hp4 := putS_size (n := n / 4294967296) (k := 4) (by decide)
      have hp5 := putS_size (n := n / 65536) (k := 2) (by decide)
      have hp6 := putS_size (n := n / 256) (k := 1) (by decide)
      have d8 : ((putS n 8).toList == (putS n 4 ++ putS (n / 4294967296) 4).toList) = true := by rw [parts8 n]; exact beq_self_eq_true _
      have d4 : ((putS n 4).toList == (putS n 2 ++ putS (n / 65536) 2).toList) = true := by rw [parts4 n]; exact beq_self_eq_true _
      have d2 : ((putS n 2).toList == (putS n 1 ++ putS (n / 256) 1).toList) = true := by rw [parts2 n]; exact beq_self_eq_true _
      go_wp2_with fail
      refine (put_any (n / 65536) 2 w5 (by omega) (by omega)).mono ?_
      rintro e w6 ⟨rfl, hB6⟩
      go_wp2_with fail
      refine (put_any n 1 w6 h0 h1).mono ?_
      rintro e w7 ⟨rfl, hB7⟩
      go_wp2_with fail
      refine (put_any (n / 256) 1 w7 (by omega) (by omega)).mono ?_
      rintro e w8 ⟨rfl, hB8⟩
      go_wp2_with fail
      go_ret
      have hC := beside_end hB (((hB5.trans (hB6.mono hB5.size)).trans (hB7.mono (Nat.le_trans hB5.size hB6.size))).trans (hB8.mono (Nat.le_trans (Nat.le_trans hB5.size hB6.size) hB7.size)))
      exact ⟨rfl, HB.out.trans (hC.mono HB.out.size)⟩
end Go.Proofs.Ythcnldfadolpdaa
