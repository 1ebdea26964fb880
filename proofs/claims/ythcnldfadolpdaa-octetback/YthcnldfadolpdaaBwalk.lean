/-
  The statement OctetBack, walked.
-/
import Derived.Test.YthcnldfadolpdaaMid
import Derived.Deep.RegionHeld3
namespace Go.Proofs.Ythcnldfadolpdaa
open Go.RowKit

theorem get_mid1 (a b : ByteArray) (n : Int) (w : World) (ha : a.size ≤ 140737488351232) (hb : b.size ≤ 140737488351232) :
    Calls Try.prog 11 #[.string (a ++ putS n 1 ++ b), .int .i64 a.size, .int .i64 1] w fun e w' => e = .returned (.tuple #[.int .u64 (n % 256), .bool true]) ∧ w = w' :=
  (get_mid a b n 1 (by decide) w ha hb).mono fun _ _ ⟨he, hw⟩ => ⟨he.trans (ret_nb (by simp) rfl), hw⟩
theorem get_head1 (b : ByteArray) (hk : 1 ≤ b.size) (w : World) (hb : b.size ≤ 140737488351232) :
    Calls Try.prog 11 #[.string b, .int .i64 0, .int .i64 1] w fun e w' => e = .returned (.tuple #[.int .u64 (first b 1), .bool true]) ∧ w = w' :=
  get_head b 1 (by decide) hk w hb
theorem get_none1 (b : ByteArray) (hk : ¬ 1 ≤ b.size) (w : World) (hb : b.size ≤ 140737488351232) :
    Calls Try.prog 11 #[.string b, .int .i64 0, .int .i64 1] w fun e w' => e = .returned (.tuple #[.int .u64 0, .bool false]) ∧ w = w' :=
  get_none b 1 hk w hb
theorem put_first1 (b : ByteArray) (hk : 1 ≤ b.size) (w : World) :
    Calls Try.prog 8 #[.int .u64 (first b 1), .int .i64 1] w fun e w' => e = .returned (.string (b.extract 0 1)) ∧ Below w.heap.size w w' :=
  put_first b 1 (by decide) hk w
theorem get_mid2 (a b : ByteArray) (n : Int) (w : World) (ha : a.size ≤ 140737488351232) (hb : b.size ≤ 140737488351232) :
    Calls Try.prog 11 #[.string (a ++ putS n 2 ++ b), .int .i64 a.size, .int .i64 2] w fun e w' => e = .returned (.tuple #[.int .u64 (n % 65536), .bool true]) ∧ w = w' :=
  (get_mid a b n 2 (by decide) w ha hb).mono fun _ _ ⟨he, hw⟩ => ⟨he.trans (ret_nb (by simp) rfl), hw⟩
theorem get_head2 (b : ByteArray) (hk : 2 ≤ b.size) (w : World) (hb : b.size ≤ 140737488351232) :
    Calls Try.prog 11 #[.string b, .int .i64 0, .int .i64 2] w fun e w' => e = .returned (.tuple #[.int .u64 (first b 2), .bool true]) ∧ w = w' :=
  get_head b 2 (by decide) hk w hb
theorem get_none2 (b : ByteArray) (hk : ¬ 2 ≤ b.size) (w : World) (hb : b.size ≤ 140737488351232) :
    Calls Try.prog 11 #[.string b, .int .i64 0, .int .i64 2] w fun e w' => e = .returned (.tuple #[.int .u64 0, .bool false]) ∧ w = w' :=
  get_none b 2 hk w hb
theorem put_first2 (b : ByteArray) (hk : 2 ≤ b.size) (w : World) :
    Calls Try.prog 8 #[.int .u64 (first b 2), .int .i64 2] w fun e w' => e = .returned (.string (b.extract 0 2)) ∧ Below w.heap.size w w' :=
  put_first b 2 (by decide) hk w
theorem get_mid4 (a b : ByteArray) (n : Int) (w : World) (ha : a.size ≤ 140737488351232) (hb : b.size ≤ 140737488351232) :
    Calls Try.prog 11 #[.string (a ++ putS n 4 ++ b), .int .i64 a.size, .int .i64 4] w fun e w' => e = .returned (.tuple #[.int .u64 (n % 4294967296), .bool true]) ∧ w = w' :=
  (get_mid a b n 4 (by decide) w ha hb).mono fun _ _ ⟨he, hw⟩ => ⟨he.trans (ret_nb (by simp) rfl), hw⟩
theorem get_head4 (b : ByteArray) (hk : 4 ≤ b.size) (w : World) (hb : b.size ≤ 140737488351232) :
    Calls Try.prog 11 #[.string b, .int .i64 0, .int .i64 4] w fun e w' => e = .returned (.tuple #[.int .u64 (first b 4), .bool true]) ∧ w = w' :=
  get_head b 4 (by decide) hk w hb
theorem get_none4 (b : ByteArray) (hk : ¬ 4 ≤ b.size) (w : World) (hb : b.size ≤ 140737488351232) :
    Calls Try.prog 11 #[.string b, .int .i64 0, .int .i64 4] w fun e w' => e = .returned (.tuple #[.int .u64 0, .bool false]) ∧ w = w' :=
  get_none b 4 hk w hb
theorem put_first4 (b : ByteArray) (hk : 4 ≤ b.size) (w : World) :
    Calls Try.prog 8 #[.int .u64 (first b 4), .int .i64 4] w fun e w' => e = .returned (.string (b.extract 0 4)) ∧ Below w.heap.size w w' :=
  put_first b 4 (by decide) hk w
theorem get_mid8 (a b : ByteArray) (n : Int) (w : World) (ha : a.size ≤ 140737488351232) (hb : b.size ≤ 140737488351232) (h0 : 0 ≤ n) (h1 : n < 18446744073709551616) :
    Calls Try.prog 11 #[.string (a ++ putS n 8 ++ b), .int .i64 a.size, .int .i64 8] w fun e w' => e = .returned (.tuple #[.int .u64 (n), .bool true]) ∧ w = w' :=
  (get_mid a b n 8 (by decide) w ha hb).mono fun _ _ ⟨he, hw⟩ => ⟨he.trans (ret_nb (by simp; omega) rfl), hw⟩
theorem get_head8 (b : ByteArray) (hk : 8 ≤ b.size) (w : World) (hb : b.size ≤ 140737488351232) :
    Calls Try.prog 11 #[.string b, .int .i64 0, .int .i64 8] w fun e w' => e = .returned (.tuple #[.int .u64 (first b 8), .bool true]) ∧ w = w' :=
  get_head b 8 (by decide) hk w hb
theorem get_none8 (b : ByteArray) (hk : ¬ 8 ≤ b.size) (w : World) (hb : b.size ≤ 140737488351232) :
    Calls Try.prog 11 #[.string b, .int .i64 0, .int .i64 8] w fun e w' => e = .returned (.tuple #[.int .u64 0, .bool false]) ∧ w = w' :=
  get_none b 8 hk w hb
theorem put_first8 (b : ByteArray) (hk : 8 ≤ b.size) (w : World) :
    Calls Try.prog 8 #[.int .u64 (first b 8), .int .i64 8] w fun e w' => e = .returned (.string (b.extract 0 8)) ∧ Below w.heap.size w w' :=
  put_first b 8 (by decide) hk w

/-- A counter behind a block that the call itself laid. -/
def Beside (n : Nat) (w w1 : World) (i : Value) (wr : World) : Prop := ∃ j : Nat, j ≤ n ∧ i = .int .i64 j ∧ Below (w.heap.size + 1) w1 wr

theorem beside_end {w wr w2 : World} {o : Obj} (hB : Below (w.heap.size + 1) (w.alloc o) wr) (hB2 : Below wr.heap.size wr w2) : Below w.heap.size w w2 :=
  (((Below.refl w.heap.size w).alloc (Nat.le_refl _) o).trans (hB.mono (Nat.le_succ _))).trans (hB2.mono (by have := hB.size; simp at this; omega))

set_option maxHeartbeats 4000000 in
theorem back_any (n : Int) (a b : ByteArray) (w : World) (h0 : 0 ≤ n) (h1 : n < 18446744073709551616) (ha : a.size ≤ 140737488351232) (hb : b.size ≤ 140737488351232) :
    Calls Try.prog 5 #[.int .u64 n, .string a, .string b] w fun e w' => e = .returned (.bool true) ∧ Below w.heap.size w w' := by
  go_enter Try.func5, Try.ntmps5
  go_wp2_with fail
  go_loopw [16] (fun i wr => Beside 4 w (w.alloc (.cells #[.int .i64 1, .int .i64 2, .int .i64 4, .int .i64 8] 3)) i wr) (fun i _ => 4 - (intOf i).toNat)
  case atStart => exact ⟨0, by omega, rfl, Below.refl _ _⟩
  case round =>
    obtain ⟨j, hj, rfl, hB⟩ := hrel
    have : j = 0 ∨ j = 1 ∨ j = 2 ∨ j = 3 ∨ j = 4 := by omega
    rcases this with rfl | rfl | rfl | rfl | rfl
    · have hc : wr.cell? ⟨w.heap.size, 0, none⟩ = some (.int .i64 1) := (hB.cell (p := ⟨w.heap.size, 0, none⟩) (by simp)).trans (by simp)
      have hp : (putS n 1).size = 1 := putS_size (k := 1) (by decide)
      go_wp2_with fail
      refine (put_any n 1 wr h0 h1).mono ?_
      rintro e w2 ⟨rfl, hB2⟩
      go_wp2_with fail
      refine (get_mid1 a b n w2 ha hb).mono ?_
      rintro e w' ⟨rfl, rfl⟩
      have HB2 := Lib.hid (hB.trans (hB2.mono (by have := hB.size; simp at this; omega)))
      clear hB hB2 hc hp
      by_cases hk : 1 ≤ b.size
      · go_wp2_with fail
        refine (get_head1 b hk w2 hb).mono ?_
        rintro e w' ⟨rfl, rfl⟩
        go_wp2_with fail
        have d1 : decide ((1 : Int) ≤ (b.size : Int)) = true := by simp; omega
        have d2 : (1 : Int) ≤ (b.size : Int) := by omega
        go_region_held3 (fun _ => True) (trivial) (first | (go_at_call 8; refine (put_first1 b hk _).mono ?_; rintro e w3 ⟨rfl, hB3⟩))
        go_wp2_with fail
        go_roundw
        case rel => exact ⟨1, by omega, rfl, HB2.out.drew.trans (hB3.mono (by have := HB2.out.size; simp at this; exact this))⟩
        case measure => simp [intOf]
      · go_wp2_with fail
        refine (get_none1 b hk w2 hb).mono ?_
        rintro e w' ⟨rfl, rfl⟩
        go_wp2_with fail
        have d1 : decide ((1 : Int) ≤ (b.size : Int)) = false := by simp; omega
        go_quiet (fail)
        go_wp2_with fail
        go_roundw
        case rel => exact ⟨1, by omega, rfl, below_drewN HB2.out _⟩
        case measure => simp [intOf]
    · have hc : wr.cell? ⟨w.heap.size, 1, none⟩ = some (.int .i64 2) := (hB.cell (p := ⟨w.heap.size, 1, none⟩) (by simp)).trans (by simp)
      have hp : (putS n 2).size = 2 := putS_size (k := 2) (by decide)
      go_wp2_with fail
      refine (put_any n 2 wr h0 h1).mono ?_
      rintro e w2 ⟨rfl, hB2⟩
      go_wp2_with fail
      refine (get_mid2 a b n w2 ha hb).mono ?_
      rintro e w' ⟨rfl, rfl⟩
      have HB2 := Lib.hid (hB.trans (hB2.mono (by have := hB.size; simp at this; omega)))
      clear hB hB2 hc hp
      by_cases hk : 2 ≤ b.size
      · go_wp2_with fail
        refine (get_head2 b hk w2 hb).mono ?_
        rintro e w' ⟨rfl, rfl⟩
        go_wp2_with fail
        have d1 : decide ((2 : Int) ≤ (b.size : Int)) = true := by simp; omega
        have d2 : (2 : Int) ≤ (b.size : Int) := by omega
        go_region_held3 (fun _ => True) (trivial) (first | (go_at_call 8; refine (put_first2 b hk _).mono ?_; rintro e w3 ⟨rfl, hB3⟩))
        go_wp2_with fail
        go_roundw
        case rel => exact ⟨2, by omega, rfl, HB2.out.drew.trans (hB3.mono (by have := HB2.out.size; simp at this; exact this))⟩
        case measure => simp [intOf]
      · go_wp2_with fail
        refine (get_none2 b hk w2 hb).mono ?_
        rintro e w' ⟨rfl, rfl⟩
        go_wp2_with fail
        have d1 : decide ((2 : Int) ≤ (b.size : Int)) = false := by simp; omega
        go_quiet (fail)
        go_wp2_with fail
        go_roundw
        case rel => exact ⟨2, by omega, rfl, below_drewN HB2.out _⟩
        case measure => simp [intOf]
    · have hc : wr.cell? ⟨w.heap.size, 2, none⟩ = some (.int .i64 4) := (hB.cell (p := ⟨w.heap.size, 2, none⟩) (by simp)).trans (by simp)
      have hp : (putS n 4).size = 4 := putS_size (k := 4) (by decide)
      go_wp2_with fail
      refine (put_any n 4 wr h0 h1).mono ?_
      rintro e w2 ⟨rfl, hB2⟩
      go_wp2_with fail
      refine (get_mid4 a b n w2 ha hb).mono ?_
      rintro e w' ⟨rfl, rfl⟩
      have HB2 := Lib.hid (hB.trans (hB2.mono (by have := hB.size; simp at this; omega)))
      clear hB hB2 hc hp
      by_cases hk : 4 ≤ b.size
      · go_wp2_with fail
        refine (get_head4 b hk w2 hb).mono ?_
        rintro e w' ⟨rfl, rfl⟩
        go_wp2_with fail
        have d1 : decide ((4 : Int) ≤ (b.size : Int)) = true := by simp; omega
        have d2 : (4 : Int) ≤ (b.size : Int) := by omega
        go_region_held3 (fun _ => True) (trivial) (first | (go_at_call 8; refine (put_first4 b hk _).mono ?_; rintro e w3 ⟨rfl, hB3⟩))
        go_wp2_with fail
        go_roundw
        case rel => exact ⟨3, by omega, rfl, HB2.out.drew.trans (hB3.mono (by have := HB2.out.size; simp at this; exact this))⟩
        case measure => simp [intOf]
      · go_wp2_with fail
        refine (get_none4 b hk w2 hb).mono ?_
        rintro e w' ⟨rfl, rfl⟩
        go_wp2_with fail
        have d1 : decide ((4 : Int) ≤ (b.size : Int)) = false := by simp; omega
        go_quiet (fail)
        go_wp2_with fail
        go_roundw
        case rel => exact ⟨3, by omega, rfl, below_drewN HB2.out _⟩
        case measure => simp [intOf]
    · have hc : wr.cell? ⟨w.heap.size, 3, none⟩ = some (.int .i64 8) := (hB.cell (p := ⟨w.heap.size, 3, none⟩) (by simp)).trans (by simp)
      have hp : (putS n 8).size = 8 := putS_size (k := 8) (by decide)
      go_wp2_with fail
      refine (put_any n 8 wr h0 h1).mono ?_
      rintro e w2 ⟨rfl, hB2⟩
      go_wp2_with fail
      refine (get_mid8 a b n w2 ha hb h0 h1).mono ?_
      rintro e w' ⟨rfl, rfl⟩
      have HB2 := Lib.hid (hB.trans (hB2.mono (by have := hB.size; simp at this; omega)))
      clear hB hB2 hc hp
      by_cases hk : 8 ≤ b.size
      · go_wp2_with fail
        refine (get_head8 b hk w2 hb).mono ?_
        rintro e w' ⟨rfl, rfl⟩
        go_wp2_with fail
        have d1 : decide ((8 : Int) ≤ (b.size : Int)) = true := by simp; omega
        have d2 : (8 : Int) ≤ (b.size : Int) := by omega
        go_region_held3 (fun _ => True) (trivial) (first | (go_at_call 8; refine (put_first8 b hk _).mono ?_; rintro e w3 ⟨rfl, hB3⟩))
        go_wp2_with fail
        go_roundw
        case rel => exact ⟨4, by omega, rfl, HB2.out.drew.trans (hB3.mono (by have := HB2.out.size; simp at this; exact this))⟩
        case measure => simp [intOf]
      · go_wp2_with fail
        refine (get_none8 b hk w2 hb).mono ?_
        rintro e w' ⟨rfl, rfl⟩
        go_wp2_with fail
        have d1 : decide ((8 : Int) ≤ (b.size : Int)) = false := by simp; omega
        go_quiet (fail)
        go_wp2_with fail
        go_roundw
        case rel => exact ⟨4, by omega, rfl, below_drewN HB2.out _⟩
        case measure => simp [intOf]
    · go_wp2_with fail
      refine (wakes_any wr).mono ?_
      rintro e w2 ⟨rfl, hB2⟩
      go_wp2_with fail
      go_ret
      exact ⟨rfl, beside_end hB hB2⟩
end Go.Proofs.Ythcnldfadolpdaa
