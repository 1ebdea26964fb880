/-
  The document's own answers of layer 1: contracts over the translation.
-/
import Derived.Test.YtndjbobgccpdfaaRate
namespace Go.Proofs.Ytndjbobgccpdfaa
open Go.RowKit

set_option maxHeartbeats 400000 in
theorem rgood_any (n : Int) (w : World) :
    Calls Try.prog 16 #[.int .i64 n] w fun e w' => e = .returned (.bool (goodB n)) ∧ w = w' := by
  by_cases h : 0 ≤ n
  · go_enter Try.func16, Try.ntmps16
    go_wp2
    go_ret
    exact ⟨ret_bool (by simp [goodB, inB, h]), rfl⟩
  · go_enter Try.func16, Try.ntmps16
    go_wp2
    go_ret
    exact ⟨ret_bool (goodB_false (by omega)).symm, rfl⟩

set_option maxHeartbeats 400000 in
theorem rsub_any (a b : Int) (w : World) :
    Calls Try.prog 14 #[.int .i64 a, .int .i64 b] w fun e w' => e = .returned (.tuple #[.int .i64 (subV a b), .int .i64 (subE a b)]) ∧ w = w' := by
  cases h1 : goodB a
  · go_enter Try.func14, Try.ntmps14
    go_wp2_with (go_at_call 16; refine (rgood_any _ _).mono ?_; rintro e w' ⟨rfl, rfl⟩)
    go_ret2
    exact ⟨ret_pair (by simp [subV, subOk, h1]) (by simp [subE, subOk, h1]), rfl⟩
  · cases h2 : goodB b
    · go_enter Try.func14, Try.ntmps14
      go_wp2_with (go_at_call 16; refine (rgood_any _ _).mono ?_; rintro e w' ⟨rfl, rfl⟩)
      go_ret2
      exact ⟨ret_pair (by simp [subV, subOk, h2]) (by simp [subE, subOk, h2]), rfl⟩
    · have b1 := (goodB_iff a).1 h1
      have b2 := (goodB_iff b).1 h2
      by_cases h3 : b ≤ a
      · go_enter Try.func14, Try.ntmps14
        go_wp2_with (go_at_call 16; refine (rgood_any _ _).mono ?_; rintro e w' ⟨rfl, rfl⟩)
        go_ret2
        exact ⟨ret_pair (by simp [subV, subOk, h1, h2, h3]) (by simp [subE, subOk, h1, h2, h3]), rfl⟩
      · have h4 : decide (b ≤ a) = false := by simpa using h3
        have H4 := Lib.hid h4
        clear h4
        go_enter Try.func14, Try.ntmps14
        go_wp2_with (go_at_call 16; refine (rgood_any _ _).mono ?_; rintro e w' ⟨rfl, rfl⟩)
        go_ret2
        exact ⟨ret_pair (by simp [subV, subOk, H4.out]) (by simp [subE, subOk, H4.out]), rfl⟩

theorem feeV_yes {r s : Int} (h1 : inB r 100000000 = true) (h2 : inB s 1000000 = true) : feeV r s = (r * s + 999) / 1000 := by simp [feeV, feeOk, h1, h2]
theorem feeE_yes {r s : Int} (h1 : inB r 100000000 = true) (h2 : inB s 1000000 = true) : feeE r s = 0 := by simp [feeE, feeOk, h1, h2]
theorem feeV_no {r s : Int} (h : ¬ ((0 ≤ r ∧ r ≤ 100000000) ∧ 0 ≤ s ∧ s ≤ 1000000)) : feeV r s = 0 := by
  have : ¬ (feeOk r s = true) := by unfold feeOk; simp only [Bool.and_eq_true, inB_iff]; exact h
  simp [feeV, this]
theorem feeE_no {r s : Int} (h : ¬ ((0 ≤ r ∧ r ≤ 100000000) ∧ 0 ≤ s ∧ s ≤ 1000000)) : feeE r s = 3 := by
  have : ¬ (feeOk r s = true) := by unfold feeOk; simp only [Bool.and_eq_true, inB_iff]; exact h
  simp [feeE, this]

set_option maxHeartbeats 400000 in
theorem rfee_any (r s : Int) (w : World) :
    Calls Try.prog 19 #[.int .i64 r, .int .i64 s] w fun e w' => e = .returned (.tuple #[.int .i64 (feeV r s), .int .i64 (feeE r s)]) ∧ w = w' := by
  by_cases h : (0 ≤ r ∧ r ≤ 100000000) ∧ 0 ≤ s ∧ s ≤ 1000000
  · obtain ⟨⟨a1, a2⟩, a3, a4⟩ := h
    have b3 := mul_le a1 a2 a3 a4
    have e1 := Lib.hid (feeV_yes (inB_true a1 a2) (inB_true a3 a4))
    have e2 := Lib.hid (feeE_yes (inB_true a1 a2) (inB_true a3 a4))
    go_enter Try.func19, Try.ntmps19
    go_wp2
    · go_ret2
      exact ⟨ret_pair (by rw [e1.out]; omega) e2.out.symm, rfl⟩
    · go_ret2
      exact ⟨ret_pair (by rw [e1.out]; omega) e2.out.symm, rfl⟩
  · have e1 := Lib.hid (feeV_no h)
    have e2 := Lib.hid (feeE_no h)
    by_cases g1 : r < 0
    · clear h
      go_enter Try.func19, Try.ntmps19
      go_wp2
      go_ret2
      exact ⟨ret_pair e1.out.symm e2.out.symm, rfl⟩
    · by_cases g2 : 100000000 < r
      · clear h
        go_enter Try.func19, Try.ntmps19
        go_wp2
        go_ret2
        exact ⟨ret_pair e1.out.symm e2.out.symm, rfl⟩
      · by_cases g3 : s < 0
        · clear h
          go_enter Try.func19, Try.ntmps19
          go_wp2
          go_ret2
          exact ⟨ret_pair e1.out.symm e2.out.symm, rfl⟩
        · have g4 : 1000000 < s := by omega
          clear h
          go_enter Try.func19, Try.ntmps19
          go_wp2
          go_ret2
          exact ⟨ret_pair e1.out.symm e2.out.symm, rfl⟩

theorem rateV_no {f s : Int} (h : ¬ (hasB f s = true)) : rateV f s = 0 := by simp [rateV, h]
theorem rateE_no {f s : Int} (h : ¬ (hasB f s = true)) : rateE f s = 3 := by simp [rateE, h]

set_option maxHeartbeats 400000 in
theorem rrate_any (f s : Int) (w : World) :
    Calls Try.prog 21 #[.int .i64 f, .int .i64 s] w fun e w' => e = .returned (.tuple #[.int .i64 (rateV f s), .int .i64 (rateE f s)]) ∧ w = w' := by
  by_cases h : hasB f s = true
  · have b1 := (hasB_iff f s).1 h
    have hg := goodB_true b1.1.1 b1.1.2
    go_enter Try.func21, Try.ntmps21
    go_wp2_with (go_at_call 16; refine (rgood_any _ _).mono ?_; rintro e w' ⟨rfl, rfl⟩)
    go_ret2
    exact ⟨ret_pair (by simp [rateV, h]) (by simp [rateE, h]), rfl⟩
  · have e1 := Lib.hid (rateV_no h)
    have e2 := Lib.hid (rateE_no h)
    rw [hasB_iff] at h
    cases hg : goodB f
    · clear h
      go_enter Try.func21, Try.ntmps21
      go_wp2_with (go_at_call 16; refine (rgood_any _ _).mono ?_; rintro e w' ⟨rfl, rfl⟩)
      go_ret2
      exact ⟨ret_pair e1.out.symm e2.out.symm, rfl⟩
    · have b := (goodB_iff f).1 hg
      by_cases g1 : s < 1
      · clear h
        go_enter Try.func21, Try.ntmps21
        go_wp2_with (go_at_call 16; refine (rgood_any _ _).mono ?_; rintro e w' ⟨rfl, rfl⟩)
        go_ret2
        exact ⟨ret_pair e1.out.symm e2.out.symm, rfl⟩
      · have g2 : 1000000 < s := by omega
        clear h
        go_enter Try.func21, Try.ntmps21
        go_wp2_with (go_at_call 16; refine (rgood_any _ _).mono ?_; rintro e w' ⟨rfl, rfl⟩)
        go_ret2
        exact ⟨ret_pair e1.out.symm e2.out.symm, rfl⟩

/-- A product of an amount and a size: of millions, and the rest. -/
theorem parts_eq (a b : Int) : a * b = (a / 1000000 * b + a % 1000000 * b / 1000000) * 1000000 + a % 1000000 * b % 1000000 := by
  have e : a = a / 1000000 * 1000000 + a % 1000000 := by omega
  have e2 : a * b = a / 1000000 * b * 1000000 + a % 1000000 * b := by
    conv => lhs; rw [e]
    rw [Int.add_mul, Int.mul_assoc, Int.mul_comm 1000000 b, ← Int.mul_assoc]
  rw [e2]
  generalize a % 1000000 * b = y
  generalize a / 1000000 * b = x
  omega

set_option maxHeartbeats 400000 in
theorem parts_any (a b : Int) (w : World) (h1 : 0 ≤ a) (h2 : a ≤ 2100000000000000) (h3 : 0 ≤ b) (h4 : b ≤ 1000000) :
    Calls Try.prog 28 #[.int .i64 a, .int .i64 b] w fun e w' => e = .returned (.tuple #[.int .i64 (a / 1000000 * b + a % 1000000 * b / 1000000), .int .i64 (a % 1000000 * b % 1000000)]) ∧ w = w' := by
  have b1 := mul_le (show 0 ≤ a / 1000000 by omega) (show a / 1000000 ≤ 2100000000 by omega) h3 h4
  have b2 := mul_le (show 0 ≤ a % 1000000 by omega) (show a % 1000000 ≤ 1000000 by omega) h3 h4
  go_enter Try.func28, Try.ntmps28
  go_wp2
  go_ret2
  exact ⟨rfl, rfl⟩

theorem cmpR_no {f s o i : Int} (h : ¬ (hasB f s = true ∧ hasB o i = true)) : cmpR f s o i = 0 := by simp [cmpR, h]
theorem cmpR_yes {f s o i : Int} (h : hasB f s = true) (g : hasB o i = true) : cmpR f s o i = cmpI (f * i) (o * s) := by simp [cmpR, h, g]

end Go.Proofs.Ytndjbobgccpdfaa
