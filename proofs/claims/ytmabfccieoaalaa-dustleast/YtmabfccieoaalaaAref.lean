/-
  The document's own answers of layer 1: contracts over the translation.
-/
import Derived.Test.YtmabfccieoaalaaArate
namespace Go.Proofs.Ytmabfccieoaalaa.Am
open Go.RowKit

theorem feeV_yes {r s : Int} (h1 : inB r 100000000 = true) (h2 : inB s 1000000 = true) : feeV r s = (r * s + 999) / 1000 := by simp [feeV, feeOk, h1, h2]
theorem feeE_yes {r s : Int} (h1 : inB r 100000000 = true) (h2 : inB s 1000000 = true) : feeE r s = 0 := by simp [feeE, feeOk, h1, h2]
theorem feeV_no {r s : Int} (h : ¬ ((0 ≤ r ∧ r ≤ 100000000) ∧ 0 ≤ s ∧ s ≤ 1000000)) : feeV r s = 0 := by
  have : ¬ (feeOk r s = true) := by unfold feeOk; simp only [Bool.and_eq_true, inB_iff]; exact h
  simp [feeV, this]
theorem feeE_no {r s : Int} (h : ¬ ((0 ≤ r ∧ r ≤ 100000000) ∧ 0 ≤ s ∧ s ≤ 1000000)) : feeE r s = 3 := by
  have : ¬ (feeOk r s = true) := by unfold feeOk; simp only [Bool.and_eq_true, inB_iff]; exact h
  simp [feeE, this]

set_option maxHeartbeats 400000 in
theorem rfee_any (r s : Int) (w : World) :
    Calls Try.prog 18 #[.int .i64 r, .int .i64 s] w fun e w' => e = .returned (.tuple #[.int .i64 (feeV r s), .int .i64 (feeE r s)]) ∧ w = w' := by
  by_cases h : (0 ≤ r ∧ r ≤ 100000000) ∧ 0 ≤ s ∧ s ≤ 1000000
  · obtain ⟨⟨a1, a2⟩, a3, a4⟩ := h
    have b3 := mul_le a1 a2 a3 a4
    have e1 := Lib.hid (feeV_yes (inB_true a1 a2) (inB_true a3 a4))
    have e2 := Lib.hid (feeE_yes (inB_true a1 a2) (inB_true a3 a4))
    go_enter Try.func18, Try.ntmps18
    go_wp2
    · go_ret2
      exact ⟨ret_pair (by rw [e1.out]; omega) e2.out.symm, rfl⟩
    · go_ret2
      exact ⟨ret_pair (by rw [e1.out]; omega) e2.out.symm, rfl⟩
  · have e1 := Lib.hid (feeV_no h)
    have e2 := Lib.hid (feeE_no h)
    by_cases g1 : r < 0
    · clear h
      go_enter Try.func18, Try.ntmps18
      go_wp2
      go_ret2
      exact ⟨ret_pair e1.out.symm e2.out.symm, rfl⟩
    · by_cases g2 : 100000000 < r
      · clear h
        go_enter Try.func18, Try.ntmps18
        go_wp2
        go_ret2
        exact ⟨ret_pair e1.out.symm e2.out.symm, rfl⟩
      · by_cases g3 : s < 0
        · clear h
          go_enter Try.func18, Try.ntmps18
          go_wp2
          go_ret2
          exact ⟨ret_pair e1.out.symm e2.out.symm, rfl⟩
        · have g4 : 1000000 < s := by omega
          clear h
          go_enter Try.func18, Try.ntmps18
          go_wp2
          go_ret2
          exact ⟨ret_pair e1.out.symm e2.out.symm, rfl⟩

theorem rateV_no {f s : Int} (h : ¬ (hasB f s = true)) : rateV f s = 0 := by simp [rateV, h]
theorem rateE_no {f s : Int} (h : ¬ (hasB f s = true)) : rateE f s = 3 := by simp [rateE, h]

/-- A product of an amount and a size: of millions, and the rest. -/
theorem parts_eq (a b : Int) : a * b = (a / 1000000 * b + a % 1000000 * b / 1000000) * 1000000 + a % 1000000 * b % 1000000 := by
  have e : a = a / 1000000 * 1000000 + a % 1000000 := by omega
  have e2 : a * b = a / 1000000 * b * 1000000 + a % 1000000 * b := by
    conv => lhs; rw [e]
    rw [Int.add_mul, Int.mul_assoc, Int.mul_comm 1000000 b, ← Int.mul_assoc]
  rw [e2]
  generalize a % 1000000 * b = y
  generalize a / 1000000 * b = x
  omega

theorem cmpR_no {f s o i : Int} (h : ¬ (hasB f s = true ∧ hasB o i = true)) : cmpR f s o i = 0 := by simp [cmpR, h]
theorem cmpR_yes {f s o i : Int} (h : hasB f s = true) (g : hasB o i = true) : cmpR f s o i = cmpI (f * i) (o * s) := by simp [cmpR, h, g]

end Go.Proofs.Ytmabfccieoaalaa.Am
