/-
  AmountOrder: its walk.
-/
import Derived.Test.YtndjbobgccpdfaaOwn
namespace Go.Proofs.Ytndjbobgccpdfaa
open Go.RowKit

/-- A fee and a size out of two numbers. -/
def feeFor (x : Int) : Int := pos (near x) % 100000000000
def sizeFor (y : Int) : Int := 1 + pos y % 1000000

theorem feeFor_bd (x : Int) : 0 ≤ feeFor x ∧ feeFor x < 100000000000 := by
  have := pos_nn (near x)
  unfold feeFor; omega
theorem sizeFor_bd (y : Int) : 1 ≤ sizeFor y ∧ sizeFor y ≤ 1000000 := by
  have := pos_nn y
  unfold sizeFor; omega

set_option maxHeartbeats 400000 in
theorem of_any (x y : Int) (w : World) :
    Calls Try.prog 24 #[.agg #[.int .i64 x, .int .i64 y]] w fun e w' => e = .returned (.tuple #[.int .i64 (feeFor x), .int .i64 (sizeFor y)]) ∧ ∃ n, w' = (w.alloc (.cells #[.int .i64 x, .int .i64 y] 30)).drewN n := by
  have hm := run_max0
  have p1 := pos_nn (near x)
  have p2 := pos_nn y
  have t1 : (pos (near x)).tmod 100000000000 = feeFor x := Int.tmod_eq_emod_of_nonneg p1
  have t2 : (pos y).tmod 1000000 = pos y % 1000000 := Int.tmod_eq_emod_of_nonneg p2
  have t3 : IntKind.i64.wrap (1 + pos y % 1000000) = sizeFor y := IntWalk.i64_in _ (by omega)
  go_enter Try.func24, Try.ntmps24
  go_wp2_with fail
  go_quiet ((go_at_call 9; exact quiet_once (most_any _ _)))
  go_wp2_with fail
  go_ret2
  exact ⟨rfl, _, rfl⟩

theorem rate_trans {a b c d f g : Int} (hb : 0 < b) (hd : 0 < d) (hg : 0 < g) (h1 : a * d ≤ c * b) (h2 : c * g ≤ f * d) : a * g ≤ f * b := by
  have e1 : a * d * g ≤ c * b * g := Int.mul_le_mul_of_nonneg_right h1 (by omega)
  have e2 : c * g * b ≤ f * d * b := Int.mul_le_mul_of_nonneg_right h2 (by omega)
  have e3 : a * g * d ≤ f * b * d := by
    rw [Int.mul_assoc, Int.mul_comm g d, ← Int.mul_assoc, Int.mul_assoc f, Int.mul_comm b d, ← Int.mul_assoc]
    rw [Int.mul_assoc c b g, Int.mul_comm b g, ← Int.mul_assoc] at e1
    exact Int.le_trans e1 e2
  exact Int.le_of_mul_le_mul_right e3 hd

theorem order_math (a b c d f g : Int) (ha : 0 ≤ a ∧ a < 100000000000) (hb : 1 ≤ b ∧ b ≤ 1000000) (hc : 0 ≤ c ∧ c < 100000000000) (hd : 1 ≤ d ∧ d ≤ 1000000) (hf : 0 ≤ f ∧ f < 100000000000) (hg : 1 ≤ g ∧ g ≤ 1000000) :
    (cmpR a b c d ≤ 0 → cmpR c d f g ≤ 0 → cmpR a b f g ≤ 0) ∧ rateE a b = 0 ∧ (0 ≤ rateV a b ∧ rateV a b ≤ 100000000000000) ∧ cmpR (rateV a b) 1000 a b ≤ 0 ∧ 0 < cmpR (rateV a b + 1) 1000 a b := by
  have hab := (hasB_iff a b).2 ⟨⟨ha.1, by omega⟩, hb⟩
  have e1 : rateV a b = a * 1000 / b := by simp [rateV, hab]
  have e2 : rateE a b = 0 := by simp [rateE, hab]
  have r1 : 0 ≤ a * 1000 / b := Int.ediv_nonneg (by omega) (by omega)
  have r2 : a * 1000 / b ≤ 100000000000000 := Int.le_trans (Int.ediv_le_self _ (by omega)) (by omega)
  have r3 : a * 1000 / b * b ≤ a * 1000 := Int.ediv_mul_le _ (by omega)
  have r4 : a * 1000 < (a * 1000 / b + 1) * b := Int.lt_ediv_add_one_mul_self _ (by omega)
  refine ⟨fun h1 h2 => ?_, e2, by rw [e1]; exact ⟨r1, r2⟩, ?_, ?_⟩
  · have s1 := (cmpR_sign ha.1 (by omega) hb.1 hb.2 hc.1 (by omega) hd.1 hd.2).2
    have s2 := (cmpR_sign hc.1 (by omega) hd.1 hd.2 hf.1 (by omega) hg.1 hg.2).2
    have s3 := (cmpR_sign ha.1 (by omega) hb.1 hb.2 hf.1 (by omega) hg.1 hg.2).2
    have t := rate_trans (a := a) (b := b) (c := c) (d := d) (f := f) (g := g) (by omega) (by omega) (by omega) (by omega) (by omega)
    omega
  · rw [e1]
    have s := (cmpR_sign r1 (by omega) (show (1 : Int) ≤ 1000 by omega) (by omega) ha.1 (show a ≤ 2100000000000000 by omega) hb.1 hb.2).2
    omega
  · rw [e1]
    have s := (cmpR_sign (show 0 ≤ a * 1000 / b + 1 by omega) (by omega) (show (1 : Int) ≤ 1000 by omega) (by omega) ha.1 (show a ≤ 2100000000000000 by omega) hb.1 hb.2).2
    omega

set_option maxRecDepth 100000 in
set_option maxHeartbeats 1000000 in
theorem order_any (x0 x1 y0 y1 z0 z1 : Int) (w : World) :
    Calls Try.prog 8 #[.agg #[.int .i64 x0, .int .i64 x1], .agg #[.int .i64 y0, .int .i64 y1], .agg #[.int .i64 z0, .int .i64 z1]] w fun e w' => e = .returned (.bool true) ∧ Grown w w' := by
  obtain ⟨m1, m2, m3, m4, m5⟩ := order_math (feeFor x0) (sizeFor x1) (feeFor y0) (sizeFor y1) (feeFor z0) (sizeFor z1) (feeFor_bd _) (sizeFor_bd _) (feeFor_bd _) (sizeFor_bd _) (feeFor_bd _) (sizeFor_bd _)
  have M1 := Lib.hid m1
  clear m1
  go_enter Try.func8, Try.ntmps8
  go_wp2_with fail
  refine (of_any _ _ _).mono ?_
  rintro e w' ⟨rfl, n1, rfl⟩
  go_wp2_with fail
  refine (of_any _ _ _).mono ?_
  rintro e w' ⟨rfl, n2, rfl⟩
  go_wp2_with fail
  refine (of_any _ _ _).mono ?_
  rintro e w' ⟨rfl, n3, rfl⟩
  generalize feeFor x0 = a at *
  generalize sizeFor x1 = b at *
  generalize feeFor y0 = c at *
  generalize sizeFor y1 = d at *
  generalize feeFor z0 = f at *
  generalize sizeFor z1 = g at *
  go_wp2_with fail
  refine (comp_any _ _ _ _ _).mono ?_
  rintro e w' ⟨rfl, n4, rfl⟩
  have m4' : decide (cmpR (rateV a b) 1000 a b ≤ 0) = true := decide_eq_true m4
  have m5' : decide (0 < cmpR (rateV a b + 1) 1000 a b) = true := decide_eq_true m5
  by_cases q1 : cmpR a b c d ≤ 0
  · have q1' : decide (cmpR a b c d ≤ 0) = true := decide_eq_true q1
    by_cases q2 : cmpR c d f g ≤ 0
    · have q2' : decide (cmpR c d f g ≤ 0) = true := decide_eq_true q2
      have q3 := M1.out q1 q2
      have q3' : decide (0 < cmpR a b f g) = false := decide_eq_false (by omega)
      go_wp2_with fail
      refine (comp_any _ _ _ _ _).mono ?_
      rintro e w' ⟨rfl, n5, rfl⟩
      go_wp2_with fail
      refine (comp_any _ _ _ _ _).mono ?_
      rintro e w' ⟨rfl, n6, rfl⟩
      go_wp2_with fail
      refine (rate_any _ _ _).mono ?_
      rintro e w' ⟨rfl, rfl⟩
      go_wp2_with fail
      refine (wakes_any _).mono ?_
      rintro e w' ⟨rfl, k1, rfl⟩
      go_wp2_with fail
      refine (comp_any _ _ _ _ _).mono ?_
      rintro e w' ⟨rfl, k2, rfl⟩
      go_wp2_with fail
      refine (comp_any _ _ _ _ _).mono ?_
      rintro e w' ⟨rfl, k3, rfl⟩
      go_wp2_with fail
      go_ret
      refine ⟨rfl, ?_⟩
      repeat (first | exact Grown.refl _ | refine grown_drewN ?_ _ | refine Grown.alloc ?_ _ _)
    · have q2' : decide (cmpR c d f g ≤ 0) = false := decide_eq_false q2
      go_wp2_with fail
      refine (comp_any _ _ _ _ _).mono ?_
      rintro e w' ⟨rfl, n5, rfl⟩
      go_wp2_with fail
      refine (rate_any _ _ _).mono ?_
      rintro e w' ⟨rfl, rfl⟩
      go_wp2_with fail
      refine (wakes_any _).mono ?_
      rintro e w' ⟨rfl, k1, rfl⟩
      go_wp2_with fail
      refine (comp_any _ _ _ _ _).mono ?_
      rintro e w' ⟨rfl, k2, rfl⟩
      go_wp2_with fail
      refine (comp_any _ _ _ _ _).mono ?_
      rintro e w' ⟨rfl, k3, rfl⟩
      go_wp2_with fail
      go_ret
      refine ⟨rfl, ?_⟩
      repeat (first | exact Grown.refl _ | refine grown_drewN ?_ _ | refine Grown.alloc ?_ _ _)
  · have q1' : decide (cmpR a b c d ≤ 0) = false := decide_eq_false q1
    go_wp2_with fail
    refine (rate_any _ _ _).mono ?_
    rintro e w' ⟨rfl, rfl⟩
    go_wp2_with fail
    refine (wakes_any _).mono ?_
    rintro e w' ⟨rfl, k1, rfl⟩
    go_wp2_with fail
    refine (comp_any _ _ _ _ _).mono ?_
    rintro e w' ⟨rfl, k2, rfl⟩
    go_wp2_with fail
    refine (comp_any _ _ _ _ _).mono ?_
    rintro e w' ⟨rfl, k3, rfl⟩
    go_wp2_with fail
    go_ret
    refine ⟨rfl, ?_⟩
    repeat (first | exact Grown.refl _ | refine grown_drewN ?_ _ | refine Grown.alloc ?_ _ _)

end Go.Proofs.Ytndjbobgccpdfaa
