/-
  What the document fixes (the examples of layer 5): the statements' first question.
-/
import Derived.Test.YtnljicongmknhaaTell
namespace Go.Proofs.Ytnljicongmknhaa
open Go.RowKit

theorem wake1 : checkD (grantD 5 [⟨0, ⟨#[]⟩⟩]) = 0 := by decide +kernel
theorem wake2 : isBase (grantD 5 [⟨0, ⟨#[]⟩⟩]).ins = true := by decide +kernel
theorem wake3 : checkD (grantD 5 []) = 6 := by decide +kernel
theorem wake4 : lessB ⟨#[97]⟩ 0 ⟨#[97]⟩ 1 = true := by decide +kernel
theorem zeros_size : zeros.size = 32 := by decide +kernel
theorem grant_ok (h : Int) (xs : List OutD) (hl : xs.length ≤ 512) (hx : ∀ x ∈ xs, x.Ok) : (grantD h xs).Ok := by
  refine ⟨by simp [grantD], hl, ?_, hx, by simp [grantD], by simp [grantD], ?_, ?_⟩
  · intro x hx
    simp [grantD] at hx
    subst hx
    exact ⟨by rw [show (InD.mk zeros 4294967295 4294967295 []).id = zeros from rfl, zeros_size]; omega, by simp, by simp, by simp, by simp, by simp, by simp⟩
  · show 0 ≤ h % 4294967296
    omega
  · show h % 4294967296 ≤ 4294967295
    omega

set_option maxHeartbeats 1000000 in
theorem wakes_any (w : World) : Calls Try.prog 17 #[] w fun e w' => e = .returned (.bool true) ∧ Below w.heap.size w w' := by
  have ok1 := Lib.hid (grant_ok 5 [⟨0, ⟨#[]⟩⟩] (by simp) (by intro x hx; simp at hx; subst hx; refine ⟨by decide, by decide, by decide⟩))
  have ok2 := Lib.hid (grant_ok 5 [] (by simp) (by simp))
  have q1 := wake1
  have q2 := wake2
  have q3 := wake3
  have q4 := wake4
  have B0 := Lib.hid (fun o => (Below.refl w.heap.size w).alloc (Nat.le_refl _) o)
  have ho : Outs (w.alloc (.cells #[.int .i64 0, .string ⟨#[]⟩] 52)) w.heap.size (w.heap.size + 1) (.slice (some ⟨w.heap.size, 0, none⟩) 1 1) [⟨0, ⟨#[]⟩⟩] := by
    refine ⟨_, 1, rfl, Nat.le_refl _, .inr ⟨w.heap.size, 0, rfl, Nat.le_refl _, Nat.lt_succ_self _, fun k x hx => ?_⟩⟩
    match k, hx with
    | 0, hx =>
      simp at hx
      subst hx
      exact ⟨by simp, by simp⟩
  have HO := Lib.hid ho
  clear ho
  obtain ⟨g1, hg1⟩ : ∃ g, g = grantD 5 [⟨0, ⟨#[]⟩⟩] := ⟨_, rfl⟩
  obtain ⟨g2, hg2⟩ : ∃ g, g = grantD 5 [] := ⟨_, rfl⟩
  go_enter Try.func17, Try.ntmps17
  go_wp2_with fail
  refine (grant_any 5 _ [⟨0, ⟨#[]⟩⟩] _ _ _ HO.out (by simp) (by simp)).mono ?_
  rintro e w1 ⟨vi, vo, rfl, ht, hb1⟩
  rw [← hg1] at ht q1 q2 ok1
  rw [← hg2] at q3 ok2
  have HT := Lib.hid ht
  have z1 : w.heap.size + 1 ≤ w1.heap.size := by have := hb1.size; simp at this; exact this
  have K1 := Lib.hid (below_next (B0.out _) (by simp) hb1)
  have hv : g1.ver = 2 ∧ g1.lock = 5 := by rw [hg1]; exact ⟨rfl, rfl⟩
  have hv2 : g2.ver = 2 ∧ g2.lock = 5 := by rw [hg2]; exact ⟨rfl, rfl⟩
  have HV := Lib.hid hv
  have HV2 := Lib.hid hv2
  have HG2 := Lib.hid hg2
  clear ht hb1 hv hv2 hg1 hg2
  obtain ⟨A1, m1, rfl⟩ := HT.out.1.form
  obtain ⟨A2, m2, rfl⟩ := HT.out.2.form
  have h13 : ∀ (W : World) (lo hi : Nat), TxAt W lo hi (.slice A1 g1.ins.length m1) (.slice A2 g1.outs.length m2) g1 → hi ≤ W.heap.size → Calls Try.prog 13 #[.agg #[.int .u32 2, .slice A1 g1.ins.length m1, .slice A2 g1.outs.length m2, .int .u32 5]] W fun e w' => e = .returned (.int .i64 0) ∧ Below W.heap.size W w' := by
    intro W lo hi h1 h2
    have h := check_any g1 _ _ W lo hi h1 h2 ok1.out
    rw [HV.out.1, HV.out.2, q1] at h
    exact h
  have h15 : ∀ (W : World) (lo hi : Nat), TxAt W lo hi (.slice A1 g1.ins.length m1) (.slice A2 g1.outs.length m2) g1 → hi ≤ W.heap.size → Calls Try.prog 15 #[.agg #[.int .u32 2, .slice A1 g1.ins.length m1, .slice A2 g1.outs.length m2, .int .u32 5]] W fun e w' => e = .returned (.bool true) ∧ Below W.heap.size W w' := by
    intro W lo hi h1 h2
    have h := base_any g1 _ (.slice A2 g1.outs.length m2) W lo hi h1.1 h2
    rw [HV.out.1, HV.out.2, q2] at h
    exact h
  have H13 := Lib.hid h13
  have H15 := Lib.hid h15
  clear h13 h15 q1 q2
  have hbox := Boxed.new w1 (.int .u32 2) (.slice A1 g1.ins.length m1) (.slice A2 g1.outs.length m2) (.int .u32 5) 26
  have HBX := Lib.hid hbox
  clear hbox
  go_wp2_with fail
  refine (H13.out _ _ _ (HT.out.keep (Kept.alloc (Nat.le_refl _) _)) (by simp)).mono ?_
  rintro e w2 ⟨rfl, hb2⟩
  have z2 : w1.heap.size + 1 ≤ w2.heap.size := by have := hb2.size; simp at this; exact this
  have X2 := Lib.hid (HBX.out.below (by simp) hb2)
  have K2 := Lib.hid (below_next (K1.out.alloc (by omega) _) (by simp; omega) hb2)
  have T2 := Lib.hid ((HT.out.keep (Kept.alloc (Nat.le_refl _) _)).keep (Kept.of_below hb2 (by simp)))
  clear hb2
  obtain ⟨a0, a1, a2, a3⟩ := X2.out
  go_wp2_with fail
  refine (H15.out _ _ _ T2.out (by omega)).mono ?_
  rintro e w3 ⟨rfl, hb3⟩
  have z3 := hb3.size
  have X3 := Lib.hid (X2.out.below (by omega) hb3)
  have K3 := Lib.hid (below_next K2.out (by omega) hb3)
  clear hb3 a0 a1 a2 a3
  obtain ⟨a0, a1, a2, a3⟩ := X3.out
  go_wp2_with fail
  refine (grant_any 5 (.slice none 0 0) [] w3 0 0 (Outs.nil _ _ _) (Nat.zero_le _) (by simp)).mono ?_
  rintro e w4 ⟨vi', vo', rfl, ht4, hb4⟩
  rw [← HG2.out] at ht4
  have z4 := hb4.size
  have K4 := Lib.hid (below_next K3.out (by omega) hb4)
  have T4 := Lib.hid ht4
  clear hb4 ht4
  have h14 : Calls Try.prog 13 #[.agg #[.int .u32 2, vi', vo', .int .u32 (5 % 4294967296)]] w4 fun e w' => e = .returned (.int .i64 6) ∧ Below w4.heap.size w4 w' := by
    have h := check_any g2 _ _ w4 _ _ T4.out (Nat.le_refl _) ok2.out
    rw [HV2.out.1, HV2.out.2, q3] at h
    exact h
  have H14 := Lib.hid h14
  clear h14 q3
  go_wp2_with fail
  refine H14.out.mono ?_
  rintro e w5 ⟨rfl, hb5⟩
  have z5 := hb5.size
  have K5 := Lib.hid (below_next K4.out (by omega) hb5)
  have h22 := less_any ⟨#[97]⟩ 0 ⟨#[97]⟩ 1 w5
  rw [q4] at h22
  have H22 := Lib.hid h22
  clear hb5 h22 q4
  go_wp2_with fail
  refine H22.out.mono ?_
  rintro e w6 ⟨rfl, hb6⟩
  go_wp2_with fail
  go_ret
  exact ⟨rfl, below_next K5.out (by omega) hb6⟩

end Go.Proofs.Ytnljicongmknhaa
