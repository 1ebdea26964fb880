/-
  The document's own comparing of rates; most; and what the statements ask first.
-/
import Derived.Test.YtndjbobgccpdfaaRef
import Derived.Test.YtndjbobgccpdfaaComp
namespace Go.Proofs.Ytndjbobgccpdfaa
open Go.RowKit

theorem cmp_lt {A B C D : Int} (hb : 0 ≤ B ∧ B < 1000000) (hd : 0 ≤ D ∧ D < 1000000) (h : A < C ∨ (A = C ∧ B < D)) : cmpI (A * 1000000 + B) (C * 1000000 + D) = -1 := cmpI_lt (by omega)
theorem cmp_gt {A B C D : Int} (hb : 0 ≤ B ∧ B < 1000000) (hd : 0 ≤ D ∧ D < 1000000) (h : C < A ∨ (A = C ∧ D < B)) : cmpI (A * 1000000 + B) (C * 1000000 + D) = 1 := cmpI_gt (by omega)
theorem cmp_eq {A B C D : Int} (h : A = C) (g : B = D) : cmpI (A * 1000000 + B) (C * 1000000 + D) = 0 := cmpI_eq (by omega)

set_option maxHeartbeats 400000 in
theorem rcomp_no (f s o i : Int) (w : World) (h : ¬ (hasB f s = true ∧ hasB o i = true)) :
    Calls Try.prog 23 #[.int .i64 f, .int .i64 s, .int .i64 o, .int .i64 i] w fun e w' => e = .returned (.int .i64 (cmpR f s o i)) ∧ w = w' := by
  have e1 := Lib.hid (cmpR_no h)
  rw [hasB_iff, hasB_iff] at h
  cases h1 : goodB f
  · clear h
    go_enter Try.func23, Try.ntmps23
    go_wp2_with (go_at_call 16; refine (rgood_any _ _).mono ?_; rintro e w' ⟨rfl, rfl⟩)
    go_ret
    exact ⟨ret_int e1.out.symm, rfl⟩
  · have b1 := (goodB_iff f).1 h1
    cases h2 : goodB o
    · clear h
      go_enter Try.func23, Try.ntmps23
      go_wp2_with (go_at_call 16; refine (rgood_any _ _).mono ?_; rintro e w' ⟨rfl, rfl⟩)
      go_ret
      exact ⟨ret_int e1.out.symm, rfl⟩
    · have b2 := (goodB_iff o).1 h2
      by_cases g1 : s < 1
      · clear h
        go_enter Try.func23, Try.ntmps23
        go_wp2_with (go_at_call 16; refine (rgood_any _ _).mono ?_; rintro e w' ⟨rfl, rfl⟩)
        go_ret
        exact ⟨ret_int e1.out.symm, rfl⟩
      · by_cases g2 : i < 1
        · clear h
          go_enter Try.func23, Try.ntmps23
          go_wp2_with (go_at_call 16; refine (rgood_any _ _).mono ?_; rintro e w' ⟨rfl, rfl⟩)
          go_ret
          exact ⟨ret_int e1.out.symm, rfl⟩
        · by_cases g3 : 1000000 < s
          · clear h
            go_enter Try.func23, Try.ntmps23
            go_wp2_with (go_at_call 16; refine (rgood_any _ _).mono ?_; rintro e w' ⟨rfl, rfl⟩)
            go_ret
            exact ⟨ret_int e1.out.symm, rfl⟩
          · have g4 : 1000000 < i := by omega
            clear h
            go_enter Try.func23, Try.ntmps23
            go_wp2_with (go_at_call 16; refine (rgood_any _ _).mono ?_; rintro e w' ⟨rfl, rfl⟩)
            go_ret
            exact ⟨ret_int e1.out.symm, rfl⟩

set_option maxHeartbeats 400000 in
theorem rcomp_yes (f s o i : Int) (w : World) (h : hasB f s = true) (g : hasB o i = true) :
    Calls Try.prog 23 #[.int .i64 f, .int .i64 s, .int .i64 o, .int .i64 i] w fun e w' => e = .returned (.int .i64 (cmpR f s o i)) ∧ w = w' := by
  have e1 := cmpR_yes h g
  rw [parts_eq f i, parts_eq o s] at e1
  have b1 := (hasB_iff f s).1 h
  have b2 := (hasB_iff o i).1 g
  have h1 := goodB_true b1.1.1 b1.1.2
  have h2 := goodB_true b2.1.1 b2.1.2
  have p1 := Lib.hid (fun w => parts_any f i w (by omega) (by omega) (by omega) (by omega))
  have p2 := Lib.hid (fun w => parts_any o s w (by omega) (by omega) (by omega) (by omega))
  have c1 : 0 ≤ f % 1000000 * i % 1000000 ∧ f % 1000000 * i % 1000000 < 1000000 := by omega
  have c2 : 0 ≤ o % 1000000 * s % 1000000 ∧ o % 1000000 * s % 1000000 < 1000000 := by omega
  generalize f / 1000000 * i + f % 1000000 * i / 1000000 = A at *
  generalize f % 1000000 * i % 1000000 = B at *
  generalize o / 1000000 * s + o % 1000000 * s / 1000000 = C at *
  generalize o % 1000000 * s % 1000000 = D at *
  have E1 := Lib.hid e1
  clear e1 h g
  by_cases k1 : A < C
  · go_enter Try.func23, Try.ntmps23
    go_wp2_with (go_at_call 16; refine (rgood_any _ _).mono ?_; rintro e w' ⟨rfl, rfl⟩)
    refine (p1.out _).mono ?_
    rintro e w' ⟨rfl, rfl⟩
    go_wp2_with fail
    refine (p2.out _).mono ?_
    rintro e w' ⟨rfl, rfl⟩
    go_wp2_with fail
    go_ret
    exact ⟨ret_int (by rw [E1.out, cmp_lt c1 c2 (.inl k1)]), rfl⟩
  · have k2 : decide (A < C) = false := by simpa using k1
    by_cases k3 : A = C
    · subst k3
      by_cases k4 : B < D
      · go_enter Try.func23, Try.ntmps23
        go_wp2_with (go_at_call 16; refine (rgood_any _ _).mono ?_; rintro e w' ⟨rfl, rfl⟩)
        refine (p1.out _).mono ?_
        rintro e w' ⟨rfl, rfl⟩
        go_wp2_with fail
        refine (p2.out _).mono ?_
        rintro e w' ⟨rfl, rfl⟩
        go_wp2_with fail
        go_ret
        exact ⟨ret_int (by rw [E1.out, cmp_lt c1 c2 (.inr ⟨rfl, k4⟩)]), rfl⟩
      · by_cases k5 : D < B
        · go_enter Try.func23, Try.ntmps23
          go_wp2_with (go_at_call 16; refine (rgood_any _ _).mono ?_; rintro e w' ⟨rfl, rfl⟩)
          refine (p1.out _).mono ?_
          rintro e w' ⟨rfl, rfl⟩
          go_wp2_with fail
          refine (p2.out _).mono ?_
          rintro e w' ⟨rfl, rfl⟩
          go_wp2_with fail
          go_ret
          exact ⟨ret_int (by rw [E1.out, cmp_gt c1 c2 (.inr ⟨rfl, k5⟩)]), rfl⟩
        · go_enter Try.func23, Try.ntmps23
          go_wp2_with (go_at_call 16; refine (rgood_any _ _).mono ?_; rintro e w' ⟨rfl, rfl⟩)
          refine (p1.out _).mono ?_
          rintro e w' ⟨rfl, rfl⟩
          go_wp2_with fail
          refine (p2.out _).mono ?_
          rintro e w' ⟨rfl, rfl⟩
          go_wp2_with fail
          go_ret
          exact ⟨ret_int (by rw [E1.out, cmp_eq rfl (by omega)]), rfl⟩
    · have k6 : C < A := by omega
      have k7 : (A == C) = false := by simpa using k3
      clear k3
      go_enter Try.func23, Try.ntmps23
      go_wp2_with (go_at_call 16; refine (rgood_any _ _).mono ?_; rintro e w' ⟨rfl, rfl⟩)
      refine (p1.out _).mono ?_
      rintro e w' ⟨rfl, rfl⟩
      go_wp2_with fail
      refine (p2.out _).mono ?_
      rintro e w' ⟨rfl, rfl⟩
      go_wp2_with fail
      go_ret
      exact ⟨ret_int (by rw [E1.out, cmp_gt c1 c2 (.inl k6)]), rfl⟩

theorem rcomp_any (f s o i : Int) (w : World) :
    Calls Try.prog 23 #[.int .i64 f, .int .i64 s, .int .i64 o, .int .i64 i] w fun e w' => e = .returned (.int .i64 (cmpR f s o i)) ∧ w = w' := by
  by_cases h : hasB f s = true ∧ hasB o i = true
  · exact rcomp_yes f s o i w h.1 h.2
  · exact rcomp_no f s o i w h

/-- A number, any number, brought near an amount. -/
def near (n : Int) : Int := n.tmod 2100000000000001

theorem tmod_bd (n k : Int) (hk : 0 < k) : -k < n.tmod k ∧ n.tmod k < k := by
  refine ⟨?_, Int.tmod_lt_of_pos n hk⟩
  by_cases h : 0 ≤ n
  · rw [Int.tmod_eq_emod_of_nonneg h]
    have := Int.emod_nonneg n (show k ≠ 0 by omega)
    omega
  · have h2 := Int.tmod_lt_of_pos (-n) hk
    rw [Int.neg_tmod] at h2
    omega

theorem near_bd (n : Int) : -2100000000000001 < near n ∧ near n < 2100000000000001 := tmod_bd n 2100000000000001 (by omega)

set_option maxHeartbeats 400000 in
theorem most_any (n : Int) (w : World) :
    Calls Try.prog 9 #[.int .i64 n] w fun e w' => e = .returned (.int .i64 (near n)) ∧ w = w' := by
  go_enter Try.func9, Try.ntmps9
  go_wp2
  go_ret
  exact ⟨rfl, rfl⟩

set_option maxHeartbeats 400000 in
theorem wakes_any (w : World) :
    Calls Try.prog 17 #[] w fun e w' => e = .returned (.bool true) ∧ ∃ n, w' = w.drewN n := by
  have e1 : feeV 1500 141 = 212 := by decide
  have e2 : feeE 1500 141 = 0 := by decide
  have e3 : rateV 212 141 = 1503 := by decide
  have e4 : rateE 212 141 = 0 := by decide
  have e5 : addE 2100000000000000 1 = 3 := by decide
  have e6 : cmpR 1 3 2 6 = 0 := by decide
  have e7 : cmpR 1 3 2 5 = -1 := by decide
  go_enter Try.func17, Try.ntmps17
  go_wp2_with fail
  refine (fee_any _ _ _).mono ?_
  rintro e w' ⟨rfl, rfl⟩
  go_wp2_with fail
  refine (rate_any _ _ _).mono ?_
  rintro e w' ⟨rfl, rfl⟩
  go_wp2_with fail
  refine (add_any _ _ _).mono ?_
  rintro e w' ⟨rfl, rfl⟩
  go_wp2_with fail
  refine (comp_any _ _ _ _ _).mono ?_
  rintro e w' ⟨rfl, n, rfl⟩
  go_wp2_with fail
  refine (comp_any _ _ _ _ _).mono ?_
  rintro e w' ⟨rfl, m, rfl⟩
  go_wp2_with fail
  go_ret
  exact ⟨rfl, _, rfl⟩

end Go.Proofs.Ytndjbobgccpdfaa
