/-
  How two rates are to one another: the contract over the translation.
-/
import Derived.Test.YtndjbobgccpdfaaRate
namespace Go.Proofs.Ytndjbobgccpdfaa
open Go.RowKit

set_option maxHeartbeats 400000 in
theorem comp_any (f s o i : Int) (w : World) :
    Calls Try.prog 22 #[.int .i64 f, .int .i64 s, .int .i64 o, .int .i64 i] w fun e w' => e = .returned (.int .i64 (cmpR f s o i)) ∧ ∃ n, w' = w.drewN n := by
  cases h1 : hasB f s
  · go_enter Try.func22, Try.ntmps22
    go_wp2_with (go_at_call 26; refine (has_any _ _ _).mono ?_; rintro e w' ⟨rfl, rfl⟩)
    go_ret
    exact ⟨ret_int (by simp [cmpR, h1]), 0, rfl⟩
  · cases h2 : hasB o i
    · go_enter Try.func22, Try.ntmps22
      go_wp2_with (go_at_call 26; refine (has_any _ _ _).mono ?_; rintro e w' ⟨rfl, rfl⟩)
      go_ret
      exact ⟨ret_int (by simp [cmpR, h2]), 0, rfl⟩
    · have b1 := (hasB_iff f s).1 h1
      have b2 := (hasB_iff o i).1 h2
      have q1 := Int.emod_nonneg f (show s ≠ 0 by omega)
      have q2 := Int.emod_lt_of_pos f (show 0 < s by omega)
      have q3 := Int.emod_nonneg o (show i ≠ 0 by omega)
      have q4 := Int.emod_lt_of_pos o (show 0 < i by omega)
      have p1 := mul_le q1 (show f % s ≤ 1000000 by omega) (show 0 ≤ i by omega) (show i ≤ 1000000 by omega)
      have p2 := mul_le q3 (show o % i ≤ 1000000 by omega) (show 0 ≤ s by omega) (show s ≤ 1000000 by omega)
      have H := Lib.hid (cmp_parts f s o i (by omega) (by omega) (by omega) (by omega))
      by_cases h3 : cmpI (f / s) (o / i) = 0
      · have H3 := Lib.hid h3
        have h4 : (cmpI (f / s) (o / i) != 0) = false := by simp [h3]
        clear h3
        go_enter Try.func22, Try.ntmps22
        go_wp2_with (go_at_call 26; refine (has_any _ _ _).mono ?_; rintro e w' ⟨rfl, rfl⟩)
        go_quiet ((go_at_call 27; exact Calls.quiet_of_same ((cmp_any _ _ _).mono fun _ _ h => ⟨h.1, h.2.symm⟩)))
        go_wp2_with fail
        generalize hW : w.drewN nq = w2
        have HW := Lib.hid hW
        clear hW
        have z1 : ¬ s = 0 := by omega
        have z2 : ¬ i = 0 := by omega
        have t3 := IntWalk.i64_in (f % s * i) (by omega)
        have t4 := IntWalk.i64_in (o % i * s) (by omega)
        have t1 : f.tmod s = f % s := Int.tmod_eq_emod_of_nonneg (by omega)
        have t2 : o.tmod i = o % i := Int.tmod_eq_emod_of_nonneg (by omega)
        go_quiet ((go_at_call 27; exact Calls.quiet_of_same ((cmp_any _ _ _).mono fun _ _ h => ⟨h.1, h.2.symm⟩)))
        go_wp2_with fail
        go_ret
        refine ⟨ret_int (by simp [cmpR, h1, h2, H.out, H3.out]), ?_⟩
        rw [← HW.out, World.drewN_drewN]
        exact ⟨_, rfl⟩
      · have H3 := Lib.hid h3
        have h4 : (cmpI (f / s) (o / i) != 0) = true := by simpa using h3
        clear h3
        go_enter Try.func22, Try.ntmps22
        go_wp2_with (go_at_call 26; refine (has_any _ _ _).mono ?_; rintro e w' ⟨rfl, rfl⟩)
        go_quiet ((go_at_call 27; exact Calls.quiet_of_same ((cmp_any _ _ _).mono fun _ _ h => ⟨h.1, h.2.symm⟩)))
        go_wp2_with fail
        go_ret
        exact ⟨ret_int (by simp [cmpR, h1, h2, H.out, H3.out]), _, rfl⟩
end Go.Proofs.Ytndjbobgccpdfaa
