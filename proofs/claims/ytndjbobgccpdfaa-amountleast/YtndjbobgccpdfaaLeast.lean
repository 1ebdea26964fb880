/-
  Proved: for every rate, size and further size the statement AmountLeast answers true and leaves its arguments as they were. No conditions.
-/
import Derived.Test.YtndjbobgccpdfaaRows
import Derived.Test.YtndjbobgccpdfaaPos
import Derived.WalkKit
import Derived.ProofKit
import Derived.OpenShut
import Derived.ShutString
namespace Go.Proofs.Ytndjbobgccpdfaa.amountLeast
open Go.ChangeShapes Go.WideShapes Go.ChangeAt Go.RowKit
open Go.ChangeMaps (open_string shut_string)
set_option linter.unusedVariables false      -- a walk need not use every 'w<i>' (that an integer argument fits its kind)

theorem own : ownKnob Try.prog.godebug = none := by kernel_rfl

theorem least_math (r s t : Int) (h1 : 0 ≤ r) (h2 : r < 100000001) (h3 : 1 ≤ s) (h4 : s ≤ 500000) (h5 : 0 ≤ t) (h6 : t < 500000) :
    (feeE r s = 0 ∧ feeE r (s + t) = 0 ∧ feeE r t = 0) ∧ (0 ≤ feeV r s ∧ feeV r s ≤ 100000000000) ∧ (0 ≤ feeV r (s + t) ∧ feeV r (s + t) ≤ 100000000000) ∧ (0 ≤ feeV r t ∧ feeV r t ≤ 100000000000) ∧
    0 ≤ cmpR (feeV r s) s r 1000 ∧ feeV r s ≤ feeV r (s + t) ∧ feeV r (s + t) ≤ feeV r s + feeV r t ∧ feeV r s + feeV r t ≤ feeV r (s + t) + 1 ∧ (feeV r s = 0 ∨ cmpR (feeV r s - 1) s r 1000 < 0) := by
  have i1 : inB r 100000000 = true := inB_true h1 (by omega)
  have i2 : inB s 1000000 = true := inB_true (by omega) (by omega)
  have i3 : inB (s + t) 1000000 = true := inB_true (by omega) (by omega)
  have i4 : inB t 1000000 = true := inB_true (by omega) (by omega)
  have m1 := mul_le h1 (show r ≤ 100000000 by omega) (show 0 ≤ s by omega) h4
  have m2 := mul_le h1 (show r ≤ 100000000 by omega) h5 (show t ≤ 500000 by omega)
  have d : r * (s + t) = r * s + r * t := Int.mul_add r s t
  rw [feeE_yes i1 i2, feeE_yes i1 i3, feeE_yes i1 i4, feeV_yes i1 i2, feeV_yes i1 i3, feeV_yes i1 i4, d]
  have hr : r ≤ 2100000000000000 := by omega
  generalize hA : (r * s + 999) / 1000 = A
  have hA1 : 0 ≤ A ∧ A ≤ 2100000000000000 := by omega
  have c1 := (cmpR_sign hA1.1 hA1.2 h3 (show s ≤ 1000000 by omega) h1 hr (show (1 : Int) ≤ 1000 by omega) (by omega)).1
  refine ⟨⟨rfl, rfl, rfl⟩, by omega, by omega, by omega, by omega, by omega, by omega, by omega, ?_⟩
  by_cases h0 : A = 0
  · exact .inl h0
  · right
    have c2 := (cmpR_sign (show 0 ≤ A - 1 by omega) (show A - 1 ≤ 2100000000000000 by omega) h3 (show s ≤ 1000000 by omega) h1 hr (show (1 : Int) ≤ 1000 by omega) (by omega)).1
    omega


/-! The walk: the Go text returns true. -/
set_option maxHeartbeats 1000000 in
theorem walk (a0 : Int) (a1 : Int) (a2 : Int) (w0 : (Lit.int .i64 a0).wf = true) (w1 : (Lit.int .i64 a1).wf = true) (w2 : (Lit.int .i64 a2).wf = true) (w : World) :
    Calls Try.prog 6 #[.int .i64 a0, .int .i64 a1, .int .i64 a2] w fun e w' => e = .returned (.bool true) ∧ Grown w w' := by
  have hm := run_max0
  have p0 := pos_nn a0
  have p1 := pos_nn a1
  have p2 := pos_nn a2
  go_enter Try.func6, Try.ntmps6
  go_wp2_with fail
  have r1 : 0 ≤ pos a0 % 100000001 ∧ pos a0 % 100000001 < 100000001 := by omega
  have s1 : 1 ≤ 1 + pos a1 % 500000 ∧ 1 + pos a1 % 500000 ≤ 500000 := by omega
  have t1 : 0 ≤ pos a2 % 500000 ∧ pos a2 % 500000 < 500000 := by omega
  generalize pos a0 % 100000001 = r at *
  generalize 1 + pos a1 % 500000 = s at *
  generalize pos a2 % 500000 = t at *
  obtain ⟨⟨e1, e2, e3⟩, f1, f2, f3, c1, c2, c3, c4, c5⟩ := least_math r s t r1.1 r1.2 s1.1 s1.2 t1.1 t1.2
  refine (fee_any _ _ _).mono ?_
  rintro e w' ⟨rfl, rfl⟩
  go_wp2_with fail
  refine (fee_any _ _ _).mono ?_
  rintro e w' ⟨rfl, rfl⟩
  go_wp2_with fail
  refine (fee_any _ _ _).mono ?_
  rintro e w' ⟨rfl, rfl⟩
  go_wp2_with fail
  refine (wakes_any _).mono ?_
  rintro e w' ⟨rfl, n, rfl⟩
  have c1' : decide (cmpR (feeV r s) s r 1000 < 0) = false := by simpa using c1
  have c2' : decide (feeV r (s + t) < feeV r s) = false := by simpa using c2
  have c3' : decide (feeV r s + feeV r t < feeV r (s + t)) = false := by simpa using c3
  have c4' : decide (feeV r (s + t) + 1 < feeV r s + feeV r t) = false := by simpa using c4
  by_cases z : feeV r s = 0
  · have z1 : (feeV r s == 0) = true := by simpa using z
    have Z := Lib.hid z
    clear z c5
    go_wp2_with fail
    refine (comp_any _ _ _ _ _).mono ?_
    rintro e w' ⟨rfl, m, rfl⟩
    go_wp2_with fail
    go_ret
    exact ⟨rfl, grown_drewN (Grown.refl _) _⟩
  · have z1 : (feeV r s == 0) = false := by simpa using z
    have c6 : cmpR (feeV r s - 1) s r 1000 < 0 := by omega
    have c7 : decide (cmpR (feeV r s - 1) s r 1000 < 0) = true := by simpa using c6
    clear z c5
    go_wp2_with fail
    refine (comp_any _ _ _ _ _).mono ?_
    rintro e w' ⟨rfl, m, rfl⟩
    go_wp2_with fail
    refine (comp_any _ _ _ _ _).mono ?_
    rintro e w' ⟨rfl, m', rfl⟩
    go_wp2_with fail
    go_ret
    exact ⟨rfl, grown_drewN (Grown.refl _) _⟩

/-! The row's step. -/
set_option maxRecDepth 100000 in
theorem lifted (os : Os) (started : os.Started) (H : Type) (enc : TypeId × Value → H) :
    ReturnsInHanded {} Try.checked os 6 .any (Rows.amountLeastSpec.pre6 enc Try.prog Try.f6 Rows.amountLeastRow.domain false) (Rows.amountLeastSpec.post enc Try.prog Try.f6 false true false false) := by
  refine returnsInHanded_of_change (C := Try.checked) own started (by kernel_rfl) Try.func6
    (ChangeSpec.witness6 (enc := enc) (C := Try.checked) false ⟨#[], #[.int .i64 0, .int .i64 0, .int .i64 0], []⟩ 8 (by kernel_rfl) (by kernel_rfl) (by kernel_rfl) (by kernel_rfl)) ?_
  intro W base args ds gs before hval0 hW hcnd _
  have hval : ∀ (j : Nat) t v, Try.f6.params[j]? = some t → args[j]? = some v → Value.okWide Try.prog W .any base t v := hval0
  have hW' := hW
  obtain ⟨p, q, hA0, hV, rfl, hfz, hnd⟩ := hW
  have hA : DataW.TrodAll enc Try.prog W 0 (fun _ => true) true Try.f6.params.toList args.toList ds p := hA0
  rw [Try.params6] at hA hval
  obtain ⟨v0, vs0, d0, ds0, p0, q0, hargs, rfl, rfl, h0, r0⟩ := trodAll_cons hA
  obtain ⟨v1, vs1, d1, ds1, p1, q1, rfl, rfl, rfl, h1, r1⟩ := trodAll_cons r0
  obtain ⟨v2, vs2, d2, ds2, p2, q2, rfl, rfl, rfl, h2, r2⟩ := trodAll_cons r1
  obtain ⟨rfl, rfl, rfl⟩ := trodAll_nil r2
  obtain rfl : args = #[v0, v1, v2] := by cases args; simp_all
  obtain ⟨rfl, rfl⟩ := trodVars_none hV
  obtain ⟨a0, rfl, rfl, rfl, w0⟩ := open_int Try.underlying3 (hval 0 3 v0 rfl rfl) h0
  obtain ⟨a1, rfl, rfl, rfl, w1⟩ := open_int Try.underlying3 (hval 1 3 v1 rfl rfl) h1
  obtain ⟨a2, rfl, rfl, rfl, w2⟩ := open_int Try.underlying3 (hval 2 3 v2 rfl rfl) h2
  clear hA0 hval0
  simp only [List.append_nil] at hW'
  refine (walk a0 a1 a2 w0 w1 w2 W).mono fun e W' ⟨he, hg⟩ => ?_
  subst he
  exact ⟨_, rfl, post_of_same (pa := []) (pv := []) hW' (fun _ _ _ => (trodAll_cons_mk (shut_bool Try.underlying4 _) trodAll_mk0)) (fun sp _ => (trodAll_cons_mk (shut_int Try.underlying3 w0) (trodAll_cons_mk (shut_int Try.underlying3 w1) (trodAll_cons_mk (shut_int Try.underlying3 w2) trodAll_mk0)))) (fun _ _ => rfl) rfl
    (hg.frame _) hg.2.1 (ok_one (by kernel_rfl) rfl (okWide_bool_mk Try.underlying4 _))⟩

theorem over : Rows.amountLeastRow.holds Try.pinned (OpenSpec.ofChange Rows.amountLeastSpec) :=
  OpenClaim.holds_of_wide 6 Try.f6 rfl rfl rfl rfl rfl rfl rfl ⟨rfl, rfl, rfl, rfl, rfl⟩ rfl rfl rfl rfl rfl (by kernel_rfl) Try.func6 (by kernel_rfl)
    (of_decide_eq_true (by kernel_rfl)) (by unfold Func.isWrapper; first | (rw [if_pos (by decide +kernel)]; kernel_rfl) | (rw [if_neg (by decide +kernel)]; exact ⟨rfl, rfl⟩))
    (fun os started H enc _ => lifted os started H enc)

/-- The statement. -/
theorem proved : Rows.AmountLeastSaid :=
  over
end Go.Proofs.Ytndjbobgccpdfaa.amountLeast
