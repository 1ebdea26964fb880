/-
  Proved: for every rate, fee and size the statement AmountFees answers true and leaves its arguments as they were. No conditions.
-/
import Derived.Test.YtndjbobgccpdfaaRows
import Derived.Test.YtndjbobgccpdfaaTwo
import Derived.WalkKit
import Derived.ProofKit
import Derived.OpenShut
import Derived.ShutString
namespace Go.Proofs.Ytndjbobgccpdfaa.amountFees
open Go.ChangeShapes Go.WideShapes Go.ChangeAt Go.RowKit
open Go.ChangeMaps (open_string shut_string)
set_option linter.unusedVariables false      -- a walk need not use every 'w<i>' (that an integer argument fits its kind)

theorem own : ownKnob Try.prog.godebug = none := by kernel_rfl


/-! The walk: the Go text returns true. -/
set_option maxRecDepth 100000 in
set_option maxHeartbeats 1000000 in
theorem walk (a0 : Int) (a1 : Int) (a2 : Int) (w0 : (Lit.int .i64 a0).wf = true) (w1 : (Lit.int .i64 a1).wf = true) (w2 : (Lit.int .i64 a2).wf = true) (w : World) :
    Calls Try.prog 4 #[.int .i64 a0, .int .i64 a1, .int .i64 a2] w fun e w' => e = .returned (.bool true) ∧ Grown w w' := by
  have hm := run_max0
  have p0 := pos_nn a0
  have p1 := pos_nn a1
  have p2 := pos_nn a2
  go_enter Try.func4, Try.ntmps4
  go_wp2_with fail
  go_loopw [27] (fun i wr => UpTo 2 i ∧ Rd wr w.heap.size 2 ∧ Grown w wr) (fun i _ => 2 - (intOf i).toNat)
  case atStart => exact ⟨UpTo.zero 2, Rd.two _ _ _ _, (Grown.refl _).alloc _ _⟩
  case round =>
    obtain ⟨⟨k, hk, rfl⟩, hrd, hgr⟩ := hrel
    by_cases hlt : k < 2
    · obtain ⟨s, hs⟩ := hrd.at hlt
      have hb : decide ((k : Int) < 2) = true := decide_eq_true (by omega)
      have HRD := Lib.hid hrd
      have HGR := Lib.hid hgr
      clear hrd hgr
      go_wp2_with fail
      go_loop [37] (fun i => UpTo 2 i) (fun i => 2 - (intOf i).toNat)
      case atStart => exact UpTo.zero 2
      case round =>
        obtain ⟨j, hj, rfl⟩ := hrel
        by_cases hjt : j < 2
        · obtain ⟨r, hr⟩ := (Rd.two wr a0 (pos a0 % 100000001) 3).at hjt
          go_wp2_with fail
          refine (fee_any _ _ _).mono ?_
          rintro e w' ⟨rfl, rfl⟩
          go_wp2_with fail
          refine (rfee_any _ _ _).mono ?_
          rintro e w' ⟨rfl, rfl⟩
          go_wp2_with fail
          go_round
          case rel => exact UpTo.step hjt rfl
          case measure => simp [intOf]; omega
        · go_wp2_with fail
          refine (most_any _ _).mono ?_
          rintro e w' ⟨rfl, rfl⟩
          go_wp2_with fail
          go_loop [68] (fun i => UpTo 2 i) (fun i => 2 - (intOf i).toNat)
          case atStart => exact UpTo.zero 2
          case round =>
            obtain ⟨j', hj', rfl⟩ := hrel
            by_cases hjt' : j' < 2
            · obtain ⟨r, hr⟩ := (Rd.two (wr.alloc (.cells #[.int .i64 a0, .int .i64 (pos a0 % 100000001)] 3)) a1 (pos (near a1)) 3).at hjt'
              simp only [World.size_alloc] at hr
              go_wp2_with fail
              refine (rate_any _ _ _).mono ?_
              rintro e w' ⟨rfl, rfl⟩
              go_wp2_with fail
              refine (rrate_any _ _ _).mono ?_
              rintro e w' ⟨rfl, rfl⟩
              go_wp2_with fail
              go_round
              case rel => exact UpTo.step hjt' rfl
              case measure => simp [intOf]; omega
            · go_wp2_with fail
              go_roundw
              case rel => exact ⟨UpTo.step hlt rfl, (HRD.out.alloc _).alloc _, (HGR.out.alloc _ _).alloc _ _⟩
              case measure => simp [intOf]; omega
    · go_wp2_with fail
      refine (wakes_any _).mono ?_
      rintro e w' ⟨rfl, n, rfl⟩
      go_wp2_with fail
      go_ret
      exact ⟨rfl, grown_drewN hgr _⟩

/-! The row's step. -/
set_option maxRecDepth 100000 in
theorem lifted (os : Os) (started : os.Started) (H : Type) (enc : TypeId × Value → H) :
    ReturnsInHanded {} Try.checked os 4 .any (Rows.amountFeesSpec.pre6 enc Try.prog Try.f4 Rows.amountFeesRow.domain false) (Rows.amountFeesSpec.post enc Try.prog Try.f4 false true false false) := by
  refine returnsInHanded_of_change (C := Try.checked) own started (by kernel_rfl) Try.func4
    (ChangeSpec.witness6 (enc := enc) (C := Try.checked) false ⟨#[], #[.int .i64 0, .int .i64 0, .int .i64 0], []⟩ 8 (by kernel_rfl) (by kernel_rfl) (by kernel_rfl) (by kernel_rfl)) ?_
  intro W base args ds gs before hval0 hW hcnd _
  have hval : ∀ (j : Nat) t v, Try.f4.params[j]? = some t → args[j]? = some v → Value.okWide Try.prog W .any base t v := hval0
  have hW' := hW
  obtain ⟨p, q, hA0, hV, rfl, hfz, hnd⟩ := hW
  have hA : DataW.TrodAll enc Try.prog W 0 (fun _ => true) true Try.f4.params.toList args.toList ds p := hA0
  rw [Try.params4] at hA hval
  obtain ⟨v0, vs0, d0, ds0, p0, q0, hargs, rfl, rfl, h0, r0⟩ := trodAll_cons hA
  obtain ⟨v1, vs1, d1, ds1, p1, q1, rfl, rfl, rfl, h1, r1⟩ := trodAll_cons r0
  obtain ⟨v2, vs2, d2, ds2, p2, q2, rfl, rfl, rfl, h2, r2⟩ := trodAll_cons r1
  obtain ⟨rfl, rfl, rfl⟩ := trodAll_nil r2
  obtain rfl : args = #[v0, v1, v2] := by cases args; simp_all
  obtain ⟨rfl, rfl⟩ := trodVars_none hV
  obtain ⟨a0, rfl, rfl, rfl, w0⟩ := open_int Try.underlying3 (hval 0 3 v0 rfl rfl) h0
  obtain ⟨a1, rfl, rfl, rfl, w1⟩ := open_int Try.underlying3 (hval 1 3 v1 rfl rfl) h1
  obtain ⟨a2, rfl, rfl, rfl, w2⟩ := open_int Try.underlying3 (hval 2 3 v2 rfl rfl) h2
  clear hA0 hval0
  simp only [List.append_nil] at hW'
  refine (walk a0 a1 a2 w0 w1 w2 W).mono fun e W' ⟨he, hg⟩ => ?_
  subst he
  exact ⟨_, rfl, post_of_same (pa := []) (pv := []) hW' (fun _ _ _ => (trodAll_cons_mk (shut_bool Try.underlying4 _) trodAll_mk0)) (fun sp _ => (trodAll_cons_mk (shut_int Try.underlying3 w0) (trodAll_cons_mk (shut_int Try.underlying3 w1) (trodAll_cons_mk (shut_int Try.underlying3 w2) trodAll_mk0)))) (fun _ _ => rfl) rfl
    (hg.frame _) hg.2.1 (ok_one (by kernel_rfl) rfl (okWide_bool_mk Try.underlying4 _))⟩

theorem over : Rows.amountFeesRow.holds Try.pinned (OpenSpec.ofChange Rows.amountFeesSpec) :=
  OpenClaim.holds_of_wide 4 Try.f4 rfl rfl rfl rfl rfl rfl rfl ⟨rfl, rfl, rfl, rfl, rfl⟩ rfl rfl rfl rfl rfl (by kernel_rfl) Try.func4 (by kernel_rfl)
    (of_decide_eq_true (by kernel_rfl)) (by unfold Func.isWrapper; first | (rw [if_pos (by decide +kernel)]; kernel_rfl) | (rw [if_neg (by decide +kernel)]; exact ⟨rfl, rfl⟩))
    (fun os started H enc _ => lifted os started H enc)

/-- The statement. -/
theorem proved : Rows.AmountFeesSaid :=
  over
end Go.Proofs.Ytndjbobgccpdfaa.amountFees
