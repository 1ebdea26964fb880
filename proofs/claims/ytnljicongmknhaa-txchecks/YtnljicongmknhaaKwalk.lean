/-
  The statement TxChecks, walked.
-/
import Derived.Test.YtnljicongmknhaaRowt
import Derived.Test.YtnljicongmknhaaRchk
import Derived.Deep.RegionHeld3
namespace Go.Proofs.Ytnljicongmknhaa
open Go.RowKit

set_option maxHeartbeats 4000000 in
set_option maxRecDepth 100000 in
theorem checks_law (t : TxD) (vi vo : Value) (w : World) (ht : TxAt w 0 w.heap.size vi vo t) (hc : t.Came) :
    Calls Try.prog 3 #[.agg #[.int .u32 t.ver, vi, vo, .int .u32 t.lock]] w fun e w' => e = .returned (.bool true) ∧ Below w.heap.size w w' := by
  obtain ⟨W0, hW0⟩ : ∃ W0, W0 = w.alloc (.cells #[.int .u32 t.ver, vi, vo, .int .u32 t.lock] 26) := ⟨_, rfl⟩
  have z0 : W0.heap.size = w.heap.size + 1 := by rw [hW0]; simp
  have hbx : Boxed W0 w.heap.size (.int .u32 t.ver) vi vo (.int .u32 t.lock) := by rw [hW0]; exact Boxed.new _ _ _ _ _ _
  have hT : TxAt W0 0 w.heap.size vi vo t := by rw [hW0]; exact ht.keep (Kept.alloc (Nat.le_refl _) _)
  have hb0 : Below w.heap.size w W0 := by rw [hW0]; exact (Below.refl _ _).alloc (Nat.le_refl _) _
  have HC9 := Lib.hid (cut_tx hbx z0 hT hc)
  have HC10 := Lib.hid (fit_tx hbx z0 hT hc)
  have HB0 := Lib.hid hb0
  have D0 := Lib.hid ((Below.refl W0.heap.size W0).drew)
  have HW0 := Lib.hid hW0
  clear ht hc hT hb0 hW0
  obtain ⟨s0, s1, s2, s3⟩ := hbx
  go_enter Try.func3, Try.ntmps3
  go_upto_region 1 with (fail)
  rw [show World.alloc w _ = W0 from HW0.out.symm]
  go_cut [13, 14, 15] (fun v n z wx => z = .int .i64 0 ∧ n = .int .i64 2 ∧ ∃ g, v = .slice (some ⟨g, 0, none⟩) 2 2 ∧ RowS w g 2 wx)
  case first =>
    go_region_held3 (fun w' => w'.cell? ⟨w.heap.size, 0, none⟩ = some (.int .u32 t.ver) ∧ w'.cell? ⟨w.heap.size, 1, none⟩ = some vi ∧ w'.cell? ⟨w.heap.size, 2, none⟩ = some vo ∧ w'.cell? ⟨w.heap.size, 3, none⟩ = some (.int .u32 t.lock))
      (go_keep)
      (first
        | (go_at_call 9; ((with_reducible refine (HC9.out _ (by first | exact D0.out | exact HB2.out | exact HB2.out.drew)).mono ?_); rintro e w1 ⟨a, Ai, Ao, ci, co, rfl, hown1, hb1, hB1, ⟨s0, s1, s2, s3⟩⟩; have HB1 := Lib.hid hB1; have HL1 := Lib.hid hb1; have HO1 := Lib.hid hown1; clear hB1 hb1 hown1))
        | (go_at_call 10; ((with_reducible refine (HC10.out _ (by first | exact D0.out | exact HB1.out | exact HB1.out.drew)).mono ?_); rintro e w2 ⟨b, Bi, Bo, di, dz, rfl, hown2, hb2, hB2, ⟨s0, s1, s2, s3⟩⟩; have HB2 := Lib.hid hB2; have HL2 := Lib.hid hb2; have HO2 := Lib.hid hown2; clear hB2 hb2 hown2)))
    all_goals go_wp2_with fail
    all_goals go_meet
    exact ⟨rfl, rfl, _, rfl, row_two HO1.out HO2.out (Kept.of_below HL2.out (Nat.le_refl _)) (Kept.refl _ _ _) HL2.out.size (Nat.le_refl _) HB2.out HB0.out⟩
  case rest =>
    obtain ⟨rfl, rfl, g, rfl, hst⟩ := hcut
    have HST := Lib.hid hst
    clear hst s0 s1 s2 s3 HC9 HC10 D0 HW0 HB0
    go_wp2_with fail
    go_loopg [4, 5, 6, 7, 8, 15] 2 (fun gg _ _ _ _ _ s wr => ∃ k : Nat, k ≤ 2 ∧ 2 - k ≤ gg ∧ s = .int .i64 k ∧ Hid (RowS w g 2 wr))
    case atStart => exact ⟨0, Nat.zero_le _, by omega, rfl, HST⟩
    case round =>
      clear HST
      obtain ⟨k, hk, hg, rfl, HS⟩ := hrel
      by_cases hlt : k < 2
      · have k1 : (k : Int) < 2 := by omega
        have k2 : decide ((k : Int) < 2) = true := decide_eq_true k1
        obtain ⟨u, Ai, Ao, ci, co, c0, c1, c2, c3, hut, huo⟩ := HS.out.row k hlt
        have hgz := HS.out.lt
        obtain ⟨wo, hwo⟩ : ∃ wo, wo = wr := ⟨_, rfl⟩
        subst hwo
        obtain ⟨wx, hwx⟩ : ∃ wx, wx = wo.alloc (.cells #[.int .u32 u.ver, .slice Ai u.ins.length ci, .slice Ao u.outs.length co, .int .u32 u.lock] 26) := ⟨_, rfl⟩
        have hbx : Below wo.heap.size wo wx := by rw [hwx]; exact (Below.refl _ _).alloc (Nat.le_refl _) _
        have zx : wx.heap.size = wo.heap.size + 1 := by rw [hwx]; simp
        have bx : Boxed wx wo.heap.size (.int .u32 u.ver) (.slice Ai u.ins.length ci) (.slice Ao u.outs.length co) (.int .u32 u.lock) := by rw [hwx]; exact Boxed.new _ _ _ _ _ _
        have hux : TxAt wx 0 wo.heap.size (.slice Ai u.ins.length ci) (.slice Ao u.outs.length co) u := hut.keep (Kept.of_below hbx (Nat.le_refl _))
        have HX := Lib.hid hux
        have HO := Lib.hid huo
        have HSX := Lib.hid (HS.out.below hbx)
        have ZX := Lib.hid zx
        have HWX := Lib.hid hwx
        have lo1 := huo.2.1
        clear hut huo hbx zx hux HS hwx
        obtain ⟨b0, b1, b2, b3⟩ := bx
        have BX := Lib.hid (show Boxed wx wo.heap.size (.int .u32 u.ver) (.slice Ai u.ins.length ci) (.slice Ao u.outs.length co) (.int .u32 u.lock) from ⟨b0, b1, b2, b3⟩)
        have P11 := Lib.hid (total_any u (.slice Ai u.ins.length ci) (.slice Ao u.outs.length co) wx 0 wo.heap.size HX.out.2 (by have := ZX.out; omega) lo1)
        have P12 := Lib.hid (fun W (hW : Below wx.heap.size wx W) => rtotal_any u (.slice Ai u.ins.length ci) (.slice Ao u.outs.length co) W 0 wo.heap.size (HX.out.2.keep (Kept.of_below hW (by have := ZX.out; omega))) (by have := hW.size; have := ZX.out; omega) lo1)
        generalize (totalD u.outs).1 = q1 at P11 P12
        generalize (totalD u.outs).2 = q2 at P11 P12
        go_upto_region 4 with (fail)
        rw [show World.alloc wo _ = wx from HWX.out.symm]
        go_wp2_with fail
        refine P11.out.mono ?_
        rintro e w1 ⟨rfl, hb1⟩
        have Z1 := Lib.hid hb1.size
        have HL1 := Lib.hid hb1
        have HS1 := Lib.hid (HSX.out.below hb1)
        clear b0 b1 b2 b3
        obtain ⟨b0, b1, b2, b3⟩ := BX.out.below (by have := ZX.out; omega) hb1
        clear hb1
        go_wp2_with fail
        refine (P12.out _ HL1.out).mono ?_
        rintro e w2 ⟨rfl, hb2⟩
        have HL2 := Lib.hid (below_next HL1.out HL1.out.size hb2)
        have HS2 := Lib.hid (HS1.out.below hb2)
        clear b0 b1 b2 b3 hb2
        have zw : wo.heap.size < w2.heap.size := by have := HL2.out.size; have := ZX.out; omega
        have B2 := Lib.hid (BX.out.below (by have := ZX.out; omega) HL2.out)
        have HX2 := Lib.hid (HX.out.keep (Kept.of_below HL2.out (by have := ZX.out; omega)))
        have C13 := Lib.hid (fun x : After w2 => check_any u (.slice Ai u.ins.length ci) (.slice Ao u.outs.length co) x.val 0 wo.heap.size (HX2.out.keep (Kept.of_below x.ok (by omega))) (by have := x.ok.size; omega) HO.out)
        have C14 := Lib.hid (fun x : After w2 => rcheck_any u (.slice Ai u.ins.length ci) (.slice Ao u.outs.length co) x.val 0 wo.heap.size (HX2.out.keep (Kept.of_below x.ok (by omega))) (by have := x.ok.size; omega) HO.out)
        have C15 := Lib.hid (fun x : After w2 => base_any u (.slice Ai u.ins.length ci) (.slice Ao u.outs.length co) x.val 0 wo.heap.size (HX2.out.1.keep (Kept.of_below x.ok (by omega))) (by have := x.ok.size; omega))
        have r0 : ∀ x : After w2, x.val.cell? ⟨wo.heap.size, 0, none⟩ = some (.int .u32 u.ver) := fun x => (x.ok.cell (p := ⟨wo.heap.size, 0, none⟩) zw).trans B2.out.1
        have r1 : ∀ x : After w2, x.val.cell? ⟨wo.heap.size, 1, none⟩ = some (.slice Ai u.ins.length ci) := fun x => (x.ok.cell (p := ⟨wo.heap.size, 1, none⟩) zw).trans B2.out.2.1
        have r2 : ∀ x : After w2, x.val.cell? ⟨wo.heap.size, 2, none⟩ = some (.slice Ao u.outs.length co) := fun x => (x.ok.cell (p := ⟨wo.heap.size, 2, none⟩) zw).trans B2.out.2.2.1
        have r3 : ∀ x : After w2, x.val.cell? ⟨wo.heap.size, 3, none⟩ = some (.int .u32 u.lock) := fun x => (x.ok.cell (p := ⟨wo.heap.size, 3, none⟩) zw).trans B2.out.2.2.2
        have hne : Nonempty (After w2) := ⟨⟨w2, Below.refl _ _⟩⟩
        generalize checkD u = cd at C13 C14
        have e1 : (cd != cd) = false := by simp
        have e2 : (q1 != q1) = false := by simp
        have e3 : (q2 != q2) = false := by simp
        by_cases h1 : u.ins.length = 1
        · obtain ⟨x, hx⟩ : ∃ x, u.ins[0]? = some x := ⟨_, List.getElem?_eq_getElem (by omega)⟩
          have hib : isBase u.ins = baseB x.id x.ix := by
            obtain ⟨y, hy⟩ := List.length_eq_one_iff.1 h1
            rw [hy] at hx ⊢
            simp at hx
            subst hx
            rfl
          obtain ⟨b, off, rfl, _, hbh, d0, d1, d2, v, d3, hs⟩ := HX2.out.1.at hx
          rw [hib] at C15
          have hbz : b < w2.heap.size := by omega
          simp only [Nat.zero_mul, Nat.add_zero] at d0 d1
          have r4 : ∀ x' : After w2, x'.val.cell? ⟨b, off, none⟩ = some (.string x.id) := fun x' => (x'.ok.cell (p := ⟨b, off, none⟩) hbz).trans d0
          have r5 : ∀ x' : After w2, x'.val.cell? ⟨b, off + 1, none⟩ = some (.int .u32 x.ix) := fun x' => (x'.ok.cell (p := ⟨b, off + 1, none⟩) hbz).trans d1
          have C16 := Lib.hid (fun x' : After w2 => rbase_any x.id x.ix x'.val)
          generalize baseB x.id x.ix = bb at C15 C16
          have e4 : (bb != bb) = false := by simp
          have e5 : ((u.ins.length : Int) == 1) = true := by simp [h1]
          have e6 : (0 : Int) < (u.ins.length : Int) := by omega
          clear hs d0 d1 d2 d3 hx hib h1
          go_wp2_with fail
          refine wp_region_after (by kernel_rfl) (by kernel_rfl) ?_
          repeat (go_big_quiet_step ((first | (go_at_call 13; exact After.call _ (C13.out _)) | (go_at_call 14; exact After.call _ (C14.out _)) | (go_at_call 15; exact After.call _ (C15.out _)) | (go_at_call 16; exact After.call _ (C16.out _)))))
          refine wpQuiet_nil ?_
          rintro _ ⟨⟨W, hW⟩, rfl⟩
          go_wp2_with fail
          go_roundg (2 - (k + 1))
          case measure => omega
          case rel => exact ⟨k + 1, by omega, by omega, by go_num, HS2.out.below hW⟩
        · rw [isBase_len h1] at C15
          have e5 : ((u.ins.length : Int) == 1) = false := by rw [beq_eq_false_iff_ne]; omega
          go_wp2_with fail
          refine wp_region_after (by kernel_rfl) (by kernel_rfl) ?_
          repeat (go_big_quiet_step ((first | (go_at_call 13; exact After.call _ (C13.out _)) | (go_at_call 14; exact After.call _ (C14.out _)) | (go_at_call 15; exact After.call _ (C15.out _)))))
          refine wpQuiet_nil ?_
          rintro _ ⟨⟨W, hW⟩, rfl⟩
          go_wp2_with fail
          go_roundg (2 - (k + 1))
          case measure => omega
          case rel => exact ⟨k + 1, by omega, by omega, by go_num, HS2.out.below hW⟩
      · have k1 : ¬ (k : Int) < 2 := by omega
        go_wp2_with fail
        refine (wakes_any _).mono ?_
        rintro e w4 ⟨rfl, hb4⟩
        go_wp2_with fail
        go_ret
        exact ⟨rfl, (HS.out.below hb4).bel⟩

end Go.Proofs.Ytnljicongmknhaa
