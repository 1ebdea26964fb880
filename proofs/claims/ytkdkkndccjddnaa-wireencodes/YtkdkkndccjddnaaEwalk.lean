/-
  The statement WireEncodes, walked.
-/
import Derived.Test.YtkdkkndccjddnaaFit
import Derived.Test.YtkdkkndccjddnaaRlong
import Derived.Test.YtkdkkndccjddnaaByt
import Derived.Test.YtkdkkndccjddnaaWake
import Derived.Deep.RegionHeld3
namespace Go.Proofs.Ytkdkkndccjddnaa
open Go.RowKit

set_option maxHeartbeats 4000000 in
set_option maxRecDepth 100000 in
theorem encodes_law (t : TxD) (vi vo : Value) (w : World) (ht : TxAt w 0 w.heap.size vi vo t) (hc : t.Came) :
    Calls Try.prog 3 #[.agg #[.int .u32 t.ver, vi, vo, .int .u32 t.lock]] w fun e w' => e = .returned (.bool true) ∧ Below w.heap.size w w' := by
  obtain ⟨W0, hW0⟩ : ∃ W0, W0 = w.alloc (.cells #[.int .u32 t.ver, vi, vo, .int .u32 t.lock] 26) := ⟨_, rfl⟩
  have z0 : W0.heap.size = w.heap.size + 1 := by rw [hW0]; simp
  have hbx : Boxed W0 w.heap.size (.int .u32 t.ver) vi vo (.int .u32 t.lock) := by rw [hW0]; exact Boxed.new _ _ _ _ _ _
  have hT : TxAt W0 0 w.heap.size vi vo t := by rw [hW0]; exact ht.keep (Kept.alloc (Nat.le_refl _) _)
  have hb0 : Below w.heap.size w W0 := by rw [hW0]; exact (Below.refl _ _).alloc (Nat.le_refl _) _
  have HC8 := Lib.hid (cut_tx hbx z0 hT hc)
  have HC9 := Lib.hid (fit_tx hbx z0 hT hc)
  have HB0 := Lib.hid hb0
  have D0 := Lib.hid ((Below.refl W0.heap.size W0).drew)
  have HW0 := Lib.hid hW0
  clear ht hc hT hb0 hW0
  obtain ⟨s0, s1, s2, s3⟩ := hbx
  go_enter Try.func3, Try.ntmps3
  go_upto_region 1 with (fail)
  rw [show World.alloc w _ = W0 from HW0.out.symm]
  go_cut [14, 15, 16] (fun v n z wx => z = .int .i64 0 ∧ n = .int .i64 2 ∧ ∃ g, v = .slice (some ⟨g, 0, none⟩) 2 2 ∧ RowS w g 2 wx)
  case first =>
    go_region_held3 (fun w' => w'.cell? ⟨w.heap.size, 0, none⟩ = some (.int .u32 t.ver) ∧ w'.cell? ⟨w.heap.size, 1, none⟩ = some vi ∧ w'.cell? ⟨w.heap.size, 2, none⟩ = some vo ∧ w'.cell? ⟨w.heap.size, 3, none⟩ = some (.int .u32 t.lock))
      (go_keep)
      (first
        | (go_at_call 8; ((with_reducible refine (HC8.out _ (by first | exact D0.out | exact HB2.out | exact HB2.out.drew)).mono ?_); rintro e w1 ⟨a, Ai, Ao, ci, co, rfl, hown1, hb1, hB1, ⟨s0, s1, s2, s3⟩⟩; have HB1 := Lib.hid hB1; have HL1 := Lib.hid hb1; have HO1 := Lib.hid hown1; clear hB1 hb1 hown1))
        | (go_at_call 9; ((with_reducible refine (HC9.out _ (by first | exact D0.out | exact HB1.out | exact HB1.out.drew)).mono ?_); rintro e w2 ⟨b, Bi, Bo, di, dz, rfl, hown2, hb2, hB2, ⟨s0, s1, s2, s3⟩⟩; have HB2 := Lib.hid hB2; have HL2 := Lib.hid hb2; have HO2 := Lib.hid hown2; clear hB2 hb2 hown2)))
    all_goals go_wp2_with fail
    all_goals go_meet
    exact ⟨rfl, rfl, _, rfl, row_two HO1.out HO2.out (Kept.of_below HL2.out (Nat.le_refl _)) (Kept.refl _ _ _) HL2.out.size (Nat.le_refl _) HB2.out HB0.out⟩
  case rest =>
    obtain ⟨rfl, rfl, g, rfl, hst⟩ := hcut
    have HST := Lib.hid hst
    clear hst s0 s1 s2 s3 HC8 HC9 D0 HW0 HB0
    go_wp2_with fail
    go_loopg [16] 2 (fun gg s wr => ∃ k : Nat, k ≤ 2 ∧ 2 - k ≤ gg ∧ s = .int .i64 k ∧ Hid (RowS w g 2 wr))
    case atStart => exact ⟨0, Nat.zero_le _, by omega, rfl, HST⟩
    case round =>
      clear HST
      obtain ⟨k, hk, hg, rfl, HS⟩ := hrel
      by_cases hlt : k < 2
      · have k1 : (k : Int) < 2 := by omega
        have k2 : decide ((k : Int) < 2) = true := decide_eq_true k1
        obtain ⟨u, Ai, Ao, ci, co, c0, c1, c2, c3, hut, huo⟩ := HS.out.row k hlt
        have hgz := HS.out.lt
        obtain ⟨wo, hwo⟩ : ∃ wo, wo = wr := ⟨_, rfl⟩
        subst hwo
        obtain ⟨wx, hwx⟩ : ∃ wx, wx = wo.alloc (.cells #[.int .u32 u.ver, .slice Ai u.ins.length ci, .slice Ao u.outs.length co, .int .u32 u.lock] 26) := ⟨_, rfl⟩
        have hbx : Below wo.heap.size wo wx := by rw [hwx]; exact (Below.refl _ _).alloc (Nat.le_refl _) _
        have zx : wx.heap.size = wo.heap.size + 1 := by rw [hwx]; simp
        have BX := Lib.hid (show Boxed wx wo.heap.size (.int .u32 u.ver) (.slice Ai u.ins.length ci) (.slice Ao u.outs.length co) (.int .u32 u.lock) from by rw [hwx]; exact Boxed.new _ _ _ _ _ _)
        have HX := Lib.hid (show TxAt wx 0 wx.heap.size (.slice Ai u.ins.length ci) (.slice Ao u.outs.length co) u from (hut.keep (Kept.of_below hbx (Nat.le_refl _))).wide (Nat.le_refl _) (by omega))
        have HO := Lib.hid huo
        have HSX := Lib.hid (HS.out.below hbx)
        have HWX := Lib.hid hwx
        clear hut huo hbx HS hwx
        have hbl : wo.heap.size < wx.heap.size := by omega
        have G := fun (W : World) (hW : Below wx.heap.size wx W) => (HX.out.keep (Kept.of_below hW (Nat.le_refl _))).wide (Nat.le_refl _) hW.size
        have C10 := Lib.hid (fun (W : World) (hW : Below wx.heap.size wx W) => encode_any u _ _ W (G W hW) HO.out)
        have C11 := Lib.hid (fun (W : World) (hW : Below wx.heap.size wx W) => bare_any u _ _ W (G W hW) HO.out)
        have C12 := Lib.hid (fun (W : World) (hW : Below wx.heap.size wx W) => rcheck_any u (.slice Ai u.ins.length ci) (.slice Ao u.outs.length co) W 0 W.heap.size (G W hW) (Nat.le_refl _) HO.out)
        have C13 := Lib.hid (fun (hz : checkD u = 0) (b : Bool) (W : World) (hW : Below wx.heap.size wx W) => bytes_any u _ _ b W (G W hW) HO.out (check_vals hz))
        obtain ⟨es, hes⟩ : ∃ es, encS u (hasW u) = es := ⟨_, rfl⟩
        obtain ⟨eb, heb⟩ : ∃ eb, encS u false = eb := ⟨_, rfl⟩
        obtain ⟨cd, hcd⟩ : ∃ cd, checkD u = cd := ⟨_, rfl⟩
        rw [hes, hcd] at C10
        rw [heb, hcd] at C11
        rw [hcd] at C12 C13
        have EZ := Lib.hid (show (cd = 0 → wireS u (!false && hasW u) = es ∧ wireS u (!true && hasW u) = eb) ∧ (¬ cd = 0 → es = ⟨#[]⟩ ∧ eb = ⟨#[]⟩) from by
          rw [← hes, ← heb, ← hcd]
          refine ⟨fun h => ?_, fun h => ?_⟩
          · unfold encS
            rw [if_pos h, if_pos h]
            exact ⟨by simp, by simp⟩
          · unfold encS
            rw [if_neg h, if_neg h]
            exact ⟨rfl, rfl⟩)
        clear hes heb hcd G zx
        go_upto_region 4 with (fail)
        rw [show World.alloc wo _ = wx from HWX.out.symm]
        obtain ⟨b0, b1, b2, b3⟩ := BX.out
        go_wp2_with fail
        refine (C10.out wx (Below.refl _ _)).mono ?_
        rintro e w1 ⟨rfl, hb1⟩
        have L1 := Lib.hid hb1
        clear b0 b1 b2 b3 hb1
        obtain ⟨b0, b1, b2, b3⟩ := BX.out.below hbl L1.out
        go_wp2_with fail
        refine (C11.out w1 L1.out).mono ?_
        rintro e w2 ⟨rfl, hb2⟩
        have L2 := Lib.hid (below_next L1.out L1.out.size hb2)
        clear b0 b1 b2 b3 hb2 L1
        obtain ⟨b0, b1, b2, b3⟩ := BX.out.below hbl L2.out
        go_wp2_with fail
        refine (C12.out w2 L2.out).mono ?_
        rintro e w3 ⟨rfl, hb3⟩
        have L3 := Lib.hid (below_next L2.out L2.out.size hb3)
        clear b0 b1 b2 b3 hb3 L2
        obtain ⟨b0, b1, b2, b3⟩ := BX.out.below hbl L3.out
        have e1 : (cd != cd) = false := by simp
        by_cases hz : cd = 0
        · have e2 : (cd != 0) = false := by simpa using hz
          have e3 : (cd == 0) = true := by simpa using hz
          have e4 : (es.toList != es.toList) = false := by simp
          have e5 : (eb.toList != eb.toList) = false := by simp
          have D1 := Lib.hid (fun (W : World) (hW : Below wx.heap.size wx W) => C13.out hz false W hW)
          have D2 := Lib.hid (fun (W : World) (hW : Below wx.heap.size wx W) => C13.out hz true W hW)
          rw [(EZ.out.1 hz).1] at D1
          rw [(EZ.out.1 hz).2] at D2
          clear hz C10 C11 C12 C13 EZ
          go_wp2_with fail
          refine (D1.out w3 L3.out).mono ?_
          rintro e w4 ⟨rfl, hb4⟩
          have L4 := Lib.hid (below_next L3.out L3.out.size hb4)
          clear b0 b1 b2 b3 hb4 L3
          obtain ⟨b0, b1, b2, b3⟩ := BX.out.below hbl L4.out
          go_wp2_with fail
          refine (D2.out w4 L4.out).mono ?_
          rintro e w5 ⟨rfl, hb5⟩
          have L5 := Lib.hid (below_next L4.out L4.out.size hb5)
          go_wp2_with fail
          go_roundg (2 - (k + 1))
          case measure => omega
          case rel => exact ⟨k + 1, by omega, by omega, by go_num, HSX.out.below L5.out⟩
        · have e2 : (cd != 0) = true := by simpa using hz
          have e3 : (cd == 0) = false := by simpa using hz
          obtain ⟨rfl, rfl⟩ := EZ.out.2 hz
          clear hz C10 C11 C12 C13 EZ
          go_wp2_with fail
          go_roundg (2 - (k + 1))
          case measure => omega
          case rel => exact ⟨k + 1, by omega, by omega, by go_num, HSX.out.below L3.out⟩
      · have k1 : ¬ (k : Int) < 2 := by omega
        go_wp2_with fail
        refine (wakes_any _).mono ?_
        rintro e w4 ⟨rfl, hb4⟩
        go_wp2_with fail
        go_ret
        exact ⟨rfl, (HS.out.below hb4).bel⟩

end Go.Proofs.Ytkdkkndccjddnaa
