/-
  The statement IdentTells, walked.
-/
import Derived.Test.YtfobdefncbaooaaDoorFit
import Derived.Test.YtfobdefncbaooaaDoorRlong
import Derived.Test.YtfobdefncbaooaaDoorIdc
import Derived.Deep.RegionHeld3
namespace Go.Proofs.YtfobdefncbaooaaDoor
open Go.RowKit

set_option maxHeartbeats 4000000 in
set_option maxRecDepth 100000 in
theorem tells_law (t : TxD) (vi vo : Value) (w : World) (ht : TxAt w 0 w.heap.size vi vo t) (hc : t.Came) (hTa : Sh.Tabs w) :
    Calls Tryd.prog 3 #[.agg #[.int .u32 t.ver, vi, vo, .int .u32 t.lock]] w fun e w' => e = .returned (.bool true) ∧ Below w.heap.size w w' := by
  obtain ⟨W0, hW0⟩ : ∃ W0, W0 = w.alloc (.cells #[.int .u32 t.ver, vi, vo, .int .u32 t.lock] 26) := ⟨_, rfl⟩
  have z0 : W0.heap.size = w.heap.size + 1 := by rw [hW0]; simp
  have hbx : Boxed W0 w.heap.size (.int .u32 t.ver) vi vo (.int .u32 t.lock) := by rw [hW0]; exact Boxed.new _ _ _ _ _ _
  have hT : TxAt W0 0 w.heap.size vi vo t := by rw [hW0]; exact ht.keep (Kept.alloc (Nat.le_refl _) _)
  have hb0 : Below w.heap.size w W0 := by rw [hW0]; exact (Below.refl _ _).alloc (Nat.le_refl _) _
  have HC8 := Lib.hid (cut_tx hbx z0 hT hc)
  have HC9 := Lib.hid (fit_tx hbx z0 hT hc)
  have HB0 := Lib.hid hb0
  have D0 := Lib.hid ((Below.refl W0.heap.size W0).drew)
  have HW0 := Lib.hid hW0
  have TA := Lib.hid hTa
  clear ht hc hT hb0 hW0 hTa
  obtain ⟨s0, s1, s2, s3⟩ := hbx
  go_enter Tryd.func3, Tryd.ntmps3
  go_upto_region 1 with (fail)
  rw [show World.alloc w _ = W0 from HW0.out.symm]
  go_cut [18, 19, 20] (fun v n z wx => z = .int .i64 0 ∧ n = .int .i64 2 ∧ ∃ g, v = .slice (some ⟨g, 0, none⟩) 2 2 ∧ RowS w g 2 wx)
  case first =>
    go_region_held3 (fun w' => w'.cell? ⟨w.heap.size, 0, none⟩ = some (.int .u32 t.ver) ∧ w'.cell? ⟨w.heap.size, 1, none⟩ = some vi ∧ w'.cell? ⟨w.heap.size, 2, none⟩ = some vo ∧ w'.cell? ⟨w.heap.size, 3, none⟩ = some (.int .u32 t.lock))
      (go_keep)
      (first
        | (go_at_call 7; ((with_reducible refine (HC8.out _ (by first | exact D0.out | exact HB2.out | exact HB2.out.drew)).mono ?_); rintro e w1 ⟨a, Ai, Ao, ci, co, rfl, hown1, hb1, hB1, ⟨s0, s1, s2, s3⟩⟩; have HB1 := Lib.hid hB1; have HL1 := Lib.hid hb1; have HO1 := Lib.hid hown1; clear hB1 hb1 hown1))
        | (go_at_call 8; ((with_reducible refine (HC9.out _ (by first | exact D0.out | exact HB1.out | exact HB1.out.drew)).mono ?_); rintro e w2 ⟨b, Bi, Bo, di, dz, rfl, hown2, hb2, hB2, ⟨s0, s1, s2, s3⟩⟩; have HB2 := Lib.hid hB2; have HL2 := Lib.hid hb2; have HO2 := Lib.hid hown2; clear hB2 hb2 hown2)))
    all_goals go_wp2_with fail
    all_goals go_meet
    exact ⟨rfl, rfl, _, rfl, row_two HO1.out HO2.out (Kept.of_below HL2.out (Nat.le_refl _)) (Kept.refl _ _ _) HL2.out.size (Nat.le_refl _) HB2.out HB0.out⟩
  case rest =>
    obtain ⟨rfl, rfl, g, rfl, hst⟩ := hcut
    have HST := Lib.hid hst
    clear hst s0 s1 s2 s3 HC8 HC9 D0 HW0 HB0
    go_wp2_with fail
    go_loopg [20] 2 (fun gg s wr => ∃ k : Nat, k ≤ 2 ∧ 2 - k ≤ gg ∧ s = .int .i64 k ∧ Hid (RowS w g 2 wr))
    case atStart => exact ⟨0, Nat.zero_le _, by omega, rfl, HST⟩
    case round =>
      clear HST
      obtain ⟨k, hk, hg, rfl, HS⟩ := hrel
      by_cases hlt : k < 2
      · have k1 : (k : Int) < 2 := by omega
        have k2 : decide ((k : Int) < 2) = true := decide_eq_true k1
        obtain ⟨u, Ai, Ao, ci, co, c0, c1, c2, c3, hut, huo⟩ := HS.out.row k hlt
        have hgz := HS.out.lt
        obtain ⟨wo, hwo⟩ : ∃ wo, wo = wr := ⟨_, rfl⟩
        subst hwo
        obtain ⟨wx, hwx⟩ : ∃ wx, wx = wo.alloc (.cells #[.int .u32 u.ver, .slice Ai u.ins.length ci, .slice Ao u.outs.length co, .int .u32 u.lock] 26) := ⟨_, rfl⟩
        have hbx : Below wo.heap.size wo wx := by rw [hwx]; exact (Below.refl _ _).alloc (Nat.le_refl _) _
        have zx : wx.heap.size = wo.heap.size + 1 := by rw [hwx]; simp
        have BX := Lib.hid (show Boxed wx wo.heap.size (.int .u32 u.ver) (.slice Ai u.ins.length ci) (.slice Ao u.outs.length co) (.int .u32 u.lock) from by rw [hwx]; exact Boxed.new _ _ _ _ _ _)
        have HX := Lib.hid (show TxAt wx 0 wx.heap.size (.slice Ai u.ins.length ci) (.slice Ao u.outs.length co) u from (hut.keep (Kept.of_below hbx (Nat.le_refl _))).wide (Nat.le_refl _) (by omega))
        have HO := Lib.hid huo
        have HSX := Lib.hid (HS.out.below hbx)
        have HWX := Lib.hid hwx
        have TX := Lib.hid (TA.out.below HSX.out.bel)
        clear hut huo hbx HS hwx
        have hbl : wo.heap.size < wx.heap.size := by omega
        have G := fun (W : World) (hW : Below wx.heap.size wx W) => (HX.out.keep (Kept.of_below hW (Nat.le_refl _))).wide (Nat.le_refl _) hW.size
        have C9 := Lib.hid (fun (W : World) (hW : Below wx.heap.size wx W) => ident_any u _ _ W (G W hW) HO.out (TX.out.below hW))
        have C10 := Lib.hid (fun (W : World) (hW : Below wx.heap.size wx W) => whole_any u _ _ W (G W hW) HO.out (TX.out.below hW))
        have C11 := Lib.hid (fun (W : World) (hW : Below wx.heap.size wx W) => weight_any u _ _ W (G W hW) HO.out)
        have C12 := Lib.hid (fun (W : World) (hW : Below wx.heap.size wx W) => size_any u _ _ W (G W hW) HO.out)
        have C13 := Lib.hid (fun (W : World) (hW : Below wx.heap.size wx W) => rcheck_any u (.slice Ai u.ins.length ci) (.slice Ao u.outs.length co) W 0 W.heap.size (G W hW) (Nat.le_refl _) HO.out)
        have C14 := Lib.hid (fun (hz : checkD u = 0) (W : World) (hW : Below wx.heap.size wx W) => rid_any u _ _ W (G W hW) HO.out (check_vals hz))
        have C15 := Lib.hid (fun (hz : checkD u = 0) (W : World) (hW : Below wx.heap.size wx W) => rwhole_any u _ _ W (G W hW) HO.out (check_vals hz))
        have C16 := Lib.hid (fun (hz : checkD u = 0) (W : World) (hW : Below wx.heap.size wx W) => rweight_any u _ _ W (G W hW) HO.out (check_vals hz))
        have C17 := Lib.hid (fun (hz : checkD u = 0) (W : World) (hW : Below wx.heap.size wx W) => rsize_any u _ _ W (G W hW) HO.out (check_vals hz))
        have EZ0 : (checkD u = 0 → dd (wireS u false) = idS u ∧ dd (wireS u (hasW u)) = whS u ∧ wtD u = wtN u ∧ (wtD u + 3) / 4 = szN u) ∧ (¬ checkD u = 0 → idS u = ⟨#[]⟩ ∧ whS u = ⟨#[]⟩ ∧ wtN u = 0 ∧ szN u = 0) := by
          refine ⟨fun h => ?_, fun h => ?_⟩
          · have e : wtN u = wtD u := by unfold wtN wtD; rw [if_pos h]
            refine ⟨?_, ?_, e.symm, ?_⟩
            · unfold idS; rw [if_pos h]
            · unfold whS; rw [if_pos h]
            · unfold szN; rw [if_pos h, e]
          · refine ⟨?_, ?_, ?_, ?_⟩
            · unfold idS; rw [if_neg h]
            · unfold whS; rw [if_neg h]
            · unfold wtN; rw [if_neg h]
            · unfold szN; rw [if_neg h]
        obtain ⟨ia, hia⟩ : ∃ x, idS u = x := ⟨_, rfl⟩
        obtain ⟨ib, hib⟩ : ∃ x, whS u = x := ⟨_, rfl⟩
        obtain ⟨nw, hnw⟩ : ∃ x, wtN u = x := ⟨_, rfl⟩
        obtain ⟨ns, hns⟩ : ∃ x, szN u = x := ⟨_, rfl⟩
        obtain ⟨cd, hcd⟩ : ∃ cd, checkD u = cd := ⟨_, rfl⟩
        rw [hia, hib, hnw, hns, hcd] at EZ0
        rw [hia, hcd] at C9
        rw [hib, hcd] at C10
        rw [hnw, hcd] at C11
        rw [hns, hcd] at C12
        rw [hcd] at C13 C14 C15 C16 C17
        have EZ := Lib.hid EZ0
        clear EZ0 hia hib hnw hns hcd G zx
        go_upto_region 4 with (fail)
        rw [show World.alloc wo _ = wx from HWX.out.symm]
        obtain ⟨b0, b1, b2, b3⟩ := BX.out
        go_wp2_with fail
        refine (C9.out wx (Below.refl _ _)).mono ?_
        rintro e w1 ⟨rfl, hb1⟩
        have L1 := Lib.hid hb1
        clear b0 b1 b2 b3 hb1
        obtain ⟨b0, b1, b2, b3⟩ := BX.out.below hbl L1.out
        go_wp2_with fail
        refine (C10.out w1 L1.out).mono ?_
        rintro e w2 ⟨rfl, hb2⟩
        have L2 := Lib.hid (below_next L1.out L1.out.size hb2)
        clear b0 b1 b2 b3 hb2 L1
        obtain ⟨b0, b1, b2, b3⟩ := BX.out.below hbl L2.out
        go_wp2_with fail
        refine (C11.out w2 L2.out).mono ?_
        rintro e w3 ⟨rfl, hb3⟩
        have L3 := Lib.hid (below_next L2.out L2.out.size hb3)
        clear b0 b1 b2 b3 hb3 L2
        obtain ⟨b0, b1, b2, b3⟩ := BX.out.below hbl L3.out
        go_wp2_with fail
        refine (C12.out w3 L3.out).mono ?_
        rintro e w4 ⟨rfl, hb4⟩
        have L4 := Lib.hid (below_next L3.out L3.out.size hb4)
        clear b0 b1 b2 b3 hb4 L3
        obtain ⟨b0, b1, b2, b3⟩ := BX.out.below hbl L4.out
        go_wp2_with fail
        refine (C13.out w4 L4.out).mono ?_
        rintro e w5 ⟨rfl, hb5⟩
        have L5 := Lib.hid (below_next L4.out L4.out.size hb5)
        clear b0 b1 b2 b3 hb5 L4
        obtain ⟨b0, b1, b2, b3⟩ := BX.out.below hbl L5.out
        have e1 : (cd != cd) = false := by simp
        by_cases hz : cd = 0
        · have e2 : (cd != 0) = false := by simpa using hz
          have e3 : (cd == 0) = true := by simpa using hz
          have e4 : (ia.toList != ia.toList) = false := by simp
          have e5 : (ib.toList != ib.toList) = false := by simp
          have e6 : (nw != nw) = false := by simp
          have e7 : (ns != ns) = false := by simp
          have D1 := Lib.hid (fun (W : World) (hW : Below wx.heap.size wx W) => C14.out hz W hW)
          have D2 := Lib.hid (fun (W : World) (hW : Below wx.heap.size wx W) => C15.out hz W hW)
          have D3 := Lib.hid (fun (W : World) (hW : Below wx.heap.size wx W) => C16.out hz W hW)
          have D4 := Lib.hid (fun (W : World) (hW : Below wx.heap.size wx W) => C17.out hz W hW)
          rw [(EZ.out.1 hz).1] at D1
          rw [(EZ.out.1 hz).2.1] at D2
          rw [(EZ.out.1 hz).2.2.1] at D3
          rw [(EZ.out.1 hz).2.2.2] at D4
          clear hz C9 C10 C11 C12 C13 C14 C15 C16 C17 EZ
          go_wp2_with fail
          refine (D1.out w5 L5.out).mono ?_
          rintro e w6 ⟨rfl, hb6⟩
          have L6 := Lib.hid (below_next L5.out L5.out.size hb6)
          clear b0 b1 b2 b3 hb6 L5
          obtain ⟨b0, b1, b2, b3⟩ := BX.out.below hbl L6.out
          go_wp2_with fail
          refine (D2.out w6 L6.out).mono ?_
          rintro e w7 ⟨rfl, hb7⟩
          have L7 := Lib.hid (below_next L6.out L6.out.size hb7)
          clear b0 b1 b2 b3 hb7 L6
          obtain ⟨b0, b1, b2, b3⟩ := BX.out.below hbl L7.out
          go_wp2_with fail
          refine (D3.out w7 L7.out).mono ?_
          rintro e w8 ⟨rfl, hb8⟩
          have L8 := Lib.hid (below_next L7.out L7.out.size hb8)
          clear b0 b1 b2 b3 hb8 L7
          obtain ⟨b0, b1, b2, b3⟩ := BX.out.below hbl L8.out
          go_wp2_with fail
          refine (D4.out w8 L8.out).mono ?_
          rintro e w9 ⟨rfl, hb9⟩
          have L9 := Lib.hid (below_next L8.out L8.out.size hb9)
          clear b0 b1 b2 b3 hb9 L8
          go_wp2_with fail
          go_roundg (2 - (k + 1))
          case measure => omega
          case rel => exact ⟨k + 1, by omega, by omega, by go_num, HSX.out.below L9.out⟩
        · have e2 : (cd != 0) = true := by simpa using hz
          have e3 : (cd == 0) = false := by simpa using hz
          obtain ⟨rfl, rfl, rfl, rfl⟩ := EZ.out.2 hz
          clear hz C9 C10 C11 C12 C13 C14 C15 C16 C17 EZ
          go_wp2_with fail
          go_roundg (2 - (k + 1))
          case measure => omega
          case rel => exact ⟨k + 1, by omega, by omega, by go_num, HSX.out.below L5.out⟩
      · have k1 : ¬ (k : Int) < 2 := by omega
        have TX := Lib.hid (TA.out.below HS.out.bel)
        go_wp2_with fail
        refine (wakes_any _ TX.out).mono ?_
        rintro e w4 ⟨rfl, hb4⟩
        go_wp2_with fail
        go_ret
        exact ⟨rfl, (HS.out.below hb4).bel⟩

end Go.Proofs.YtfobdefncbaooaaDoor
