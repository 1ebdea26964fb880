/-
  The statement IdentPays, walked.
-/
import Derived.Test.YtfobdefncbaooaaDoorFit
import Derived.Test.YtfobdefncbaooaaDoorRlong
import Derived.Test.YtfobdefncbaooaaDoorIdc
import Derived.Deep.RegionHeld3
import Derived.Test.YtfobdefncbaooaaDoorPwalk
import Derived.Test.YtfobdefncbaooaaDoorEnc
import Derived.Laws.StructEq
namespace Go.Proofs.YtfobdefncbaooaaDoor
open Go.RowKit

/-- The two places that IdentPays asks for. -/
def pick2 (i j : Int) (k : Nat) : Int := if k = 0 then i else j

set_option maxHeartbeats 4000000 in
set_option maxRecDepth 100000 in
theorem pays_law (t : TxD) (ix : Int) (vi vo : Value) (w : World) (ht : TxAt w 0 w.heap.size vi vo t) (hc : t.Came) (hix : -9223372036854775808 ≤ ix ∧ ix ≤ 9223372036854775807) (hTa : Sh.Tabs w) :
    Calls Tryd.prog 4 #[.agg #[.int .u32 t.ver, vi, vo, .int .u32 t.lock], .int .i64 ix] w fun e w' => e = .returned (.bool true) ∧ Below w.heap.size w w' := by
  obtain ⟨W0, hW0⟩ : ∃ W0, W0 = w.alloc (.cells #[.int .u32 t.ver, vi, vo, .int .u32 t.lock] 26) := ⟨_, rfl⟩
  have z0 : W0.heap.size = w.heap.size + 1 := by rw [hW0]; simp
  have hbx : Boxed W0 w.heap.size (.int .u32 t.ver) vi vo (.int .u32 t.lock) := by rw [hW0]; exact Boxed.new _ _ _ _ _ _
  have hT : TxAt W0 0 w.heap.size vi vo t := by rw [hW0]; exact ht.keep (Kept.alloc (Nat.le_refl _) _)
  have hb0 : Below w.heap.size w W0 := by rw [hW0]; exact (Below.refl _ _).alloc (Nat.le_refl _) _
  have HC8 := Lib.hid (fit_tx hbx z0 hT hc W0 (Below.refl _ _))
  have HB0 := Lib.hid hb0
  have HW0 := Lib.hid hW0
  have TA := Lib.hid hTa
  clear ht hc hT hb0 hW0 hTa
  obtain ⟨s0, s1, s2, s3⟩ := hbx
  go_enter Tryd.func4, Tryd.ntmps4
  go_upto_region 1 with (fail)
  rw [show World.alloc w _ = W0 from HW0.out.symm]
  go_wp2_with fail
  refine HC8.out.mono ?_
  rintro e w1 ⟨u, Ai, Ao, ci, co, rfl, ⟨hut, huo⟩, _, hB1, _⟩
  clear s0 s1 s2 s3
  have zB1 := hB1.size
  obtain ⟨wx, hwx⟩ : ∃ wx, wx = w1.alloc (.cells #[.int .u32 u.ver, .slice Ai u.ins.length ci, .slice Ao u.outs.length co, .int .u32 u.lock] 26) := ⟨_, rfl⟩
  have hbx : Below w1.heap.size w1 wx := by rw [hwx]; exact (Below.refl _ _).alloc (Nat.le_refl _) _
  have zx : wx.heap.size = w1.heap.size + 1 := by rw [hwx]; simp
  have BX := Lib.hid (show Boxed wx w1.heap.size (.int .u32 u.ver) (.slice Ai u.ins.length ci) (.slice Ao u.outs.length co) (.int .u32 u.lock) from by rw [hwx]; exact Boxed.new _ _ _ _ _ _)
  have HX := Lib.hid (show TxAt wx 0 wx.heap.size (.slice Ai u.ins.length ci) (.slice Ao u.outs.length co) u from (hut.keep (Kept.of_below hbx (Nat.le_refl _))).wide (Nat.le_refl _) (by omega))
  have HO := Lib.hid huo
  have HWX := Lib.hid hwx
  have KX := Lib.hid (below_next (below_next HB0.out (by omega) hB1) (by omega) hbx)
  have TX := Lib.hid (TA.out.below KX.out)
  clear hut huo hbx hwx hB1
  have hbl : w1.heap.size < wx.heap.size := by omega
  have G := fun (W : World) (hW : Below wx.heap.size wx W) => (HX.out.keep (Kept.of_below hW (Nat.le_refl _))).wide (Nat.le_refl _) hW.size
  have C13 := Lib.hid (rcheck_any u (.slice Ai u.ins.length ci) (.slice Ao u.outs.length co) wx 0 wx.heap.size HX.out (Nat.le_refl _) HO.out)
  have C19 := Lib.hid (fun (i : Int) (W : World) (hW : Below wx.heap.size wx W) => pays_any u i _ _ W (G W hW) HO.out (TX.out.below hW))
  have C14 := Lib.hid (fun (hz : checkD u = 0) (W : World) (hW : Below wx.heap.size wx W) => rid_any u _ _ W (G W hW) HO.out (check_vals hz))
  have hol := HO.out.2.1
  obtain ⟨n, hn⟩ : ∃ n, u.outs.length = n := ⟨_, rfl⟩
  obtain ⟨m, hm⟩ : ∃ m, u.ins.length = m := ⟨_, rfl⟩
  have EY0 : ∀ i, (¬ checkD u = 0 → pyE u i = checkD u ∧ pyS u i = ⟨#[]⟩ ∧ pyI u i = 0) ∧ (checkD u = 0 → (i < 0 ∨ (n : Int) ≤ i) → pyE u i = 2 ∧ pyS u i = ⟨#[]⟩ ∧ pyI u i = 0) ∧ (checkD u = 0 → ¬ (i < 0 ∨ (n : Int) ≤ i) → pyE u i = 0 ∧ pyS u i = dd (wireS u false) ∧ pyI u i = i) := by
    intro i
    subst hn
    refine ⟨fun h => ?_, fun h h2 => ?_, fun h h2 => ?_⟩
    · have e : pyE u i = checkD u := if_neg h
      exact ⟨e, if_neg (by rw [e]; exact h), if_neg (by rw [e]; exact h)⟩
    · have e : pyE u i = 2 := by unfold pyE; rw [if_pos h, if_pos h2]
      exact ⟨e, if_neg (by rw [e]; decide), if_neg (by rw [e]; decide)⟩
    · have e : pyE u i = 0 := by unfold pyE; rw [if_pos h, if_neg h2]
      exact ⟨e, if_pos e, if_pos e⟩
  obtain ⟨cd, hcd⟩ : ∃ cd, checkD u = cd := ⟨_, rfl⟩
  obtain ⟨ia, hia⟩ : ∃ ia, dd (wireS u false) = ia := ⟨_, rfl⟩
  rw [hcd] at EY0 C13 C14
  rw [hia] at EY0 C14
  have EY := Lib.hid EY0
  rw [hn, hm] at BX HWX C13 C14 C19 ⊢
  rw [hn] at hol
  clear EY0 hcd hia hn hm G HX
  go_upto_region 2 with (fail)
  rw [show World.alloc w1 _ = wx from HWX.out.symm]
  obtain ⟨b0, b1, b2, b3⟩ := BX.out
  go_wp2_with fail
  refine C13.out.mono ?_
  rintro e w3 ⟨rfl, hb3⟩
  have L3 := Lib.hid hb3
  have z3 := hb3.size
  clear b0 b1 b2 b3 hb3
  obtain ⟨jx, hjx⟩ : ∃ jx, (max 0 ix) % 10 = jx := ⟨_, rfl⟩
  have u1 : (max 0 ix).tmod 10 = jx := by rw [← hjx]; exact Int.tmod_eq_emod_of_nonneg (by omega)
  have u2 : IntKind.i64.wrap jx = jx := by rw [IntWalk.i64_in _ (by omega)]
  have u3 : 0 ≤ jx ∧ jx < 10 := by omega
  obtain ⟨w4, hw4⟩ : ∃ w4, w4 = w3.alloc (.cells #[.int .i64 ix, .int .i64 jx] 3) := ⟨_, rfl⟩
  have hb4 : Below w3.heap.size w3 w4 := by rw [hw4]; exact (Below.refl _ _).alloc (Nat.le_refl _) _
  have z4 : w4.heap.size = w3.heap.size + 1 := by rw [hw4]; simp
  have P4 := Lib.hid (show ∀ k : Nat, k < 2 → w4.cell? ⟨w3.heap.size, k, none⟩ = some (.int .i64 (pick2 ix jx k)) from by
    intro k hk
    rw [hw4]
    match k, hk with
    | 0, _ => simp [pick2]
    | 1, _ => simp [pick2])
  have L4 := Lib.hid (below_next L3.out L3.out.size hb4)
  have HW4 := Lib.hid hw4
  have hlt3 : w3.heap.size < w4.heap.size := by omega
  clear hb4 hw4
  go_upto_region 4 with (fail)
  rw [show World.alloc w3 _ = w4 from HW4.out.symm]
  clear HW4 HWX HW0 HC8 C13
  go_loopg [22] 2 (fun gg s wr => ∃ k : Nat, k ≤ 2 ∧ 2 - k ≤ gg ∧ s = .int .i64 k ∧ Hid (Below w4.heap.size w4 wr))
  case atStart => exact ⟨0, Nat.zero_le _, by omega, rfl, Lib.hid (Below.refl _ _)⟩
  case round =>
    obtain ⟨k, hk, hg, rfl, HS⟩ := hrel
    by_cases hlt : k < 2
    · have k1 : (k : Int) < 2 := by omega
      have k2 : decide ((k : Int) < 2) = true := decide_eq_true k1
      obtain ⟨wo, hwo⟩ : ∃ wo, wo = wr := ⟨_, rfl⟩
      subst hwo
      have c0 : wo.cell? ⟨w3.heap.size, k, none⟩ = some (.int .i64 (pick2 ix jx k)) := (World.cell?_of_block (w := w4) (a := ⟨w3.heap.size, k, none⟩) (HS.out.block _ hlt3)).trans (P4.out k hlt)
      obtain ⟨i, hi⟩ : ∃ i, pick2 ix jx k = i := ⟨_, rfl⟩
      have hib : -9223372036854775808 ≤ i ∧ i ≤ 9223372036854775807 := by rw [← hi]; unfold pick2; split <;> omega
      rw [hi] at c0
      clear hi
      have LO := Lib.hid (below_next L4.out (by omega) HS.out)
      have D19 := Lib.hid (C19.out i wo LO.out)
      have EI := EY.out i
      obtain ⟨pe, hpe⟩ : ∃ x, pyE u i = x := ⟨_, rfl⟩
      obtain ⟨ps, hps⟩ : ∃ x, pyS u i = x := ⟨_, rfl⟩
      obtain ⟨pi, hpi⟩ : ∃ x, pyI u i = x := ⟨_, rfl⟩
      rw [hpe, hps, hpi] at EI D19
      have EI' := Lib.hid EI
      clear EI hpe hps hpi
      obtain ⟨b0, b1, b2, b3⟩ := BX.out.below hbl LO.out
      have hgz : w3.heap.size < wo.heap.size := by have := HS.out.size; omega
      go_wp2_with fail
      refine D19.out.mono ?_
      rintro e w5 ⟨rfl, hb5⟩
      clear b0 b1 b2 b3 c0
      have z5 := hb5.size
      obtain ⟨w6, hw6⟩ : ∃ w6, w6 = w5.alloc (.cells #[.string ps, .int .u32 pi] 41) := ⟨_, rfl⟩
      have hb6 : Below w5.heap.size w5 w6 := by rw [hw6]; exact (Below.refl _ _).alloc (Nat.le_refl _) _
      have z6 : w6.heap.size = w5.heap.size + 1 := by rw [hw6]; simp
      have q0 : w6.cell? ⟨w5.heap.size, 0, none⟩ = some (.string ps) := by rw [hw6]; simp
      have q1 : w6.cell? ⟨w5.heap.size, 1, none⟩ = some (.int .u32 pi) := by rw [hw6]; simp
      have L6 := Lib.hid (below_next (below_next LO.out LO.out.size hb5) (by have := LO.out.size; omega) hb6)
      have HS6 := Lib.hid (below_next (below_next HS.out HS.out.size hb5) (by have := HS.out.size; omega) hb6)
      have HW6 := Lib.hid hw6
      clear hw6 hb5 hb6
      go_upto_region 7 with (fail)
      rw [show World.alloc w5 _ = w6 from HW6.out.symm]
      have BX6 := Lib.hid (BX.out.below hbl L6.out)
      by_cases hz : cd = 0
      · subst hz
        by_cases hi : i < 0 ∨ (n : Int) ≤ i
        · obtain ⟨rfl, rfl, rfl⟩ := EI'.out.2.1 rfl hi
          obtain ⟨b0, b1, b2, b3⟩ := BX6.out
          by_cases h0 : i < 0
          · go_upto_region 10 with (fail)
            go_quiet (fail)
            go_wp2_with fail
            go_roundg (2 - (k + 1))
            case measure => omega
            case rel => exact ⟨k + 1, by omega, by omega, by go_num, Lib.hid (below_drewN HS6.out _)⟩
          · have h1 : (n : Int) ≤ i := by omega
            go_upto_region 10 with (fail)
            go_quiet (fail)
            go_wp2_with fail
            go_roundg (2 - (k + 1))
            case measure => omega
            case rel => exact ⟨k + 1, by omega, by omega, by go_num, Lib.hid (below_drewN HS6.out _)⟩
        · obtain ⟨rfl, rfl, rfl⟩ := EI'.out.2.2 rfl hi
          have h0 : ¬ pi < 0 := by omega
          have h1 : ¬ (n : Int) ≤ pi := by omega
          have v1 : IntKind.i64.wrap pi = pi := by rw [IntWalk.i64_in _ (by omega)]
          have e4 : (ps.toList != ps.toList) = false := by simp
          have e5 : (pi != pi) = false := by simp
          have D14 := Lib.hid (C14.out rfl)
          have hl5 : w5.heap.size < w6.heap.size := by omega
          have hl1 : w1.heap.size < w6.heap.size := by have := L6.out.size; omega
          have bx := BX6.out
          have r0 : ∀ x : After w6, x.val.cell? ⟨w1.heap.size, 0, none⟩ = some (.int .u32 u.ver) := fun x => (x.ok.cell (p := ⟨w1.heap.size, 0, none⟩) hl1).trans bx.1
          have r1 : ∀ x : After w6, x.val.cell? ⟨w1.heap.size, 1, none⟩ = some (.slice Ai m ci) := fun x => (x.ok.cell (p := ⟨w1.heap.size, 1, none⟩) hl1).trans bx.2.1
          have r2 : ∀ x : After w6, x.val.cell? ⟨w1.heap.size, 2, none⟩ = some (.slice Ao n co) := fun x => (x.ok.cell (p := ⟨w1.heap.size, 2, none⟩) hl1).trans bx.2.2.1
          have r3 : ∀ x : After w6, x.val.cell? ⟨w1.heap.size, 3, none⟩ = some (.int .u32 u.lock) := fun x => (x.ok.cell (p := ⟨w1.heap.size, 3, none⟩) hl1).trans bx.2.2.2
          have r4 : ∀ x : After w6, x.val.cell? ⟨w5.heap.size, 0, none⟩ = some (.string ps) := fun x => (x.ok.cell (p := ⟨w5.heap.size, 0, none⟩) hl5).trans q0
          have r5 : ∀ x : After w6, x.val.cell? ⟨w5.heap.size, 1, none⟩ = some (.int .u32 pi) := fun x => (x.ok.cell (p := ⟨w5.heap.size, 1, none⟩) hl5).trans q1
          have hne : Nonempty (After w6) := ⟨⟨w6, Below.refl _ _⟩⟩
          have E14 := Lib.hid (fun x : After w6 => D14.out x.val (below_next L6.out L6.out.size x.ok))
          obtain ⟨b0, b1, b2, b3⟩ := bx
          go_upto_region 10 with (fail)
          clear b0 b1 b2 b3 q0 q1
          refine wp_region_after (by kernel_rfl) (by kernel_rfl) ?_
          repeat (go_big_quiet_step ((first | (go_at_call 14; exact After.call _ (E14.out _)))))
          refine wpQuiet_nil ?_
          rintro _ ⟨x, rfl⟩
          have hx := x.ok
          go_wp2_with fail
          go_roundg (2 - (k + 1))
          case measure => omega
          case rel => exact ⟨k + 1, by omega, by omega, by go_num, Lib.hid (below_next HS6.out HS6.out.size hx)⟩
      · obtain ⟨rfl, rfl, rfl⟩ := EI'.out.1 hz
        have e2 : (pe != 0) = true := by simpa using hz
        have e3 : (pe == 0) = false := by simpa using hz
        have e1 : (pe != pe) = false := by simp
        clear hz
        obtain ⟨b0, b1, b2, b3⟩ := BX6.out
        go_upto_region 10 with (fail)
        go_quiet (fail)
        go_wp2_with fail
        go_roundg (2 - (k + 1))
        case measure => omega
        case rel => exact ⟨k + 1, by omega, by omega, by go_num, Lib.hid (below_drewN HS6.out _)⟩
    · have k1 : ¬ (k : Int) < 2 := by omega
      have K := Lib.hid (below_next KX.out KX.out.size (below_next L4.out (by omega) HS.out))
      have TX := Lib.hid (TA.out.below K.out)
      go_wp2_with fail
      refine (wakes_any _ TX.out).mono ?_
      rintro e w5 ⟨rfl, hb5⟩
      go_wp2_with fail
      go_ret
      exact ⟨rfl, below_next K.out K.out.size hb5⟩

end Go.Proofs.YtfobdefncbaooaaDoor
