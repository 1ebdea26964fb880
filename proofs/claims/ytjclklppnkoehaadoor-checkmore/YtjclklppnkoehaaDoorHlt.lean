/-
  The coins that a statement holds, the document's list being one that may be written.
-/
import Derived.Test.YtjclklppnkoehaaDoorHld
namespace Go.Proofs.YtjclklppnkoehaaDoor
open Go.RowKit

/-- The row of a slice may be written. -/
def Thw (w : World) (v : Value) : Prop := ∀ (a : Addr) (n c : Nat), v = .slice (some a) n c → 0 < n → ∃ cur t, w.heap[a.block]? = some (.cells cur t (0, 0))
theorem Thw.nil (w : World) : Thw w (.slice none 0 0) := fun a n c h => by injection h with h; cases h
theorem Thw.kept {w w' : World} {v : Value} {lo hi : Nat} {xs : List Co.EnD} (h : Thw w v) (he : Co.Ents w lo hi v xs) (hk : Kept lo hi w w') : Thw w' v := by
  intro a n c hv hn
  obtain ⟨A, c', rfl, _, he⟩ := he
  injection hv with e1 e2 e3
  rcases he with rfl | ⟨b, off, rfl, h1, h2, _⟩
  · simp at e2; omega
  · injection e1 with e1
    obtain ⟨cur, t, hh⟩ := h a n c (by rw [← e1, ← e2, ← e3]) hn
    rw [← e1] at hh ⊢
    exact ⟨cur, t, (hk _ h1 h2).trans hh⟩
theorem Thw.below {w w' : World} {v : Value} (h : Thw w v) (hb : Below w.heap.size w w') : Thw w' v := fun a n c hv hn => by
  obtain ⟨cur, t, hh⟩ := h a n c hv hn
  exact ⟨cur, t, (hb.block _ (Co.lt_of_heap hh)).trans hh⟩
theorem Thw.own {w : World} {base : Nat} {e : TypeId} {size n : Nat} {v : Value} {xs : List Value} (h : w.ownsRow base e size v n xs) : Thw w v := fun a m c hv hm => by
  rcases h.2 with ⟨rfl, _⟩ | ⟨g', cap, cur, rfl, _, hh, _⟩
  · injection hv with h1; cases h1
  · injection hv with h1
    injection h1 with h1
    rw [← h1]
    exact ⟨cur, e, hh⟩
end Go.Proofs.YtjclklppnkoehaaDoor

namespace Go.Proofs.YtjclklppnkoehaaDoor.Co
open Go.RowKit
set_option maxRecDepth 100000

def RputEndT (A : Option Addr) (n c : Nat) (xs : List EnD) (x : EnD) (lo : Nat) (w : World) (e : Ending) (w' : World) : Prop :=
  ∃ v', e = .returned (.tuple #[v', .int .i64 (putE xs x)]) ∧ Ents w' lo w'.heap.size v' (putL xs x) ∧ Below w.heap.size w w' ∧ (Thw w (.slice A n c) → Thw w' v')
theorem tsame {w w' : World} {v : Value} (h : Below w.heap.size w w') : Below w.heap.size w w' ∧ (Thw w v → Thw w' v) := ⟨h, fun k => k.below h⟩
theorem town {w w' : World} {v v' : Value} {base : Nat} {e : TypeId} {size n : Nat} {xs : List Value} (h : Below w.heap.size w w') (ho : w'.ownsRow base e size v' n xs) : Below w.heap.size w w' ∧ (Thw w v → Thw w' v') := ⟨h, fun _ => Thw.own ho⟩

set_option maxHeartbeats 4000000 in
theorem rput_thw (A : Option Addr) (n c : Nat) (xs : List EnD) (x : EnD) (w : World) (lo hi : Nat) (hx : Ents w lo hi (.slice A n c) xs) (hhi : hi ≤ w.heap.size) (hlo : lo ≤ w.heap.size) (hg : Good xs) (hl : xs.length ≤ 900) :
    Calls Tryd.prog 27 #[.slice A n c, .agg #[.string x.id, .int .u32 x.ix], .agg #[.int .i64 x.val, .string x.scr, .int .i64 x.ht]] w (RputEndT A xs.length c xs x lo w) := by
  obtain rfl : n = xs.length := by obtain ⟨_, _, hv, _⟩ := hx; injection hv
  obtain ⟨w1, hw1⟩ : ∃ w1, w1 = w.alloc (.cells #[.string x.id, .int .u32 x.ix] 43) := ⟨_, rfl⟩
  have hz1 : w1.heap.size = w.heap.size + 1 := by rw [hw1]; simp
  have hb1 : Below w.heap.size w w1 := by rw [hw1]; exact (Below.refl _ _).alloc (Nat.le_refl _) _
  obtain ⟨W, hW⟩ : ∃ W, W = w1.alloc (.cells #[.int .i64 x.val, .string x.scr, .int .i64 x.ht] 50) := ⟨_, rfl⟩
  have hz : W.heap.size = w.heap.size + 2 := by rw [hW]; simp [hz1]
  have hBW : Below w.heap.size w W := by rw [hW]; exact hb1.alloc (by omega) _
  have h28 : W.heap[w.heap.size]? = some (.cells #[.string x.id, .int .u32 x.ix] 43) := by rw [hW, Below.heap_alloc _ _ _ (by omega), hw1]; exact heap_alloc_new _ _
  have h35 : W.heap[w.heap.size + 1]? = some (.cells #[.int .i64 x.val, .string x.scr, .int .i64 x.ht] 50) := by rw [hW, ← hz1]; exact heap_alloc_new _ _
  have p0 : W.cell? ⟨w.heap.size, 0, none⟩ = some (.string x.id) := cell_in (o := 0) h28 rfl
  have p1 : W.cell? ⟨w.heap.size, 1, none⟩ = some (.int .u32 x.ix) := cell_in (o := 1) h28 rfl
  have v0 : W.cell? ⟨w.heap.size + 1, 0, none⟩ = some (.int .i64 x.val) := cell_in (o := 0) h35 rfl
  have v2 : W.cell? ⟨w.heap.size + 1, 2, none⟩ = some (.int .i64 x.ht) := cell_in (o := 2) h35 rfl
  have hxW := hx.keep (Kept.of_below hBW hhi)
  have CF := Lib.hid (rfind_any A xs.length c xs x.id x.ix W lo hi hxW (by omega) (by omega))
  have CT := Lib.hid (fun V (hV : Ents V lo hi (.slice A xs.length c) xs) => rtotal_any A xs.length c xs V lo hi hV hg.pos hg.most (by omega))
  have CG := Lib.hid (fun k V => rgood_any k V)
  have HX := Lib.hid hxW
  have HG := Lib.hid hg
  have HB := Lib.hid hBW
  have H28 := Lib.hid h28
  have H35 := Lib.hid h35
  have HW := Lib.hid (show W = (w.alloc (.cells #[.string x.id, .int .u32 x.ix] 43)).alloc (.cells #[.int .i64 x.val, .string x.scr, .int .i64 x.ht] 50) from by rw [hW, hw1])
  obtain ⟨i45, hi45, y0, y1, y2⟩ := info_parts' info45
  obtain ⟨pid, pix, v, s, t⟩ := x
  simp only at CF HW p0 p1 v0 v2 H28 H35 ⊢
  have EA : Hid (argB ⟨pid, pix, v, s, t⟩ = (decide (pid.size = 32) && (decide (0 ≤ t) && decide (t ≤ 1000000) && goodB v))) := Lib.hid rfl
  have END := Lib.hid (show ∀ W', Below W.heap.size W W' → argB ⟨pid, pix, v, s, t⟩ = false → RputEndT A xs.length c xs ⟨pid, pix, v, s, t⟩ lo w (.returned (.tuple #[.slice A xs.length c, .int .i64 2])) W' from fun W' hb ha => by
    obtain ⟨e1, e2⟩ := put_arg (l := xs) ha
    have := hb.size
    exact ⟨_, by rw [e1], by rw [e2]; exact (HX.out.keep (Kept.of_below hb (by omega))).wide (Nat.le_refl _) (by omega), tsame (HB.out.trans (hb.mono (by omega)))⟩)
  obtain ⟨g, hgg⟩ : ∃ g, g = goodB v := ⟨_, rfl⟩
  have CG1 := Lib.hid (CG.out v W)
  rw [← hgg] at CG1
  have HGG := Lib.hid hgg
  clear hx hg hb1 hw1 hBW hW h28 h35 hxW hgg
  go_enter Tryd.func27, Tryd.ntmps27
  go_upto_region 1 with (fail)
  rw [show World.alloc (World.alloc w _) _ = W from HW.out.symm]
  go_wp2_with fail
  refine CG1.out.mono ?_
  rintro e w2 ⟨rfl, rfl⟩
  go_upto_region 2 with (fail)
  by_cases hs : pid.size = 32
  case neg =>
    have hsz : ((pid.size : Int) != 32) = true := by rw [bne_iff_ne]; omega
    have HA := Lib.hid (show argB ⟨pid, pix, v, s, t⟩ = false from by rw [EA.out]; simp [hs])
    clear hs
    go_wp2_with fail
    go_ret2
    exact END.out _ (Below.refl _ _) HA.out
  have hsz : ((pid.size : Int) != 32) = false := by rw [hs]; rfl
  have HSZ := Lib.hid hs
  clear hs
  by_cases ht0 : t < 0
  · have HA := Lib.hid (show argB ⟨pid, pix, v, s, t⟩ = false from by rw [EA.out]; simp; omega)
    go_wp2_with fail
    go_ret2
    exact END.out _ (Below.refl _ _) HA.out
  by_cases ht1 : 1000000 < t
  · have HA := Lib.hid (show argB ⟨pid, pix, v, s, t⟩ = false from by rw [EA.out]; simp; omega)
    go_wp2_with fail
    go_ret2
    exact END.out _ (Below.refl _ _) HA.out
  cases g with
  | false =>
    have HA := Lib.hid (show argB ⟨pid, pix, v, s, t⟩ = false from by rw [EA.out, ← HGG.out]; simp)
    go_wp2_with fail
    go_ret2
    exact END.out _ (Below.refl _ _) HA.out
  | true =>
    have HA := Lib.hid (show argB ⟨pid, pix, v, s, t⟩ = true from by rw [EA.out, ← HGG.out, HSZ.out]; simp; omega)
    clear END EA
    cases hh : hasB xs pid pix with
    | true =>
      obtain ⟨k, hk1, _, _⟩ := idx_some HG.out.srt hh
      rw [hk1] at CF
      have hk0 : (0 : Int) ≤ (k : Int) := Int.natCast_nonneg k
      have HH := Lib.hid hh
      clear hh hk1
      go_wp2_with fail
      refine CF.out.mono ?_
      rintro e w3 ⟨rfl, hb3⟩
      have HB3 := Lib.hid hb3
      clear hb3
      go_wp2_with fail
      go_ret2
      obtain ⟨e1, e2⟩ := put_twice HA.out HH.out
      have s3 := HB3.out.size
      exact ⟨_, by rw [e1]; rfl, by rw [e2]; exact (HX.out.keep (Kept.of_below HB3.out (by omega))).wide (Nat.le_refl _) (by omega), tsame (HB.out.trans (HB3.out.mono (by omega)))⟩
    | false =>
      rw [idx_none hh] at CF
      have HH := Lib.hid hh
      clear hh
      go_wp2_with fail
      refine CF.out.mono ?_
      rintro e w3 ⟨rfl, hb3⟩
      have HB3 := Lib.hid hb3
      have s3 := hb3.size
      have HX3 := Lib.hid (HX.out.keep (Kept.of_below hb3 (by omega)))
      have h28 := (hb3.block w.heap.size (by omega)).trans H28.out
      have h35 := (hb3.block (w.heap.size + 1) (by omega)).trans H35.out
      have q0 : w3.cell? ⟨w.heap.size, 0, none⟩ = some (.string pid) := cell_in (o := 0) h28 rfl
      have q1 : w3.cell? ⟨w.heap.size, 1, none⟩ = some (.int .u32 pix) := cell_in (o := 1) h28 rfl
      have u0 : w3.cell? ⟨w.heap.size + 1, 0, none⟩ = some (.int .i64 v) := cell_in (o := 0) h35 rfl
      have u1 : w3.cell? ⟨w.heap.size + 1, 1, none⟩ = some (.string s) := cell_in (o := 1) h35 rfl
      have u2 : w3.cell? ⟨w.heap.size + 1, 2, none⟩ = some (.int .i64 t) := cell_in (o := 2) h35 rfl
      have CT3 := Lib.hid (CT.out w3 HX3.out)
      obtain ⟨tl, htl⟩ : ∃ tl, tl = tot xs := ⟨_, rfl⟩
      rw [← htl] at CT3
      have hv := goodB_iff.1 HGG.out.symm
      have hm1 := HG.out.most
      have hm0 := HG.out.zero
      have hwr : IntKind.i64.wrap (tl + v) = tl + v := IntWalk.i64_in _ (by omega)
      have HTL := Lib.hid htl
      have CG3 := Lib.hid (CG.out (tl + v) w3)
      clear hb3 p0 p1 v0 v2 htl hv hm1 hm0 h28 h35
      cases hgo : goodB (tl + v) with
      | false =>
        rw [hgo] at CG3
        have HGO := Lib.hid hgo
        clear hgo
        go_wp2_with fail
        refine CT3.out.mono ?_
        rintro e w4 ⟨rfl, hw⟩
        subst w4
        go_wp2_with fail
        refine CG3.out.mono ?_
        rintro e w4 ⟨rfl, hw⟩
        subst w4
        go_wp2_with fail
        go_ret2
        obtain ⟨e1, e2⟩ := put_range (l := xs) HA.out HH.out (by rw [← HTL.out]; exact HGO.out)
        exact ⟨_, by rw [e1]; rfl, by rw [e2]; exact HX3.out.wide (Nat.le_refl _) (by omega), tsame (HB.out.trans (HB3.out.mono (by omega)))⟩
      | true =>
        rw [hgo] at CG3
        have HGO := Lib.hid hgo
        clear hgo
        go_wp2_with fail
        refine CT3.out.mono ?_
        rintro e w4 ⟨rfl, hw⟩
        subst w4
        go_wp2_with fail
        refine CG3.out.mono ?_
        rintro e w4 ⟨rfl, hw⟩
        subst w4
        go_wp2_with fail
        go_loopg [11, 12, 13, 14] xs.length (fun gg v' s12 s13 _ wr => ∃ (kk : Nat) (ys : List EnD) (dn : Bool), kk ≤ xs.length ∧ xs.length - kk ≤ gg ∧ s13 = .int .i64 kk ∧ s12 = .bool dn ∧ ys.length ≤ kk + dn.toNat ∧ Hid (insF ⟨pid, pix, v, s, t⟩ (xs.take kk) = (ys, dn)) ∧ w3.heap.size ≤ wr.heap.size ∧ Hid (Row w3 v' ys wr))
        case atStart => exact ⟨0, [], false, Nat.zero_le _, by omega, rfl, rfl, by simp, Lib.hid (by simp [insF]), Nat.le_refl _, Row.nil w3⟩
        case round =>
          obtain ⟨kk, zs, dn, hkk, hgg, rfl, rfl, hzl, HZ, hzr, HR⟩ := hrel
          obtain ⟨B, d, hv⟩ := own_form HR.out.own
          subst hv
          have hdn := Bool.toNat_le dn
          have hnw : w.heap.size < w3.heap.size := by omega
          have hnw1 : w.heap.size + 1 < w3.heap.size := by omega
          have Q0 := (HR.out.bel.cell (p := ⟨w.heap.size, 0, none⟩) hnw).trans q0
          have Q1 := (HR.out.bel.cell (p := ⟨w.heap.size, 1, none⟩) hnw).trans q1
          have U0 := (HR.out.bel.cell (p := ⟨w.heap.size + 1, 0, none⟩) hnw1).trans u0
          have U1 := (HR.out.bel.cell (p := ⟨w.heap.size + 1, 1, none⟩) hnw1).trans u1
          have U2 := (HR.out.bel.cell (p := ⟨w.heap.size + 1, 2, none⟩) hnw1).trans u2
          clear q0 q1 u0 u1 u2
          by_cases hlt : kk < xs.length
          · have hltz : (kk : Int) < (xs.length : Int) := by omega
            have hd : decide (kk < xs.length) = true := decide_eq_true hlt
            obtain ⟨y, hxk⟩ : ∃ y, xs[kk]? = some y := ⟨_, List.getElem?_eq_getElem hlt⟩
            have HS := Lib.hid (insF_step (x := ⟨pid, pix, v, s, t⟩) hxk)
            obtain ⟨b, off, rfl, h1, h2, a0, a1, a2, a3, a4⟩ := HX3.out.at hxk
            have hb3w : b < w3.heap.size := by omega
            have HA3 := Lib.hid (And.intro a0 (And.intro a1 (And.intro a2 (And.intro a3 a4))))
            have c0 := (HR.out.bel.cell (p := ⟨b, off + kk * 5, none⟩) hb3w).trans a0
            have c1 := (HR.out.bel.cell (p := ⟨b, off + kk * 5 + 1, none⟩) hb3w).trans a1
            have c2 := (HR.out.bel.cell (p := ⟨b, off + kk * 5 + 2, none⟩) hb3w).trans a2
            have c3 := (HR.out.bel.cell (p := ⟨b, off + kk * 5 + 3, none⟩) hb3w).trans a3
            have c4 := (HR.out.bel.cell (p := ⟨b, off + kk * 5 + 4, none⟩) hb3w).trans a4
            clear a0 a1 a2 a3 a4
            have hbw : b < wr.heap.size := by omega
            have hpw : w.heap.size < wr.heap.size := by omega
            have hqw : w.heap.size + 1 < wr.heap.size := by omega
            have HC := Lib.hid (And.intro c0 (And.intro c1 (And.intro c2 (And.intro c3 c4))))
            have HU := Lib.hid (And.intro Q0 (And.intro Q1 (And.intro U0 (And.intro U1 U2))))
            have r0 : ∀ z : After wr, z.val.cell? ⟨w.heap.size, 0, none⟩ = some (.string pid) := fun z => (z.ok.cell (p := ⟨w.heap.size, 0, none⟩) hpw).trans Q0
            have r1 : ∀ z : After wr, z.val.cell? ⟨w.heap.size, 1, none⟩ = some (.int .u32 pix) := fun z => (z.ok.cell (p := ⟨w.heap.size, 1, none⟩) hpw).trans Q1
            have r2 : ∀ z : After wr, z.val.cell? ⟨b, off + kk * 5, none⟩ = some (.string y.id) := fun z => (z.ok.cell (p := ⟨b, off + kk * 5, none⟩) hbw).trans c0
            have r3 : ∀ z : After wr, z.val.cell? ⟨b, off + kk * 5 + 1, none⟩ = some (.int .u32 y.ix) := fun z => (z.ok.cell (p := ⟨b, off + kk * 5 + 1, none⟩) hbw).trans c1
            have hne : Nonempty (After wr) := ⟨⟨wr, Below.refl _ _⟩⟩
            have CS := Lib.hid (fun z : After wr => rless_any pid pix y.id y.ix z.val)
            obtain ⟨r, hr⟩ : ∃ r, r = lessB pid pix y.id y.ix := ⟨_, rfl⟩
            have HRR := Lib.hid hr
            rw [← hr] at CS
            obtain ⟨m, hm⟩ : ∃ m, m = zs.length := ⟨_, rfl⟩
            have HM := Lib.hid hm
            have HRW := Lib.hid (fun W' (hW' : Below wr.heap.size wr W') => HR.out.below hW')
            rw [← hm] at HRW ⊢
            have hml : m ≤ 1000 := by omega
            clear hxk hr hm c0 c1 c2 c3 c4 Q0 Q1 U0 U1 U2
            go_wp2_with fail
            refine wp_region_after (by kernel_rfl) (by kernel_rfl) ?_
            repeat (go_big_quiet_step ((go_at_call 55; exact After.call _ (CS.out _))))
            refine wpQuiet_nil ?_
            rintro _ ⟨z, rfl⟩
            have HY := Lib.hid z.ok
            have ys0 := (z.ok.cell (p := ⟨b, off + kk * 5, none⟩) hbw).trans HC.out.1
            have ys1 := (z.ok.cell (p := ⟨b, off + kk * 5 + 1, none⟩) hbw).trans HC.out.2.1
            have ys2 := (z.ok.cell (p := ⟨b, off + kk * 5 + 2, none⟩) hbw).trans HC.out.2.2.1
            have ys3 := (z.ok.cell (p := ⟨b, off + kk * 5 + 3, none⟩) hbw).trans HC.out.2.2.2.1
            have ys4 := (z.ok.cell (p := ⟨b, off + kk * 5 + 4, none⟩) hbw).trans HC.out.2.2.2.2
            have xs0 := (z.ok.cell (p := ⟨w.heap.size, 0, none⟩) hpw).trans HU.out.1
            have xs1 := (z.ok.cell (p := ⟨w.heap.size, 1, none⟩) hpw).trans HU.out.2.1
            have xs2 := (z.ok.cell (p := ⟨w.heap.size + 1, 0, none⟩) hqw).trans HU.out.2.2.1
            have xs3 := (z.ok.cell (p := ⟨w.heap.size + 1, 1, none⟩) hqw).trans HU.out.2.2.2.1
            have xs4 := (z.ok.cell (p := ⟨w.heap.size + 1, 2, none⟩) hqw).trans HU.out.2.2.2.2
            have HRZ := Lib.hid (HRW.out z.val z.ok)
            generalize z.val = wz at HY HRZ ys0 ys1 ys2 ys3 ys4 xs0 xs1 xs2 xs3 xs4
            clear r0 r1 r2 r3 CS
            have HOW := Lib.hid HRZ.out.own
            rw [← HM.out] at HOW
            have hbytes : (m + 1) * 56 ≤ 140737488355328 := by omega
            have hmax : m + 1 ≤ maxLen := by unfold maxLen; omega
            have hzz := HY.out.size
            have hm2 : m + 1 + 1 ≤ 1002 := Nat.add_le_add_right (Nat.add_le_add_right hml 1) 1
            have hbytes2 : (m + 1 + 1) * 56 ≤ 140737488355328 := Nat.le_trans (Nat.mul_le_mul_right 56 hm2) (by decide)
            have hmax2 : m + 1 + 1 ≤ maxLen := Nat.le_trans hm2 (by unfold maxLen; decide)
            clear hm2
            have hz0 : dn = false → zs.length ≤ kk := fun h => by rw [h] at hzl; exact hzl
            have hz1 : zs.length + 1 ≤ kk + 1 + dn.toNat := by omega
            clear hzl hdn
            by_cases hrd : r = true ∧ dn = false
            · obtain ⟨rfl, rfl⟩ := hrd
              have HIN : Hid (insS ⟨pid, pix, v, s, t⟩ (zs, false) y = (zs ++ [⟨pid, pix, v, s, t⟩] ++ [y], true)) := Lib.hid (by
                unfold insS
                rw [if_pos]
                rw [show lt ⟨pid, pix, v, s, t⟩ y = true from HRR.out.symm]
                rfl)
              have hz0' := hz0 rfl
              go_upto_region 20 with (at_builtin; refine wpList_append_lies _ rfl _ _ 29 rfl w3.heap.size 77 i45 _ 5 56 Tryd.underlying29 hi45 y0 y1 y2 rfl (by decide) _ _ _ rfl (HOW.out.alloc _) ⟨wz.heap.size, 0, none⟩ 1 1 (encE ⟨pid, pix, v, s, t⟩) rfl rfl (five_new _ _ _ _ rfl) (encE_one _) (by decide) hmax hbytes (by simp; omega) _ rfl ?_; intro g1 cap1 w9 hown1 hgrow1 hat1 hlt1)
              have RR := Row.push' (x := ⟨pid, pix, v, s, t⟩) HM.out HRZ.out hgrow1 hown1
              have R1 := Lib.hid RR.1
              have HOW1 := Lib.hid RR.2
              clear RR hat1 hgrow1 hown1 ys0 ys1 ys2 ys3 ys4
              have ys0 := (R1.out.bel.cell (p := ⟨b, off + kk * 5, none⟩) hb3w).trans HA3.out.1
              have ys1 := (R1.out.bel.cell (p := ⟨b, off + kk * 5 + 1, none⟩) hb3w).trans HA3.out.2.1
              have ys2 := (R1.out.bel.cell (p := ⟨b, off + kk * 5 + 2, none⟩) hb3w).trans HA3.out.2.2.1
              have ys3 := (R1.out.bel.cell (p := ⟨b, off + kk * 5 + 3, none⟩) hb3w).trans HA3.out.2.2.2.1
              have ys4 := (R1.out.bel.cell (p := ⟨b, off + kk * 5 + 4, none⟩) hb3w).trans HA3.out.2.2.2.2
              have hz9 := R1.out.bel.size
              go_wp2_with (at_builtin; refine wpList_append_lies _ rfl _ _ 29 rfl w3.heap.size 77 i45 _ 5 56 Tryd.underlying29 hi45 y0 y1 y2 rfl (by decide) _ _ _ rfl (HOW1.out.alloc _) ⟨w9.heap.size, 0, none⟩ 1 1 (encE y) rfl rfl (five_new _ _ _ _ rfl) (encE_one _) (by decide) hmax2 hbytes2 (by simp; omega) _ rfl ?_; intro g2 cap2 w8 hown2 hgrow2 hat2 hlt2)
              go_roundg (xs.length - (kk + 1))
              case measure => omega
              case rel =>
                have hm := HM.out
                have RR := (Row.push' (x := y) (by simp [hm]) R1.out hgrow2 hown2).1
                have := RR.bel.size
                exact ⟨kk + 1, zs ++ [⟨pid, pix, v, s, t⟩] ++ [y], _, by omega, by omega, by go_num, rfl, by simp only [List.length_append, List.length_cons, List.length_nil]; exact Nat.add_le_add (Nat.add_le_add hz0' (Nat.le_refl 1)) (Nat.le_refl 1), Lib.hid (by rw [HS.out, HZ.out, HIN.out]), by omega, Lib.hid RR⟩
            · have HIN : Hid (insS ⟨pid, pix, v, s, t⟩ (zs, dn) y = (zs ++ [y], dn)) := Lib.hid (by
                unfold insS
                rw [if_neg]
                rw [show lt ⟨pid, pix, v, s, t⟩ y = r from HRR.out.symm]
                cases r <;> cases dn <;> simp_all)
              have hsplit : r = false ∨ (r = true ∧ dn = true) := by cases r <;> cases dn <;> simp_all
              clear hrd
              rcases hsplit with rfl | ⟨rfl, rfl⟩
              all_goals
                go_wp2_with (at_builtin; refine wpList_append_lies _ rfl _ _ 29 rfl w3.heap.size 77 i45 _ 5 56 Tryd.underlying29 hi45 y0 y1 y2 rfl (by decide) _ _ _ rfl (HOW.out.alloc _) ⟨wz.heap.size, 0, none⟩ 1 1 (encE y) rfl rfl (five_new _ _ _ _ rfl) (encE_one _) (by decide) hmax hbytes (by simp; omega) _ rfl ?_; intro g1 cap1 w9 hown1 hgrow1 hat1 hlt1)
                go_roundg (xs.length - (kk + 1))
                case measure => omega
                case rel =>
                  have hm := HM.out
                  subst hm
                  have RR := HRZ.out.push (x := y) hgrow1 hown1
                  have := RR.bel.size
                  exact ⟨kk + 1, zs ++ [y], _, by omega, by omega, by go_num, rfl, by simp only [List.length_append, List.length_cons, List.length_nil]; exact hz1, Lib.hid (by rw [HS.out, HZ.out, HIN.out]), by omega, Lib.hid RR⟩
          · have hltz : ¬ (kk : Int) < (xs.length : Int) := by omega
            have hd : decide (kk < xs.length) = false := decide_eq_false hlt
            obtain rfl : kk = xs.length := by omega
            rw [List.take_length] at HZ
            obtain ⟨e1, e2⟩ := put_yes (l := xs) HA.out HH.out (by rw [← HTL.out]; exact HGO.out)
            have HE := Lib.hid (And.intro e1 e2)
            have HI := Lib.hid (show insR ⟨pid, pix, v, s, t⟩ xs = if dn = true then zs else zs ++ [⟨pid, pix, v, s, t⟩] from by rw [← insD_eq]; unfold insD; rw [HZ.out])
            have HOW := Lib.hid HR.out.own
            have HRX := Lib.hid HR.out
            obtain ⟨m, hm⟩ : ∃ m, m = zs.length := ⟨_, rfl⟩
            rw [← hm] at HOW HRX ⊢
            have hml : m ≤ 1000 := by omega
            have HM := Lib.hid hm
            have hbytes : (m + 1) * 56 ≤ 140737488355328 := by omega
            have hmax : m + 1 ≤ maxLen := by unfold maxLen; omega
            clear hm e1 e2
            cases dn with
            | true =>
              go_wp2_with fail
              go_ret2
              refine ⟨.slice B m d, by rw [HE.out.1]; rfl, ?_, town (HB.out.trans ((HB3.out.trans (HR.out.bel.mono (by omega))).mono (by omega))) HRX.out.own⟩
              rw [HE.out.2, HI.out, if_pos trivial]
              exact HRX.out.ents.wide (by omega) (Nat.le_refl _)
            | false =>
              go_wp2_with (at_builtin; refine wpList_append_lies _ rfl _ _ 29 rfl w3.heap.size 77 i45 _ 5 56 Tryd.underlying29 hi45 y0 y1 y2 rfl (by decide) _ _ _ rfl (HOW.out.alloc _) ⟨wr.heap.size, 0, none⟩ 1 1 (encE ⟨pid, pix, v, s, t⟩) rfl rfl (five_new _ _ _ _ rfl) (encE_one _) (by decide) hmax hbytes (by simp; omega) _ rfl ?_; intro g1 cap1 w9 hown1 hgrow1 hat1 hlt1)
              go_ret2
              have RR := (Row.push' (x := ⟨pid, pix, v, s, t⟩) HM.out HRX.out hgrow1 hown1).1
              refine ⟨.slice (some ⟨g1, 0, none⟩) (m + 1) cap1, by rw [HE.out.1]; rfl, ?_, town (HB.out.trans ((HB3.out.trans (RR.bel.mono (by omega))).mono (by omega))) RR.own⟩
              rw [HE.out.2, HI.out, if_neg (by decide)]
              exact RR.ents.wide (by omega) (Nat.le_refl _)

end Go.Proofs.YtjclklppnkoehaaDoor.Co

namespace Go.Proofs.YtjclklppnkoehaaDoor
open Go.RowKit
set_option maxRecDepth 100000

/-- What held gives. -/
def HeldEndT (w : World) (e : Ending) (w' : World) : Prop :=
  ∃ (l : List Co.EnD) (v : Value), e = .returned (.tuple #[.pointer (some ⟨w.heap.size + 2, 0, none⟩), v]) ∧ Co.SetIs w' (w.heap.size + 2) (w.heap.size + 1) l ∧ Co.Ents w' (w.heap.size + 3) w'.heap.size v l ∧ l.length ≤ 8 ∧ Below w.heap.size w w' ∧ Thw w' v

set_option maxHeartbeats 2000000 in
theorem held_thw (z : JobD) (vc vs vo : Value) (w : World) (hz : JobAt w w.heap.size vc vs vo z) (hok : z.Ok) : Calls Tryd.prog 6 #[jobV z vc vs vo] w (HeldEndT w) := by
  obtain ⟨w0, hw0⟩ : ∃ w0, w0 = w.alloc (.cells #[vc, vs, vo, .int .u32 z.ver, .int .u32 z.lock, .int .i64 z.ht] 27) := ⟨_, rfl⟩
  have z0 : w0.heap.size = w.heap.size + 1 := by rw [hw0]; simp
  have hb0 : Below w.heap.size w w0 := by rw [hw0]; exact (Below.refl _ _).alloc (Nat.le_refl _) _
  obtain ⟨A, c, rfl⟩ := hz.cns.form
  have hcap := Lst.cap hz.cns
  have hq0 : w0.cell? ⟨w.heap.size, 0, none⟩ = some (.slice A z.cns.length c) := by rw [hw0]; simp
  obtain ⟨n, hn⟩ : ∃ n, min z.cns.length 8 = n := ⟨_, rfl⟩
  have hmn : ∀ w, (Builtin.min_ #[3, 3] 3 #[.int .i64 (z.cns.length : Int), .int .i64 8]).run Tryd.prog w = .ok (.int .i64 (n : Nat)) w := by rw [← hn]; exact fun w => run_min_nat 8 #[3, 3] 3 z.cns.length w
  have n1 : n ≤ c := by omega
  have n2 : (n : Int) ≤ (c : Int) := by omega
  have n3 : (0 : Int) ≤ (n : Int) := by omega
  have n4 : n ≤ 8 := by omega
  have hl' : z.cns.length ≤ 9223372036854775807 := by have := hok.lc; unfold maxLen at this; omega
  obtain ⟨ys, hys⟩ : ∃ ys, z.cns.take n = ys := ⟨_, rfl⟩
  have hyl : ys.length = n := by rw [← hys, List.length_take]; omega
  have HX := Lib.hid (show Cns w 0 w.heap.size (.slice A n c) ys from by rw [← hys]; exact Lst.take hz.cns (by omega))
  have HO := Lib.hid (show ∀ x ∈ ys, x.Ok from by rw [← hys]; exact fun x hx => hok.cns x (List.mem_of_mem_take hx))
  have B0 := Lib.hid hb0
  have HW0 := Lib.hid hw0
  have CN := Lib.hid (Co.new_any w0)
  rw [z0] at CN
  unfold jobV
  generalize z.cns.length = nn at hmn HW0 hq0 hl' ⊢
  clear hz hok hcap hn hys hw0 hb0
  go_enter Tryd.func6, Tryd.ntmps6
  go_upto_region 1 with (fail)
  rw [show World.alloc w _ = w0 from HW0.out.symm]
  go_wp2_with fail
  refine CN.out.mono ?_
  rintro e w1 ⟨rfl, hs1, hb1, hz1⟩
  have S1 := Lib.hid hs1
  have B1 := Lib.hid (below_next B0.out (by omega) (show Below w0.heap.size w0 w1 from by rw [z0]; exact hb1))
  have q0 := (hb1.cell (p := ⟨w.heap.size, 0, none⟩) (by show w.heap.size < _; omega)).trans hq0
  clear hs1 hb1 CN hq0
  go_wp2_with fail
  have hz1' : w1.heap.size = w.heap.size + 3 := by omega
  go_loopg [5, 21] n (fun gg s5 s21 wr => ∃ (k : Nat) (l : List Co.EnD), k ≤ n ∧ n - k ≤ gg ∧ s21 = .int .i64 k ∧ l.length ≤ k ∧ w1.heap.size ≤ wr.heap.size ∧ Hid (Co.SetIs wr (w.heap.size + 2) (w.heap.size + 1) l) ∧ Hid (Co.Ents wr (w.heap.size + 3) wr.heap.size s5 l) ∧ Hid (Below w.heap.size w wr) ∧ Hid (Thw wr s5))
  case atStart => exact ⟨0, [], Nat.zero_le _, by omega, rfl, Nat.le_refl _, Nat.le_refl _, S1, Lib.hid (Co.Ents.nil _ _ _), B1, Lib.hid (Thw.nil _)⟩
  case round =>
    clear hmn
    obtain ⟨k, l, hk, hgg, rfl, hll, hzr, HS, HE, HB, HT⟩ := hrel
    obtain ⟨EA, ec, rfl⟩ := HE.out.form
    by_cases hlt : k < n
    · have k1 : (k : Int) < (n : Int) := by omega
      have k2 : decide (k < n) = true := decide_eq_true hlt
      obtain ⟨x, hxk⟩ : ∃ x, ys[k]? = some x := ⟨_, List.getElem?_eq_getElem (by omega)⟩
      obtain ⟨b, off, rfl, h1, h2, c0, c1, c2, c3, ⟨vb, c4, hbr⟩, c5, c6⟩ := Lst.at (HX.out.keep (Kept.of_below HB.out (Nat.le_refl _))) hxk
      obtain ⟨Ab, cb, rfl⟩ := hbr.form
      obtain ⟨o1, o2, o3, o4, o5, o6, o7, o8, o9, o10, o11⟩ := HO.out x (List.mem_of_getElem? hxk)
      have hcb := hbr.cap
      obtain ⟨W, hW⟩ : ∃ W, W = wr.alloc (.cells #[.int .u8 x.id8, .int .u8 x.ix8, .int .i64 x.val, .int .i64 x.ht, .slice Ab x.brs.length cb, .string x.scr, .bool x.raw] 80) := ⟨_, rfl⟩
      have hzW : W.heap.size = wr.heap.size + 1 := by rw [hW]; simp
      have hbW : Below wr.heap.size wr W := by rw [hW]; exact (Below.refl _ _).alloc (Nat.le_refl _) _
      have CX := Lib.hid (show CnBox W wr.heap.size x (.slice Ab x.brs.length cb) from by rw [hW]; exact CnBox.new wr x _ 80)
      have BW := Lib.hid (below_next HB.out (by omega) hbW)
      have la := HS.out.lta
      have lb := HS.out.ltb
      have SW := Lib.hid (HS.out.below hbW la lb)
      have EW := Lib.hid (HE.out.keep (Kept.of_below hbW (Nat.le_refl _)))
      have TW := Lib.hid (HT.out.kept HE.out (Kept.of_below hbW (Nat.le_refl _)))
      obtain ⟨nb, hnb⟩ : ∃ m, min x.brs.length 3 = m := ⟨_, rfl⟩
      have hm3 : ∀ w, (Builtin.min_ #[3, 3] 3 #[.int .i64 (x.brs.length : Int), .int .i64 3]).run Tryd.prog w = .ok (.int .i64 (nb : Nat)) w := by rw [← hnb]; exact fun w => run_min_nat 3 #[3, 3] 3 x.brs.length w
      obtain ⟨ns, hns⟩ : ∃ m, min x.scr.size 30 = m := ⟨_, rfl⟩
      have hm30 : ∀ w, (Builtin.min_ #[3, 3] 3 #[.int .i64 (x.scr.size : Int), .int .i64 30]).run Tryd.prog w = .ok (.int .i64 (ns : Nat)) w := by rw [← hns]; exact fun w => run_min_nat 30 #[3, 3] 3 x.scr.size w
      have t1 : nb ≤ cb := by omega
      have t2 : (nb : Int) ≤ (cb : Int) := by omega
      have t3 : ns ≤ x.scr.size := by omega
      have t4 : (ns : Int) ≤ (x.scr.size : Int) := by omega
      have t5 : x.brs.length ≤ 9223372036854775807 := by unfold maxLen at o10; omega
      have t6 : x.scr.size ≤ 9223372036854775807 := by unfold maxLen at o11; omega
      have ht3 : x.brs.take nb = x.brs.take 3 := by rw [← hnb, ← List.take_take, List.take_of_length_le (by rw [List.length_take]; omega)]
      have BR := Lib.hid (show Brs W 0 w.heap.size (.slice Ab nb cb) (x.brs.take 3) from by rw [← ht3]; exact (hbr.take (by omega)).keep (Kept.of_below hbW (by have := HB.out.size; omega)))
      have CP := Lib.hid (fun V (hV : Below W.heap.size W V) => rlput_any (x.brs.take 3) _ V 0 w.heap.size (BR.out.keep (Kept.of_below hV (by have := HB.out.size; omega))) (by have := hV.size; have := HB.out.size; omega) (by rw [List.length_take]; omega) (fun y hy => o9 y (List.mem_of_mem_take hy)))
      have PS := Lib.hid (ptS_size (xs := x.brs.take 3))
      have SE := Lib.hid (show (x.scr.extract 0 ns).size ≤ 64 from by rw [ByteArray.size_extract]; omega)
      have HXO := Lib.hid (And.intro (And.intro o5 o6) (And.intro o7 o8))
      have HW := Lib.hid hW
      generalize ptE (x.brs.take 3) = pe at CP
      generalize ptS (x.brs.take 3) = ps at CP PS
      generalize x.brs.length = nbr at hm3 t5 CX HW c4
      obtain ⟨i8, x8, xv, xh, xb, xs, xr⟩ := x
      simp only at *
      obtain ⟨i5, hi5⟩ : ∃ i, i8 % 5 = i := ⟨_, rfl⟩
      obtain ⟨j2, hj2⟩ : ∃ j, x8 % 2 = j := ⟨_, rfl⟩
      have r1 : ¬ (5 : Int) = 0 := by decide
      have r2 : ¬ (2 : Int) = 0 := by decide
      have r3 : i8.tmod 5 = i5 := by rw [← hi5]; exact Int.tmod_eq_emod_of_nonneg o1
      have r4 : x8.tmod 2 = j2 := by rw [← hj2]; exact Int.tmod_eq_emod_of_nonneg o3
      have r5 : IntKind.u8.wrap i5 = i5 := IntWalk.u8_in _ (by omega)
      have r6 : IntKind.u8.wrap j2 = j2 := IntWalk.u8_in _ (by omega)
      have r7 : IntKind.i64.wrap i5 = i5 := IntWalk.i64_in _ (by omega)
      have r8 : IntKind.u32.wrap j2 = j2 := IntWalk.u32_in _ (by omega)
      have rj : 0 ≤ j2 ∧ j2 ≤ 1 := by omega
      have CI := Lib.hid (fun V => Co.id_det i5 V)
      have IS := Lib.hid (Co.idT_size i5 32)
      generalize Co.idT i5 32 = pid at CI IS
      clear hW hbW hnb hns ht3 hxk hbr hi5 hj2 o1 o2 o3 o4 o5 o6 o7 o8 o9 o10 o11 HX HO BR
      go_upto_region 6 with (fail)
      rw [show World.alloc wr _ = W from HW.out.symm]
      clear c0 c1 c2 c3 c4 c5 c6
      obtain ⟨a0, a1, a2, a3, a4, a5, a6⟩ := CX.out
      have m1 : ¬ W.heap.size = wr.heap.size := by omega
      have ZW := Lib.hid hzW
      clear hzW
      go_cut [8] (fun s8 wx => PtMid W pid j2 s8 wx)
      case first =>
        go_region_held3 (fun w' => w'.cell? ⟨wr.heap.size, 0, none⟩ = some (.int .u8 i8) ∧ w'.cell? ⟨wr.heap.size, 1, none⟩ = some (.int .u8 x8))
          (go_keep)
          (first | (go_at_call 24; refine (CI.out _).mono ?_; rintro e w3 ⟨rfl, hB1⟩; have n3 : ¬ w3.heap.size = wr.heap.size := (by have := hB1.size; have := ZW.out; simp at *; omega); have e1 := hB1.cell (p := ⟨wr.heap.size, 0, none⟩) (by have := ZW.out; simp; omega); have e2 := hB1.cell (p := ⟨wr.heap.size, 1, none⟩) (by have := ZW.out; simp; omega); first | (have hz := pt_kept hB1 (heap_alloc_new W (.cells #[.string ⟨#[]⟩, .int .u32 0] 43)); obtain ⟨q0, q1, qf, qs⟩ := hz) | skip))
        all_goals go_wp2_with fail
        all_goals go_meet
        · exact pt_mid1 (Below.refl _ _).drew hB1 pid j2
        · first | exact pt_mid2 ((Below.refl _ _).drew.alloc (by simp) _) hB1 (Nat.le_refl _) pid j2 q0 q1 qs | exact pt_mid2 ((Below.refl _ _).alloc (by simp) _).drew hB1 (Nat.le_refl _) pid j2 q0 q1 qs
      case rest =>
        obtain ⟨g, rfl, hg1, hg2, hpb, hbc⟩ := hcut
        have hgz : wr.heap.size < W.heap.size := by have := ZW.out; omega
        clear a0 a1 a2 a3 a4 a5 a6 CI
        obtain ⟨a0, a1, a2, a3, a4, a5, a6⟩ := CX.out.below hgz hbc.out
        have CP1 := Lib.hid (CP.out wc hbc.out)
        go_wp2_with fail
        refine CP1.out.mono ?_
        rintro e w4 ⟨rfl, hb4⟩
        have zc := hbc.out.size
        have z4 := hb4.size
        have L4 := Lib.hid (below_next hbc.out hbc.out.size hb4)
        have P4 := Lib.hid (hpb.out.below hg2 hb4)
        clear hb4 a0 a1 a2 a3 a4 a5 a6 CP1 CP
        obtain ⟨a0, a1, a2, a3, a4, a5, a6⟩ := CX.out.below hgz L4.out
        go_upto_region 8 with (fail)
        go_cut [51] (fun s51 wx => ∃ q, s51 = .bool q ∧ wx = w4)
        case first =>
          cases xr with
          | true =>
            go_wp2_with fail
            go_meet
            exact ⟨_, rfl, rfl⟩
          | false =>
            by_cases hp : pe = 0
            · have p1 : (pe != 0) = false := by simp [hp]
              clear hp
              go_wp2_with fail
              go_meet
              exact ⟨_, rfl, rfl⟩
            · have p1 : (pe != 0) = true := by simp [hp]
              clear hp
              go_wp2_with fail
              go_meet
              exact ⟨_, rfl, rfl⟩
        case rest =>
        obtain ⟨q, rfl, rfl⟩ := hcut
        obtain ⟨wq, hwq⟩ : ∃ wq, wq = wc := ⟨_, rfl⟩
        rw [← hwq] at L4 P4 a0 a1 a2 a3 a4 a5 a6 z4 ⊢
        clear hwq
        go_upto_if 51 with (fail)
        go_cut [9] (fun s9 wx => ∃ s, s9 = .string s ∧ Hid (s.size ≤ 64) ∧ wx = wq)
        case first =>
          cases q with
          | true =>
            go_wp2_with fail
            go_meet
            exact ⟨_, rfl, SE, rfl⟩
          | false =>
            go_wp2_with fail
            go_meet
            exact ⟨_, rfl, PS, rfl⟩
        case rest =>
          obtain ⟨sc, rfl, hsc, rfl⟩ := hcut
          obtain ⟨w5, hw5⟩ : ∃ w5, w5 = wc.alloc (.cells #[.int .i64 xv, .string sc, .int .i64 xh] 50) := ⟨_, rfl⟩
          have hb5 : Below wc.heap.size wc w5 := by rw [hw5]; exact (Below.refl _ _).alloc (Nat.le_refl _) _
          have z5 : w5.heap.size = wc.heap.size + 1 := by rw [hw5]; simp
          have y0 : w5.cell? ⟨wc.heap.size, 0, none⟩ = some (.int .i64 xv) := by rw [hw5]; simp
          have y1 : w5.cell? ⟨wc.heap.size, 1, none⟩ = some (.string sc) := by rw [hw5]; simp
          have y2 : w5.cell? ⟨wc.heap.size, 2, none⟩ = some (.int .i64 xh) := by rw [hw5]; simp
          have L5 := Lib.hid (below_next L4.out L4.out.size hb5)
          have S5 := Lib.hid (SW.out.below L5.out (by omega) (by omega))
          have HE5 := Lib.hid (EW.out.keep (Kept.of_below L5.out (by have := ZW.out; omega)))
          have T5 := Lib.hid (TW.out.kept EW.out (Kept.of_below L5.out (by have := ZW.out; omega)))
          have EO : Co.EnD.Ok ⟨pid, j2, xv, sc, xh⟩ := ⟨⟨by show pid.size ≤ 64; rw [IS.out]; decide, rj.1, by show j2 ≤ 4294967295; omega⟩, HXO.out.1.1, HXO.out.1.2, hsc.out, HXO.out.2.1, HXO.out.2.2⟩
          have CU := Lib.hid (Co.put_any _ _ l ⟨pid, j2, xv, sc, xh⟩ w5 S5.out EO)
          obtain ⟨p0, p1⟩ := P4.out
          have p0' := (hb5.cell (p := ⟨g, 0, none⟩) (by show g < _; omega)).trans p0
          have p1' := (hb5.cell (p := ⟨g, 1, none⟩) (by show g < _; omega)).trans p1
          have HW5 := Lib.hid hw5
          clear hw5
          go_upto_region 11 with (fail)
          rw [show World.alloc wc _ = w5 from HW5.out.symm]
          go_wp2_with fail
          refine CU.out.mono ?_
          rintro e w6 ⟨rfl, hs6, hk6⟩
          have z6 := hk6.size
          have S6 := Lib.hid hs6
          have HE6 := Lib.hid (HE5.out.keep (hk6.kept (.inl (by omega)) (.inl (by omega)) (by omega)))
          have T6 := Lib.hid (T5.out.kept HE5.out (hk6.kept (.inl (by omega)) (.inl (by omega)) (by omega)))
          have B6 := Lib.hid (Co.But2.below (below_next BW.out (by omega) L5.out) hk6 (by omega) (by omega) (by omega))
          have p0 := (World.cell?_of_block (a := ⟨g, 0, none⟩) (hk6.block g (by omega) (by omega) (by omega))).trans p0'
          have p1 := (World.cell?_of_block (a := ⟨g, 1, none⟩) (hk6.block g (by omega) (by omega) (by omega))).trans p1'
          have x0 := (World.cell?_of_block (a := ⟨wc.heap.size, 0, none⟩) (hk6.block wc.heap.size (by omega) (by omega) (by omega))).trans y0
          have x1 := (World.cell?_of_block (a := ⟨wc.heap.size, 1, none⟩) (hk6.block wc.heap.size (by omega) (by omega) (by omega))).trans y1
          have x2 := (World.cell?_of_block (a := ⟨wc.heap.size, 2, none⟩) (hk6.block wc.heap.size (by omega) (by omega) (by omega))).trans y2
          have CV := Lib.hid (Co.rput_thw EA l.length ec l ⟨pid, j2, xv, sc, xh⟩ w6 (w.heap.size + 3) wr.heap.size HE6.out (by omega) (by omega) HS.out.good (by omega))
          have pl := Co.putL_len l ⟨pid, j2, xv, sc, xh⟩
          clear hs6 hk6 CU p0' p1' y0 y1 y2 a0 a1 a2 a3 a4 a5 a6
          go_wp2_with fail
          refine CV.out.mono ?_
          rintro e w7 ⟨v', rfl, he7, hb7, ht7⟩
          have S7 := Lib.hid (S6.out.below hb7 (by omega) (by omega))
          have E7 := Lib.hid he7
          have T7 := Lib.hid (ht7 T6.out)
          have B7 := Lib.hid (below_next B6.out (by omega) hb7)
          have z7 := hb7.size
          clear ht7 he7 hb7 p0 p1 x0 x1 x2
          go_wp2_with fail
          go_roundg (n - (k + 1))
          case measure => omega
          case rel => exact ⟨k + 1, _, by omega, by omega, by go_num, by omega, by omega, S7, E7, B7, T7⟩
    · have k2 : decide (k < n) = false := decide_eq_false hlt
      have k3 : decide ((k : Int) < (n : Int)) = false := decide_eq_false (by omega)
      go_wp2_with fail
      go_ret2
      exact ⟨l, _, rfl, HS.out, HE.out, by omega, HB.out, HT.out⟩


end Go.Proofs.YtjclklppnkoehaaDoor
