/-
  The document's Put: a coin into a list.
-/
import Derived.Test.YtdchbeomlfancaaRtk
import Derived.Test.YtdchbeomlfancaaPut
import Derived.Deep.CutBlock
namespace Go.Proofs.Ytdchbeomlfancaa
open Go.RowKit

theorem insF_len' (x : EnD) (l : List EnD) : (insF x l).1.length ≤ l.length + 1 := by
  have := insF_len x l ([], false)
  simpa [insF] using this

theorem Row.push' {w wr w9 : World} {v : Value} {ys : List EnD} {x : EnD} {o : Obj} {g cap m : Nat} (hm : m = ys.length) (h : Row w v ys wr) (hg : (wr.alloc o).grownBy w9 v.ownBlock)
    (hown : w9.ownsRow w.heap.size 45 5 (.slice (some ⟨g, 0, none⟩) (m + 1) cap) (m + 1) (cellsE ys ++ encE x)) : Row w (.slice (some ⟨g, 0, none⟩) (m + 1) cap) (ys ++ [x]) w9 ∧ w9.ownsRow w.heap.size 45 5 (.slice (some ⟨g, 0, none⟩) (m + 1) cap) (m + 1) (cellsE (ys ++ [x])) := by
  subst hm
  exact ⟨h.push hg hown, by rw [cellsE_snoc]; exact hown⟩

/-- Behind the walk of a list: what the document's Put hands back of it. -/
def RputEnd (xs : List EnD) (x : EnD) (lo : Nat) (w : World) (e : Ending) (w' : World) : Prop :=
  ∃ v', e = .returned (.tuple #[v', .int .i64 (putE xs x)]) ∧ Ents w' lo w'.heap.size v' (putL xs x) ∧ Below w.heap.size w w'

theorem idx_lt {l : List EnD} {p : ByteArray} {i : Int} (h : hasB l p i = true) (hg : Srt l) : 0 ≤ idxOf (isB p i) l := by
  obtain ⟨k, hk, _⟩ := idx_some hg h
  rw [hk]
  exact Int.natCast_nonneg k

set_option maxHeartbeats 4000000 in
theorem rput_any (A : Option Addr) (n c : Nat) (xs : List EnD) (x : EnD) (w : World) (lo hi : Nat) (hx : Ents w lo hi (.slice A n c) xs) (hhi : hi ≤ w.heap.size) (hlo : lo ≤ w.heap.size) (hg : Good xs) (hl : xs.length ≤ 900) :
    Calls Try.prog 15 #[.slice A n c, .agg #[.string x.id, .int .u32 x.ix], .agg #[.int .i64 x.val, .string x.scr, .int .i64 x.ht]] w (RputEnd xs x lo w) := by
  obtain rfl : n = xs.length := by obtain ⟨_, _, hv, _⟩ := hx; injection hv
  obtain ⟨w1, hw1⟩ : ∃ w1, w1 = w.alloc (.cells #[.string x.id, .int .u32 x.ix] 28) := ⟨_, rfl⟩
  have hz1 : w1.heap.size = w.heap.size + 1 := by rw [hw1]; simp
  have hb1 : Below w.heap.size w w1 := by rw [hw1]; exact (Below.refl _ _).alloc (Nat.le_refl _) _
  obtain ⟨W, hW⟩ : ∃ W, W = w1.alloc (.cells #[.int .i64 x.val, .string x.scr, .int .i64 x.ht] 35) := ⟨_, rfl⟩
  have hz : W.heap.size = w.heap.size + 2 := by rw [hW]; simp [hz1]
  have hBW : Below w.heap.size w W := by rw [hW]; exact hb1.alloc (by omega) _
  have h28 : W.heap[w.heap.size]? = some (.cells #[.string x.id, .int .u32 x.ix] 28) := by rw [hW, Below.heap_alloc _ _ _ (by omega), hw1]; exact heap_alloc_new _ _
  have h35 : W.heap[w.heap.size + 1]? = some (.cells #[.int .i64 x.val, .string x.scr, .int .i64 x.ht] 35) := by rw [hW, ← hz1]; exact heap_alloc_new _ _
  have p0 : W.cell? ⟨w.heap.size, 0, none⟩ = some (.string x.id) := cell_in (o := 0) h28 rfl
  have p1 : W.cell? ⟨w.heap.size, 1, none⟩ = some (.int .u32 x.ix) := cell_in (o := 1) h28 rfl
  have v0 : W.cell? ⟨w.heap.size + 1, 0, none⟩ = some (.int .i64 x.val) := cell_in (o := 0) h35 rfl
  have v2 : W.cell? ⟨w.heap.size + 1, 2, none⟩ = some (.int .i64 x.ht) := cell_in (o := 2) h35 rfl
  have hxW := hx.keep (Kept.of_below hBW hhi)
  have CF := Lib.hid (rfind_any A xs.length c xs x.id x.ix W lo hi hxW (by omega) (by omega))
  have CT := Lib.hid (fun V (hV : Ents V lo hi (.slice A xs.length c) xs) => rtotal_any A xs.length c xs V lo hi hV hg.pos hg.most (by omega))
  have CG := Lib.hid (fun k V => rgood_any k V)
  have HX := Lib.hid hxW
  have HG := Lib.hid hg
  have HB := Lib.hid hBW
  have H28 := Lib.hid h28
  have H35 := Lib.hid h35
  have HW := Lib.hid (show W = (w.alloc (.cells #[.string x.id, .int .u32 x.ix] 28)).alloc (.cells #[.int .i64 x.val, .string x.scr, .int .i64 x.ht] 35) from by rw [hW, hw1])
  obtain ⟨i45, hi45, y0, y1, y2⟩ := info_parts' info45
  obtain ⟨pid, pix, v, s, t⟩ := x
  simp only at CF HW p0 p1 v0 v2 H28 H35 ⊢
  have EA : Hid (argB ⟨pid, pix, v, s, t⟩ = (decide (pid.size = 32) && (decide (0 ≤ t) && decide (t ≤ 1000000) && goodB v))) := Lib.hid rfl
  have END := Lib.hid (show ∀ W', Below W.heap.size W W' → argB ⟨pid, pix, v, s, t⟩ = false → RputEnd xs ⟨pid, pix, v, s, t⟩ lo w (.returned (.tuple #[.slice A xs.length c, .int .i64 2])) W' from fun W' hb ha => by
    obtain ⟨e1, e2⟩ := put_arg (l := xs) ha
    have := hb.size
    exact ⟨_, by rw [e1], by rw [e2]; exact (HX.out.keep (Kept.of_below hb (by omega))).wide (Nat.le_refl _) (by omega), HB.out.trans (hb.mono (by omega))⟩)
  obtain ⟨g, hgg⟩ : ∃ g, g = goodB v := ⟨_, rfl⟩
  have CG1 := Lib.hid (CG.out v W)
  rw [← hgg] at CG1
  have HGG := Lib.hid hgg
  clear hx hg hb1 hw1 hBW hW h28 h35 hxW hgg
  go_enter Try.func15, Try.ntmps15
  go_upto_region 1 with (fail)
  rw [show World.alloc (World.alloc w _) _ = W from HW.out.symm]
  go_wp2_with fail
  refine CG1.out.mono ?_
  rintro e w2 ⟨rfl, rfl⟩
  go_upto_region 2 with (fail)
  by_cases hs : pid.size = 32
  case neg =>
    have hsz : ((pid.size : Int) != 32) = true := by rw [bne_iff_ne]; omega
    have HA := Lib.hid (show argB ⟨pid, pix, v, s, t⟩ = false from by rw [EA.out]; simp [hs])
    clear hs
    go_wp2_with fail
    go_ret2
    exact END.out _ (Below.refl _ _) HA.out
  have hsz : ((pid.size : Int) != 32) = false := by rw [hs]; rfl
  have HSZ := Lib.hid hs
  clear hs
  by_cases ht0 : t < 0
  · have HA := Lib.hid (show argB ⟨pid, pix, v, s, t⟩ = false from by rw [EA.out]; simp; omega)
    go_wp2_with fail
    go_ret2
    exact END.out _ (Below.refl _ _) HA.out
  by_cases ht1 : 1000000 < t
  · have HA := Lib.hid (show argB ⟨pid, pix, v, s, t⟩ = false from by rw [EA.out]; simp; omega)
    go_wp2_with fail
    go_ret2
    exact END.out _ (Below.refl _ _) HA.out
  cases g with
  | false =>
    have HA := Lib.hid (show argB ⟨pid, pix, v, s, t⟩ = false from by rw [EA.out, ← HGG.out]; simp)
    go_wp2_with fail
    go_ret2
    exact END.out _ (Below.refl _ _) HA.out
  | true =>
    have HA := Lib.hid (show argB ⟨pid, pix, v, s, t⟩ = true from by rw [EA.out, ← HGG.out, HSZ.out]; simp; omega)
    clear END EA
    cases hh : hasB xs pid pix with
    | true =>
      obtain ⟨k, hk1, _, _⟩ := idx_some HG.out.srt hh
      rw [hk1] at CF
      have hk0 : (0 : Int) ≤ (k : Int) := Int.natCast_nonneg k
      have HH := Lib.hid hh
      clear hh hk1
      go_wp2_with fail
      refine CF.out.mono ?_
      rintro e w3 ⟨rfl, hb3⟩
      have HB3 := Lib.hid hb3
      clear hb3
      go_wp2_with fail
      go_ret2
      obtain ⟨e1, e2⟩ := put_twice HA.out HH.out
      have s3 := HB3.out.size
      exact ⟨_, by rw [e1]; rfl, by rw [e2]; exact (HX.out.keep (Kept.of_below HB3.out (by omega))).wide (Nat.le_refl _) (by omega), HB.out.trans (HB3.out.mono (by omega))⟩
    | false =>
      rw [idx_none hh] at CF
      have HH := Lib.hid hh
      clear hh
      go_wp2_with fail
      refine CF.out.mono ?_
      rintro e w3 ⟨rfl, hb3⟩
      have HB3 := Lib.hid hb3
      have s3 := hb3.size
      have HX3 := Lib.hid (HX.out.keep (Kept.of_below hb3 (by omega)))
      have h28 := (hb3.block w.heap.size (by omega)).trans H28.out
      have h35 := (hb3.block (w.heap.size + 1) (by omega)).trans H35.out
      have q0 : w3.cell? ⟨w.heap.size, 0, none⟩ = some (.string pid) := cell_in (o := 0) h28 rfl
      have q1 : w3.cell? ⟨w.heap.size, 1, none⟩ = some (.int .u32 pix) := cell_in (o := 1) h28 rfl
      have u0 : w3.cell? ⟨w.heap.size + 1, 0, none⟩ = some (.int .i64 v) := cell_in (o := 0) h35 rfl
      have u1 : w3.cell? ⟨w.heap.size + 1, 1, none⟩ = some (.string s) := cell_in (o := 1) h35 rfl
      have u2 : w3.cell? ⟨w.heap.size + 1, 2, none⟩ = some (.int .i64 t) := cell_in (o := 2) h35 rfl
      have CT3 := Lib.hid (CT.out w3 HX3.out)
      obtain ⟨tl, htl⟩ : ∃ tl, tl = tot xs := ⟨_, rfl⟩
      rw [← htl] at CT3
      have hv := goodB_iff.1 HGG.out.symm
      have hm1 := HG.out.most
      have hm0 := HG.out.zero
      have hwr : IntKind.i64.wrap (tl + v) = tl + v := IntWalk.i64_in _ (by omega)
      have HTL := Lib.hid htl
      have CG3 := Lib.hid (CG.out (tl + v) w3)
      clear hb3 p0 p1 v0 v2 htl hv hm1 hm0 h28 h35
      cases hgo : goodB (tl + v) with
      | false =>
        rw [hgo] at CG3
        have HGO := Lib.hid hgo
        clear hgo
        go_wp2_with fail
        refine CT3.out.mono ?_
        rintro e w4 ⟨rfl, hw⟩
        subst w4
        go_wp2_with fail
        refine CG3.out.mono ?_
        rintro e w4 ⟨rfl, hw⟩
        subst w4
        go_wp2_with fail
        go_ret2
        obtain ⟨e1, e2⟩ := put_range (l := xs) HA.out HH.out (by rw [← HTL.out]; exact HGO.out)
        exact ⟨_, by rw [e1]; rfl, by rw [e2]; exact HX3.out.wide (Nat.le_refl _) (by omega), HB.out.trans (HB3.out.mono (by omega))⟩
      | true =>
        rw [hgo] at CG3
        have HGO := Lib.hid hgo
        clear hgo
        go_wp2_with fail
        refine CT3.out.mono ?_
        rintro e w4 ⟨rfl, hw⟩
        subst w4
        go_wp2_with fail
        refine CG3.out.mono ?_
        rintro e w4 ⟨rfl, hw⟩
        subst w4
        go_wp2_with fail
        go_loopg [11, 12, 13, 14] xs.length (fun gg v' s12 s13 _ wr => ∃ (kk : Nat) (ys : List EnD) (dn : Bool), kk ≤ xs.length ∧ xs.length - kk ≤ gg ∧ s13 = .int .i64 kk ∧ s12 = .bool dn ∧ ys.length ≤ kk + dn.toNat ∧ Hid (insF ⟨pid, pix, v, s, t⟩ (xs.take kk) = (ys, dn)) ∧ w3.heap.size ≤ wr.heap.size ∧ Hid (Row w3 v' ys wr))
        case atStart => exact ⟨0, [], false, Nat.zero_le _, by omega, rfl, rfl, by simp, Lib.hid (by simp [insF]), Nat.le_refl _, Row.nil w3⟩
        case round =>
          obtain ⟨kk, zs, dn, hkk, hgg, rfl, rfl, hzl, HZ, hzr, HR⟩ := hrel
          obtain ⟨B, d, hv⟩ := own_form HR.out.own
          subst hv
          have hdn := Bool.toNat_le dn
          have hnw : w.heap.size < w3.heap.size := by omega
          have hnw1 : w.heap.size + 1 < w3.heap.size := by omega
          have Q0 := (HR.out.bel.cell (p := ⟨w.heap.size, 0, none⟩) hnw).trans q0
          have Q1 := (HR.out.bel.cell (p := ⟨w.heap.size, 1, none⟩) hnw).trans q1
          have U0 := (HR.out.bel.cell (p := ⟨w.heap.size + 1, 0, none⟩) hnw1).trans u0
          have U1 := (HR.out.bel.cell (p := ⟨w.heap.size + 1, 1, none⟩) hnw1).trans u1
          have U2 := (HR.out.bel.cell (p := ⟨w.heap.size + 1, 2, none⟩) hnw1).trans u2
          clear q0 q1 u0 u1 u2
          by_cases hlt : kk < xs.length
          · have hltz : (kk : Int) < (xs.length : Int) := by omega
            have hd : decide (kk < xs.length) = true := decide_eq_true hlt
            obtain ⟨y, hxk⟩ : ∃ y, xs[kk]? = some y := ⟨_, List.getElem?_eq_getElem hlt⟩
            have HS := Lib.hid (insF_step (x := ⟨pid, pix, v, s, t⟩) hxk)
            obtain ⟨b, off, rfl, h1, h2, a0, a1, a2, a3, a4⟩ := HX3.out.at hxk
            have hb3w : b < w3.heap.size := by omega
            have HA3 := Lib.hid (And.intro a0 (And.intro a1 (And.intro a2 (And.intro a3 a4))))
            have c0 := (HR.out.bel.cell (p := ⟨b, off + kk * 5, none⟩) hb3w).trans a0
            have c1 := (HR.out.bel.cell (p := ⟨b, off + kk * 5 + 1, none⟩) hb3w).trans a1
            have c2 := (HR.out.bel.cell (p := ⟨b, off + kk * 5 + 2, none⟩) hb3w).trans a2
            have c3 := (HR.out.bel.cell (p := ⟨b, off + kk * 5 + 3, none⟩) hb3w).trans a3
            have c4 := (HR.out.bel.cell (p := ⟨b, off + kk * 5 + 4, none⟩) hb3w).trans a4
            clear a0 a1 a2 a3 a4
            have hbw : b < wr.heap.size := by omega
            have hpw : w.heap.size < wr.heap.size := by omega
            have hqw : w.heap.size + 1 < wr.heap.size := by omega
            have HC := Lib.hid (And.intro c0 (And.intro c1 (And.intro c2 (And.intro c3 c4))))
            have HU := Lib.hid (And.intro Q0 (And.intro Q1 (And.intro U0 (And.intro U1 U2))))
            have r0 : ∀ z : After wr, z.val.cell? ⟨w.heap.size, 0, none⟩ = some (.string pid) := fun z => (z.ok.cell (p := ⟨w.heap.size, 0, none⟩) hpw).trans Q0
            have r1 : ∀ z : After wr, z.val.cell? ⟨w.heap.size, 1, none⟩ = some (.int .u32 pix) := fun z => (z.ok.cell (p := ⟨w.heap.size, 1, none⟩) hpw).trans Q1
            have r2 : ∀ z : After wr, z.val.cell? ⟨b, off + kk * 5, none⟩ = some (.string y.id) := fun z => (z.ok.cell (p := ⟨b, off + kk * 5, none⟩) hbw).trans c0
            have r3 : ∀ z : After wr, z.val.cell? ⟨b, off + kk * 5 + 1, none⟩ = some (.int .u32 y.ix) := fun z => (z.ok.cell (p := ⟨b, off + kk * 5 + 1, none⟩) hbw).trans c1
            have hne : Nonempty (After wr) := ⟨⟨wr, Below.refl _ _⟩⟩
            have CS := Lib.hid (fun z : After wr => rless_any pid pix y.id y.ix z.val)
            obtain ⟨r, hr⟩ : ∃ r, r = lessB pid pix y.id y.ix := ⟨_, rfl⟩
            have HRR := Lib.hid hr
            rw [← hr] at CS
            obtain ⟨m, hm⟩ : ∃ m, m = zs.length := ⟨_, rfl⟩
            have HM := Lib.hid hm
            have HRW := Lib.hid (fun W' (hW' : Below wr.heap.size wr W') => HR.out.below hW')
            rw [← hm] at HRW ⊢
            have hml : m ≤ 1000 := by omega
            clear hxk hr hm c0 c1 c2 c3 c4 Q0 Q1 U0 U1 U2
            go_wp2_with fail
            refine wp_region_after (by kernel_rfl) (by kernel_rfl) ?_
            repeat (go_big_quiet_step ((go_at_call 22; exact After.call _ (CS.out _))))
            refine wpQuiet_nil ?_
            rintro _ ⟨z, rfl⟩
            have HY := Lib.hid z.ok
            have ys0 := (z.ok.cell (p := ⟨b, off + kk * 5, none⟩) hbw).trans HC.out.1
            have ys1 := (z.ok.cell (p := ⟨b, off + kk * 5 + 1, none⟩) hbw).trans HC.out.2.1
            have ys2 := (z.ok.cell (p := ⟨b, off + kk * 5 + 2, none⟩) hbw).trans HC.out.2.2.1
            have ys3 := (z.ok.cell (p := ⟨b, off + kk * 5 + 3, none⟩) hbw).trans HC.out.2.2.2.1
            have ys4 := (z.ok.cell (p := ⟨b, off + kk * 5 + 4, none⟩) hbw).trans HC.out.2.2.2.2
            have xs0 := (z.ok.cell (p := ⟨w.heap.size, 0, none⟩) hpw).trans HU.out.1
            have xs1 := (z.ok.cell (p := ⟨w.heap.size, 1, none⟩) hpw).trans HU.out.2.1
            have xs2 := (z.ok.cell (p := ⟨w.heap.size + 1, 0, none⟩) hqw).trans HU.out.2.2.1
            have xs3 := (z.ok.cell (p := ⟨w.heap.size + 1, 1, none⟩) hqw).trans HU.out.2.2.2.1
            have xs4 := (z.ok.cell (p := ⟨w.heap.size + 1, 2, none⟩) hqw).trans HU.out.2.2.2.2
            have HRZ := Lib.hid (HRW.out z.val z.ok)
            generalize z.val = wz at HY HRZ ys0 ys1 ys2 ys3 ys4 xs0 xs1 xs2 xs3 xs4
            clear r0 r1 r2 r3 CS
            have HOW := Lib.hid HRZ.out.own
            rw [← HM.out] at HOW
            have hbytes : (m + 1) * 56 ≤ 140737488355328 := by omega
            have hmax : m + 1 ≤ maxLen := by unfold maxLen; omega
            have hzz := HY.out.size
            have hm2 : m + 1 + 1 ≤ 1002 := Nat.add_le_add_right (Nat.add_le_add_right hml 1) 1
            have hbytes2 : (m + 1 + 1) * 56 ≤ 140737488355328 := Nat.le_trans (Nat.mul_le_mul_right 56 hm2) (by decide)
            have hmax2 : m + 1 + 1 ≤ maxLen := Nat.le_trans hm2 (by unfold maxLen; decide)
            clear hm2
            have hz0 : dn = false → zs.length ≤ kk := fun h => by rw [h] at hzl; exact hzl
            have hz1 : zs.length + 1 ≤ kk + 1 + dn.toNat := by omega
            clear hzl hdn
            by_cases hrd : r = true ∧ dn = false
            · obtain ⟨rfl, rfl⟩ := hrd
              have HIN : Hid (insS ⟨pid, pix, v, s, t⟩ (zs, false) y = (zs ++ [⟨pid, pix, v, s, t⟩] ++ [y], true)) := Lib.hid (by
                unfold insS
                rw [if_pos]
                rw [show lt ⟨pid, pix, v, s, t⟩ y = true from HRR.out.symm]
                rfl)
              have hz0' := hz0 rfl
              go_upto_region 20 with (at_builtin; refine wpList_append_lies _ rfl _ _ 25 rfl w3.heap.size 45 i45 _ 5 56 Try.underlying25 hi45 y0 y1 y2 rfl (by decide) _ _ _ rfl (HOW.out.alloc _) ⟨wz.heap.size, 0, none⟩ 1 1 (encE ⟨pid, pix, v, s, t⟩) rfl rfl (five_new _ _ _ _ rfl) (encE_one _) (by decide) hmax hbytes (by simp; omega) _ rfl ?_; intro g1 cap1 w9 hown1 hgrow1 hat1 hlt1)
              have RR := Row.push' (x := ⟨pid, pix, v, s, t⟩) HM.out HRZ.out hgrow1 hown1
              have R1 := Lib.hid RR.1
              have HOW1 := Lib.hid RR.2
              clear RR hat1 hgrow1 hown1 ys0 ys1 ys2 ys3 ys4
              have ys0 := (R1.out.bel.cell (p := ⟨b, off + kk * 5, none⟩) hb3w).trans HA3.out.1
              have ys1 := (R1.out.bel.cell (p := ⟨b, off + kk * 5 + 1, none⟩) hb3w).trans HA3.out.2.1
              have ys2 := (R1.out.bel.cell (p := ⟨b, off + kk * 5 + 2, none⟩) hb3w).trans HA3.out.2.2.1
              have ys3 := (R1.out.bel.cell (p := ⟨b, off + kk * 5 + 3, none⟩) hb3w).trans HA3.out.2.2.2.1
              have ys4 := (R1.out.bel.cell (p := ⟨b, off + kk * 5 + 4, none⟩) hb3w).trans HA3.out.2.2.2.2
              have hz9 := R1.out.bel.size
              go_wp2_with (at_builtin; refine wpList_append_lies _ rfl _ _ 25 rfl w3.heap.size 45 i45 _ 5 56 Try.underlying25 hi45 y0 y1 y2 rfl (by decide) _ _ _ rfl (HOW1.out.alloc _) ⟨w9.heap.size, 0, none⟩ 1 1 (encE y) rfl rfl (five_new _ _ _ _ rfl) (encE_one _) (by decide) hmax2 hbytes2 (by simp; omega) _ rfl ?_; intro g2 cap2 w8 hown2 hgrow2 hat2 hlt2)
              go_roundg (xs.length - (kk + 1))
              case measure => omega
              case rel =>
                have hm := HM.out
                have RR := (Row.push' (x := y) (by simp [hm]) R1.out hgrow2 hown2).1
                have := RR.bel.size
                exact ⟨kk + 1, zs ++ [⟨pid, pix, v, s, t⟩] ++ [y], _, by omega, by omega, by go_num, rfl, by simp only [List.length_append, List.length_cons, List.length_nil]; exact Nat.add_le_add (Nat.add_le_add hz0' (Nat.le_refl 1)) (Nat.le_refl 1), Lib.hid (by rw [HS.out, HZ.out, HIN.out]), by omega, Lib.hid RR⟩
            · have HIN : Hid (insS ⟨pid, pix, v, s, t⟩ (zs, dn) y = (zs ++ [y], dn)) := Lib.hid (by
                unfold insS
                rw [if_neg]
                rw [show lt ⟨pid, pix, v, s, t⟩ y = r from HRR.out.symm]
                cases r <;> cases dn <;> simp_all)
              have hsplit : r = false ∨ (r = true ∧ dn = true) := by cases r <;> cases dn <;> simp_all
              clear hrd
              rcases hsplit with rfl | ⟨rfl, rfl⟩
              all_goals
                go_wp2_with (at_builtin; refine wpList_append_lies _ rfl _ _ 25 rfl w3.heap.size 45 i45 _ 5 56 Try.underlying25 hi45 y0 y1 y2 rfl (by decide) _ _ _ rfl (HOW.out.alloc _) ⟨wz.heap.size, 0, none⟩ 1 1 (encE y) rfl rfl (five_new _ _ _ _ rfl) (encE_one _) (by decide) hmax hbytes (by simp; omega) _ rfl ?_; intro g1 cap1 w9 hown1 hgrow1 hat1 hlt1)
                go_roundg (xs.length - (kk + 1))
                case measure => omega
                case rel =>
                  have hm := HM.out
                  subst hm
                  have RR := HRZ.out.push (x := y) hgrow1 hown1
                  have := RR.bel.size
                  exact ⟨kk + 1, zs ++ [y], _, by omega, by omega, by go_num, rfl, by simp only [List.length_append, List.length_cons, List.length_nil]; exact hz1, Lib.hid (by rw [HS.out, HZ.out, HIN.out]), by omega, Lib.hid RR⟩
          · have hltz : ¬ (kk : Int) < (xs.length : Int) := by omega
            have hd : decide (kk < xs.length) = false := decide_eq_false hlt
            obtain rfl : kk = xs.length := by omega
            rw [List.take_length] at HZ
            obtain ⟨e1, e2⟩ := put_yes (l := xs) HA.out HH.out (by rw [← HTL.out]; exact HGO.out)
            have HE := Lib.hid (And.intro e1 e2)
            have HI := Lib.hid (show insR ⟨pid, pix, v, s, t⟩ xs = if dn = true then zs else zs ++ [⟨pid, pix, v, s, t⟩] from by rw [← insD_eq]; unfold insD; rw [HZ.out])
            have HOW := Lib.hid HR.out.own
            have HRX := Lib.hid HR.out
            obtain ⟨m, hm⟩ : ∃ m, m = zs.length := ⟨_, rfl⟩
            rw [← hm] at HOW HRX ⊢
            have hml : m ≤ 1000 := by omega
            have HM := Lib.hid hm
            have hbytes : (m + 1) * 56 ≤ 140737488355328 := by omega
            have hmax : m + 1 ≤ maxLen := by unfold maxLen; omega
            clear hm e1 e2
            cases dn with
            | true =>
              go_wp2_with fail
              go_ret2
              refine ⟨.slice B m d, by rw [HE.out.1]; rfl, ?_, HB.out.trans ((HB3.out.trans (HR.out.bel.mono (by omega))).mono (by omega))⟩
              rw [HE.out.2, HI.out, if_pos trivial]
              exact HRX.out.ents.wide (by omega) (Nat.le_refl _)
            | false =>
              go_wp2_with (at_builtin; refine wpList_append_lies _ rfl _ _ 25 rfl w3.heap.size 45 i45 _ 5 56 Try.underlying25 hi45 y0 y1 y2 rfl (by decide) _ _ _ rfl (HOW.out.alloc _) ⟨wr.heap.size, 0, none⟩ 1 1 (encE ⟨pid, pix, v, s, t⟩) rfl rfl (five_new _ _ _ _ rfl) (encE_one _) (by decide) hmax hbytes (by simp; omega) _ rfl ?_; intro g1 cap1 w9 hown1 hgrow1 hat1 hlt1)
              go_ret2
              have RR := (Row.push' (x := ⟨pid, pix, v, s, t⟩) HM.out HRX.out hgrow1 hown1).1
              refine ⟨.slice (some ⟨g1, 0, none⟩) (m + 1) cap1, by rw [HE.out.1]; rfl, ?_, HB.out.trans ((HB3.out.trans (RR.bel.mono (by omega))).mono (by omega))⟩
              rw [HE.out.2, HI.out, if_neg (by decide)]
              exact RR.ents.wide (by omega) (Nat.le_refl _)

end Go.Proofs.Ytdchbeomlfancaa
