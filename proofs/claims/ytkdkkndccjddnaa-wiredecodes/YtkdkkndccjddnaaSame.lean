/-
  Are two transactions the same: the document's Same.
-/
import Derived.Test.YtkdkkndccjddnaaEq
namespace Go.Proofs.Ytkdkkndccjddnaa
open Go.RowKit

theorem inB_id {x y : InD} (h : (x.id.toList == y.id.toList) = false) : inB x y = false := by simp [inB, ptB, h]
theorem inB_ix {x y : InD} (h : (x.ix == y.ix) = false) : inB x y = false := by simp [inB, ptB, h]
theorem inB_sq' {x y : InD} (h : (x.sq == y.sq) = false) : inB x y = false := by simp [inB, h]
theorem inB_len {x y : InD} (h : x.wit.length ≠ y.wit.length) : inB x y = false := by simp [inB, strsB, allB_len h]
theorem inB_item {x y : InD} (h : strsB x.wit y.wit = false) : inB x y = false := by simp [inB, h]
theorem inB_yes {x y : InD} (h1 : (x.id.toList == y.id.toList) = true) (h2 : (x.ix == y.ix) = true) (h3 : (x.sq == y.sq) = true) (h4 : strsB x.wit y.wit = true) : inB x y = true := by simp [inB, ptB, h1, h2, h3, h4]
theorem txB_len {t u : TxD} (h : t.ins.length ≠ u.ins.length) : txB t u = false := by simp [txB, allB_len h]
theorem txB_len' {t u : TxD} (h : t.outs.length ≠ u.outs.length) : txB t u = false := by simp [txB, allB_len h]
theorem txB_out {t u : TxD} (h : allB outB t.outs u.outs = false) : txB t u = false := by simp [txB, h]
theorem neb_false {a b : Nat} (h : a = b) : ((a : Int) != (b : Int)) = false := by rw [bne_eq_false_iff_eq]; omega
theorem neb_true {a b : Nat} (h : a ≠ b) : ((a : Int) != (b : Int)) = true := by rw [bne_iff_ne]; omega

/-- The world behind two boxes. -/
def two (w : World) (t u : TxD) (vi vo ui uo : Value) : World := (w.alloc (.cells #[.int .u32 t.ver, vi, vo, .int .u32 t.lock] 26)).alloc (.cells #[.int .u32 u.ver, ui, uo, .int .u32 u.lock] 26)

set_option maxHeartbeats 2000000 in
set_option maxRecDepth 100000 in
theorem rsame_any (t u : TxD) (vi vo ui uo : Value) (w : World) (lo hi lo' hi' : Nat) (ht : TxAt w lo hi vi vo t) (hu : TxAt w lo' hi' ui uo u) (hhi : hi ≤ w.heap.size) (hhi' : hi' ≤ w.heap.size) (hok : t.Ok) :
    Calls Try.prog 17 #[.agg #[.int .u32 t.ver, vi, vo, .int .u32 t.lock], .agg #[.int .u32 u.ver, ui, uo, .int .u32 u.lock]] w fun e w' => e = .returned (.bool (txB t u)) ∧ Below w.heap.size w w' := by
  obtain ⟨tv, ti, to, tl⟩ := t
  obtain ⟨uv, us, uu, ul⟩ := u
  have HO := Lib.hid hok
  have l1 := hok.1
  have l2 := hok.2.1
  have HT := Lib.hid ht
  have HU := Lib.hid hu
  obtain ⟨h1, h2⟩ := ht
  obtain ⟨h3, h4⟩ := hu
  obtain ⟨A1, m1, rfl⟩ := h1.form
  obtain ⟨A2, m2, rfl⟩ := h2.form
  obtain ⟨A3, m3, rfl⟩ := h3.form
  obtain ⟨A4, m4, rfl⟩ := h4.form
  clear h1 h2 h3 h4 hok
  simp only at l1 l2 ⊢
  have b0 : ∀ o o', Below w.heap.size w ((w.alloc o).alloc o') := fun o o' => ((Below.refl _ _).alloc (Nat.le_refl _) o).alloc (by simp) o'
  have B0 := Lib.hid b0
  clear b0
  by_cases e1 : (tv == uv) = true
  case neg =>
    have e1 : (tv != uv) = true := by simpa using e1
    have E := Lib.hid (txB_ver (t := ⟨tv, ti, to, tl⟩) (u := ⟨uv, us, uu, ul⟩) (by simpa using e1))
    go_enter Try.func17, Try.ntmps17
    go_wp2
    go_ret
    exact ⟨ret_bool E.out.symm, B0.out _ _⟩
  by_cases e2 : (tl == ul) = true
  case neg =>
    have e1' : (tv != uv) = false := by simpa using e1
    have e2 : (tl != ul) = true := by simpa using e2
    have E := Lib.hid (txB_lock (t := ⟨tv, ti, to, tl⟩) (u := ⟨uv, us, uu, ul⟩) (by simpa using e2))
    clear e1
    go_enter Try.func17, Try.ntmps17
    go_wp2
    go_ret
    exact ⟨ret_bool E.out.symm, B0.out _ _⟩
  by_cases e3 : ti.length = us.length
  case neg =>
    have e1' : (tv != uv) = false := by simpa using e1
    have e2' : (tl != ul) = false := by simpa using e2
    have E := Lib.hid (txB_len (t := ⟨tv, ti, to, tl⟩) (u := ⟨uv, us, uu, ul⟩) e3)
    have e3 := neb_true e3
    clear e1 e2
    go_enter Try.func17, Try.ntmps17
    go_wp2
    go_ret
    exact ⟨ret_bool E.out.symm, B0.out _ _⟩
  by_cases e4 : to.length = uu.length
  case neg =>
    have e1' : (tv != uv) = false := by simpa using e1
    have e2' : (tl != ul) = false := by simpa using e2
    have E := Lib.hid (txB_len' (t := ⟨tv, ti, to, tl⟩) (u := ⟨uv, us, uu, ul⟩) e4)
    have e3 := neb_false e3
    have e4 := neb_true e4
    clear e1 e2
    go_enter Try.func17, Try.ntmps17
    go_wp2
    go_ret
    exact ⟨ret_bool E.out.symm, B0.out _ _⟩
  have F := Lib.hid (fun h3 => txB_outs (t := ⟨tv, ti, to, tl⟩) (u := ⟨uv, us, uu, ul⟩) e1 e2 h3)
  have e1' : (tv != uv) = false := by simpa using e1
  have e2' : (tl != ul) = false := by simpa using e2
  have E3 := Lib.hid e3
  have E4 := Lib.hid e4
  have e3' := neb_false e3
  have e4' := neb_false e4
  clear e1 e2 e3 e4
  obtain ⟨w0, hw0⟩ : ∃ w0, w0 = two w ⟨tv, ti, to, tl⟩ ⟨uv, us, uu, ul⟩ (.slice A1 ti.length m1) (.slice A2 to.length m2) (.slice A3 us.length m3) (.slice A4 uu.length m4) := ⟨_, rfl⟩
  have z0 : w0.heap.size = w.heap.size + 2 := by rw [hw0]; simp [two]
  have q1 : w0.cell? ⟨w.heap.size, 1, none⟩ = some (.slice A1 ti.length m1) := by rw [hw0]; simp [two]
  have q2 : w0.cell? ⟨w.heap.size, 2, none⟩ = some (.slice A2 to.length m2) := by rw [hw0]; simp [two]
  have q3 : w0.cell? ⟨w.heap.size + 1, 1, none⟩ = some (.slice A3 us.length m3) := by rw [hw0]; simp [two]
  have q4 : w0.cell? ⟨w.heap.size + 1, 2, none⟩ = some (.slice A4 uu.length m4) := by rw [hw0]; simp [two]
  have bw0 : Below w.heap.size w w0 := by rw [hw0]; exact B0.out _ _
  have Q := Lib.hid (And.intro q1 (And.intro q2 (And.intro q3 q4)))
  have BW0 := Lib.hid bw0
  have Z0 := Lib.hid z0
  have HW0 := Lib.hid hw0
  clear q1 q2 q3 q4 bw0 z0 hw0
  go_enter Try.func17, Try.ntmps17
  go_wp2_with fail
  go_loopg [5, 6, 7, 8] ti.length (fun gg s _ _ _ wr => EqHead inB ti us w0 gg s wr)
  case atStart => exact ⟨0, Nat.zero_le _, by omega, rfl, by rw [HW0.out]; exact Below.refl _ _, SoFar.zero _ _ _⟩
  case round =>
    obtain ⟨kk, hkk, hg, rfl, BW, A0⟩ := hrel
    have hsz : w.heap.size + 2 ≤ wr.heap.size := by have := BW.size; have := Z0.out; omega
    have hz1 : w.heap.size < wr.heap.size := by omega
    have hz2 : w.heap.size + 1 < wr.heap.size := by omega
    have f1 := (BW.cell (p := ⟨w.heap.size, 1, none⟩) (by have := Z0.out; show w.heap.size < _; omega)).trans Q.out.1
    have f2 := (BW.cell (p := ⟨w.heap.size, 2, none⟩) (by have := Z0.out; show w.heap.size < _; omega)).trans Q.out.2.1
    have f3 := (BW.cell (p := ⟨w.heap.size + 1, 1, none⟩) (by have := Z0.out; show w.heap.size + 1 < _; omega)).trans Q.out.2.2.1
    have f4 := (BW.cell (p := ⟨w.heap.size + 1, 2, none⟩) (by have := Z0.out; show w.heap.size + 1 < _; omega)).trans Q.out.2.2.2
    have BV := Lib.hid (below_next BW0.out (by have := Z0.out; omega) BW)
    have BW := Lib.hid BW
    have A0 := Lib.hid A0
    by_cases hlt : kk < ti.length
    · have hltz : (kk : Int) < (ti.length : Int) := by omega
      have hlty : (kk : Int) < (us.length : Int) := by have := E3.out; omega
      have hd : decide (kk < ti.length) = true := decide_eq_true hlt
      obtain ⟨x, hxk⟩ : ∃ x, ti[kk]? = some x := ⟨_, List.getElem?_eq_getElem hlt⟩
      obtain ⟨y, hyk⟩ : ∃ y, us[kk]? = some y := ⟨_, List.getElem?_eq_getElem (by omega)⟩
      obtain ⟨b, off, rfl, g1, g2, c0, c1, c2, v, c3, hs⟩ := (HT.out.1.keep (Kept.of_below BV.out hhi)).at hxk
      obtain ⟨b', off', rfl, g1', g2', d0, d1, d2, v', d3, hs'⟩ := (HU.out.1.keep (Kept.of_below BV.out hhi')).at hyk
      have hbx : b < wr.heap.size := by omega
      have hby : b' < wr.heap.size := by omega
      have hw := (HO.out.2.2.1 x (List.mem_of_getElem? hxk)).2.2.2.2.2.1
      have HS := Lib.hid hs
      have HS' := Lib.hid hs'
      obtain ⟨B1, n1, rfl, _, _⟩ := hs
      obtain ⟨B2, n2, rfl, _, _⟩ := hs'
      have HXK := Lib.hid hxk
      have HYK := Lib.hid hyk
      clear hxk hyk
      have b1 : ∀ o o', Below wr.heap.size wr ((wr.alloc o).alloc o') := fun o o' => ((Below.refl _ _).alloc (Nat.le_refl _) o).alloc (by simp) o'
      have B1' := Lib.hid b1
      clear b1
      obtain ⟨xi, xx, xq, xw⟩ := x
      obtain ⟨yi, yx, yq, yw⟩ := y
      simp only at c0 c1 c2 d0 d1 d2 c3 d3 hw
      have N := Lib.hid (fun (h : inB ⟨xi, xx, xq, xw⟩ ⟨yi, yx, yq, yw⟩ = false) => txB_ins (t := ⟨tv, ti, to, tl⟩) (u := ⟨uv, us, uu, ul⟩) (allB_miss HXK.out HYK.out h))
      cases k1 : xi.toList == yi.toList
      · go_wp2_with fail
        go_ret
        exact ⟨ret_bool (N.out (inB_id k1)).symm, below_next BV.out (by omega) (B1'.out _ _)⟩
      cases k2 : xx == yx
      · have k2' : (xx != yx) = true := by simpa using k2
        go_wp2_with fail
        go_ret
        exact ⟨ret_bool (N.out (inB_ix k2)).symm, below_next BV.out (by omega) (B1'.out _ _)⟩
      cases k3 : xq == yq
      · have k2' : (xx != yx) = false := by simpa using k2
        have k3' : (xq != yq) = true := by simpa using k3
        go_wp2_with fail
        go_ret
        exact ⟨ret_bool (N.out (inB_sq' k3)).symm, below_next BV.out (by omega) (B1'.out _ _)⟩
      by_cases k4 : xw.length = yw.length
      case neg =>
        have k2' : (xx != yx) = false := by simpa using k2
        have k3' : (xq != yq) = false := by simpa using k3
        have k4' := neb_true k4
        go_wp2_with fail
        go_ret
        exact ⟨ret_bool (N.out (inB_len k4)).symm, below_next BV.out (by omega) (B1'.out _ _)⟩
      have k2' : (xx != yx) = false := by simpa using k2
      have k3' : (xq != yq) = false := by simpa using k3
      have k4' := neb_false k4
      have Y := Lib.hid (fun h => inB_yes (x := ⟨xi, xx, xq, xw⟩) (y := ⟨yi, yx, yq, yw⟩) k1 k2 k3 h)
      have K4 := Lib.hid k4
      clear k4
      obtain ⟨wo, hwo⟩ : ∃ wo, wo = wr := ⟨_, rfl⟩
      subst hwo
      obtain ⟨w2, hw2⟩ : ∃ w2, w2 = (wo.alloc (.cells #[.string xi, .int .u32 xx, .int .u32 xq, .slice B1 xw.length n1] 47)).alloc (.cells #[.string yi, .int .u32 yx, .int .u32 yq, .slice B2 yw.length n2] 47) := ⟨_, rfl⟩
      have z2 : w2.heap.size = wo.heap.size + 2 := by rw [hw2]; simp
      have p1 : w2.cell? ⟨wo.heap.size, 3, none⟩ = some (.slice B1 xw.length n1) := by rw [hw2]; simp
      have p2 : w2.cell? ⟨wo.heap.size + 1, 3, none⟩ = some (.slice B2 yw.length n2) := by rw [hw2]; simp
      have P := Lib.hid (And.intro p1 p2)
      have BW2 := Lib.hid (show Below wo.heap.size wo w2 by rw [hw2]; exact B1'.out _ _)
      have Z2 := Lib.hid z2
      have HW2 := Lib.hid hw2
      clear p1 p2 z2 hw2
      go_wp2_with fail
      go_loopg [8] xw.length (fun gg s wr => EqHead strB xw yw w2 gg s wr)
      case atStart => exact ⟨0, Nat.zero_le _, by omega, rfl, by rw [HW2.out]; exact Below.refl _ _, SoFar.zero _ _ _⟩
      case round =>
        obtain ⟨j, hj, hgj, rfl, BR, AR⟩ := hrel
        have r1 := (BR.cell (p := ⟨wo.heap.size, 3, none⟩) (by have := Z2.out; show wo.heap.size < _; omega)).trans P.out.1
        have r2 := (BR.cell (p := ⟨wo.heap.size + 1, 3, none⟩) (by have := Z2.out; show wo.heap.size + 1 < _; omega)).trans P.out.2
        have BR2 := Lib.hid (below_next BW2.out (by have := Z2.out; omega) BR)
        have hsr : wo.heap.size + 2 ≤ wr.heap.size := by have := BR.size; have := Z2.out; omega
        have BT := Lib.hid (below_next BW.out (by have := BW.out.size; omega) BR2.out)
        have BR1 := Lib.hid BR
        clear BR
        have AR := Lib.hid AR
        by_cases hjl : j < xw.length
        · have hjz : (j : Int) < (xw.length : Int) := by omega
          have hjy : (j : Int) < (yw.length : Int) := by have := K4.out; omega
          have hjd : decide (j < xw.length) = true := decide_eq_true hjl
          obtain ⟨s, hsk⟩ : ∃ s, xw[j]? = some s := ⟨_, List.getElem?_eq_getElem hjl⟩
          obtain ⟨r, hrk⟩ : ∃ r, yw[j]? = some r := ⟨_, List.getElem?_eq_getElem (by omega)⟩
          obtain ⟨e1, o1, rfl, _, _, cs⟩ := (HS.out.keep (Kept.of_below BR2.out (by omega))).at hjl
          obtain ⟨e2, o2, rfl, _, _, cr⟩ := (HS'.out.keep (Kept.of_below BR2.out (by omega))).at (k := j) (by have := K4.out; show j < yw.length; omega)
          rw [show xw.getD j ByteArray.empty = s from by simp [List.getD_eq_getElem?_getD, hsk]] at cs
          rw [show yw.getD j ByteArray.empty = r from by simp [List.getD_eq_getElem?_getD, hrk]] at cr
          have HSK := Lib.hid hsk
          have HRK := Lib.hid hrk
          clear hsk hrk
          cases hq : s.toList == r.toList
          · go_wp2_with fail
            go_quiet (fail)
            go_wp2_with fail
            go_ret
            exact ⟨ret_bool (N.out (inB_item (allB_miss HSK.out HRK.out hq))).symm, below_drewN (below_next BV.out (by omega) BR2.out) _⟩
          · go_wp2_with fail
            go_quiet (fail)
            go_wp2_with fail
            go_roundg (xw.length - (j + 1))
            case measure => omega
            case rel => exact ⟨j + 1, by omega, by omega, by go_num, below_drewN BR1.out _, AR.out.step HSK.out HRK.out hq⟩
        · have hjz : ¬ (j : Int) < (xw.length : Int) := by omega
          go_wp2_with fail
          go_roundg (ti.length - (kk + 1))
          case measure => omega
          case rel => exact ⟨kk + 1, by omega, by omega, by go_num, BT.out, A0.out.step HXK.out HYK.out (Y.out (AR.out.full (by omega) K4.out))⟩
    · have hltz : ¬ (kk : Int) < (ti.length : Int) := by omega
      have FI := Lib.hid (F.out (A0.out.full (by omega) E3.out))
      obtain ⟨wo, hwo⟩ : ∃ wo, wo = wr := ⟨_, rfl⟩
      subst hwo
      go_wp2_with fail
      go_loopg [9] to.length (fun gg s wr => EqHead outB to uu wo gg s wr)
      case atStart => exact ⟨0, Nat.zero_le _, by omega, rfl, Below.refl _ _, SoFar.zero _ _ _⟩
      case round =>
        obtain ⟨j, hj, hgj, rfl, BR, AR⟩ := hrel
        have r1 := (BR.cell (p := ⟨w.heap.size, 2, none⟩) (by show w.heap.size < _; omega)).trans f2
        have r2 := (BR.cell (p := ⟨w.heap.size + 1, 2, none⟩) (by show w.heap.size + 1 < _; omega)).trans f4
        have BT := Lib.hid (below_next BV.out (by omega) BR)
        have BR := Lib.hid BR
        have AR := Lib.hid AR
        by_cases hjl : j < to.length
        · have hjz : (j : Int) < (to.length : Int) := by omega
          have hjy : (j : Int) < (uu.length : Int) := by have := E4.out; omega
          have hjd : decide (j < to.length) = true := decide_eq_true hjl
          obtain ⟨x, hxk⟩ : ∃ x, to[j]? = some x := ⟨_, List.getElem?_eq_getElem hjl⟩
          obtain ⟨y, hyk⟩ : ∃ y, uu[j]? = some y := ⟨_, List.getElem?_eq_getElem (by have := E4.out; omega)⟩
          obtain ⟨e1, o1, rfl, _, _, cs, cs'⟩ := (HT.out.2.keep (Kept.of_below BT.out (by omega))).at hxk
          obtain ⟨e2, o2, rfl, _, _, cr, cr'⟩ := (HU.out.2.keep (Kept.of_below BT.out (by omega))).at hyk
          have N := Lib.hid (fun (h : outB x y = false) => txB_out (t := ⟨tv, ti, to, tl⟩) (u := ⟨uv, us, uu, ul⟩) (allB_miss hxk hyk h))
          have ST := Lib.hid (fun (h : outB x y = true) => AR.out.step hxk hyk h)
          clear hxk hyk
          cases k1 : x.val == y.val
          · have k1' : (x.val != y.val) = true := by simpa using k1
            go_wp2_with fail
            go_quiet (fail)
            go_wp2_with fail
            go_ret
            exact ⟨ret_bool (N.out (by simp [outB, k1])).symm, below_drewN BT.out _⟩
          have k1' : (x.val != y.val) = false := by simpa using k1
          cases k2 : x.scr.toList == y.scr.toList
          · go_wp2_with fail
            go_quiet (fail)
            go_wp2_with fail
            go_ret
            exact ⟨ret_bool (N.out (by simp [outB, strB, k2])).symm, below_drewN BT.out _⟩
          · go_wp2_with fail
            go_quiet (fail)
            go_wp2_with fail
            go_roundg (to.length - (j + 1))
            case measure => omega
            case rel => exact ⟨j + 1, by omega, by omega, by go_num, below_drewN BR.out _, ST.out (by simp [outB, strB, k1, k2])⟩
        · have hjz : ¬ (j : Int) < (to.length : Int) := by omega
          go_wp2_with fail
          go_ret
          exact ⟨ret_bool (by rw [FI.out, AR.out.full (by omega) E4.out]), BT.out⟩

end Go.Proofs.Ytkdkkndccjddnaa
