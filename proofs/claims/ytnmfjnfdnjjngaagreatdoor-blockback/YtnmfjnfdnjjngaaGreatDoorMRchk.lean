/-
  May a transaction be: the document's Check, walked.
-/
import Derived.Test.YtnmfjnfdnjjngaaGreatDoorMRlong
namespace Go.Proofs.YtnmfjnfdnjjngaaGreatDoor
open Go.RowKit
set_option maxRecDepth 100000

set_option maxHeartbeats 6000000 in
set_option maxRecDepth 100000 in
theorem rcheck_any (t : TxD) (vi vo : Value) (w : World) (lo hi : Nat) (ht : TxAt w lo hi vi vo t) (hhi : hi ≤ w.heap.size) (hok : t.Ok) :
    Calls Tryz.prog 52 #[.agg #[.int .u32 t.ver, vi, vo, .int .u32 t.lock]] w fun e w' => e = .returned (.int .i64 (checkD t)) ∧ Below w.heap.size w w' := by
  obtain ⟨tv, ti, tz, tl⟩ := t
  obtain ⟨A1, m1, rfl⟩ := ht.1.form
  obtain ⟨A2, m2, rfl⟩ := ht.2.form
  obtain ⟨w1, hw1⟩ : ∃ w1, w1 = w.alloc (.cells #[.int .u32 tv, .slice A1 ti.length m1, .slice A2 tz.length m2, .int .u32 tl] 51) := ⟨_, rfl⟩
  have hT : TxAt w1 lo hi (.slice A1 ti.length m1) (.slice A2 tz.length m2) ⟨tv, ti, tz, tl⟩ := by rw [hw1]; exact ht.keep (Kept.alloc hhi _)
  have bw : Below w.heap.size w w1 := by rw [hw1]; exact (Below.refl _ _).alloc (Nat.le_refl _) _
  have z1 : w1.heap.size = w.heap.size + 1 := by rw [hw1]; simp
  have hbx : Boxed w1 w.heap.size (.int .u32 tv) (.slice A1 ti.length m1) (.slice A2 tz.length m2) (.int .u32 tl) := by rw [hw1]; exact Boxed.new _ _ _ _ _ _
  have HBX := Lib.hid hbx
  obtain ⟨a0, a1, a2, a3⟩ := hbx
  have HT := Lib.hid hT
  have BW := Lib.hid bw
  have HW := Lib.hid hw1
  have HO := Lib.hid hok
  have Z1 := Lib.hid z1
  have l1 := hok.1
  have l2 := hok.2.1
  simp only at l1 l2 ⊢
  have C0 := Lib.hid (checkD_count (t := ⟨tv, ti, tz, tl⟩))
  have C1 := Lib.hid (checkD_long (t := ⟨tv, ti, tz, tl⟩))
  have C2 := Lib.hid (checkD_form (t := ⟨tv, ti, tz, tl⟩))
  have C3 := Lib.hid (checkD_twice (t := ⟨tv, ti, tz, tl⟩))
  have C4 := Lib.hid (checkD_range (t := ⟨tv, ti, tz, tl⟩))
  have N1 := Lib.hid (countsB_ins (t := ⟨tv, ti, tz, tl⟩))
  have N2 := Lib.hid (countsB_outs (t := ⟨tv, ti, tz, tl⟩))
  have N3 := Lib.hid (countsB_items (t := ⟨tv, ti, tz, tl⟩))
  clear hT bw hw1 hok ht z1
  have fin : ∀ e, checkD ⟨tv, ti, tz, tl⟩ = e → Ending.returned (.int .i64 e) = .returned (.int .i64 (checkD ⟨tv, ti, tz, tl⟩)) := fun e h => ret_int h.symm
  have FIN := Lib.hid fin
  clear fin
  rcases (show ti.length < 1 ∨ 256 < ti.length ∨ (1 ≤ ti.length ∧ ti.length ≤ 256) from by omega) with h1 | h1 | ⟨h1, h1'⟩
  · have e1 : (ti.length : Int) < 1 := by omega
    go_enter Tryz.func52, Tryz.ntmps52
    go_wp2_with fail
    go_ret
    exact ⟨FIN.out _ (C0.out (N1.out (inR_no1 h1))), (Below.refl _ _).alloc (Nat.le_refl _) _⟩
  · have e1 : ¬ (ti.length : Int) < 1 := by omega
    have e2 : (256 : Int) < (ti.length : Int) := by omega
    go_enter Tryz.func52, Tryz.ntmps52
    go_wp2_with fail
    go_ret
    exact ⟨FIN.out _ (C0.out (N1.out (inR_no2 h1))), (Below.refl _ _).alloc (Nat.le_refl _) _⟩
  have e1 : ¬ (ti.length : Int) < 1 := by omega
  have e2 : ¬ (256 : Int) < (ti.length : Int) := by omega
  rcases (show tz.length < 1 ∨ 256 < tz.length ∨ (1 ≤ tz.length ∧ tz.length ≤ 256) from by omega) with h2 | h2 | ⟨h2, h2'⟩
  · have e3 : (tz.length : Int) < 1 := by omega
    go_enter Tryz.func52, Tryz.ntmps52
    go_wp2_with fail
    go_ret
    exact ⟨FIN.out _ (C0.out (N2.out (inR_no1 h2))), (Below.refl _ _).alloc (Nat.le_refl _) _⟩
  · have e3 : ¬ (tz.length : Int) < 1 := by omega
    have e4 : (256 : Int) < (tz.length : Int) := by omega
    go_enter Tryz.func52, Tryz.ntmps52
    go_wp2_with fail
    go_ret
    exact ⟨FIN.out _ (C0.out (N2.out (inR_no2 h2))), (Below.refl _ _).alloc (Nat.le_refl _) _⟩
  have e3 : ¬ (tz.length : Int) < 1 := by omega
  have e4 : ¬ (256 : Int) < (tz.length : Int) := by omega
  have NI := Lib.hid (N3.out (inR_yes h1 h1') (inR_yes h2 h2'))
  go_enter Tryz.func52, Tryz.ntmps52
  go_wp2_with fail
  go_loopg [3] ti.length (fun gg s wr => ∃ k : Nat, k ≤ ti.length ∧ ti.length - k ≤ gg ∧ s = .int .i64 k ∧ Hid (w1 = wr) ∧ Hid (NoneYet (fun x : InD => manyB x.wit.length) ti k))
  case atStart => exact ⟨0, Nat.zero_le _, by omega, rfl, HW, NoneYet.zero _ _⟩
  case round =>
    obtain ⟨k, hk, hg, rfl, HWR, HN⟩ := hrel
    have hw := HWR.out
    subst hw
    by_cases hlt : k < ti.length
    · have k1 : (k : Int) < (ti.length : Int) := by omega
      have k2 : decide (k < ti.length) = true := decide_eq_true hlt
      obtain ⟨x, hx⟩ : ∃ x, ti[k]? = some x := ⟨_, List.getElem?_eq_getElem hlt⟩
      obtain ⟨b, off, rfl, _, _, c0, c1, c2, v, c3, hs⟩ := HT.out.1.at hx
      obtain ⟨B1, n1, rfl⟩ := hs.form
      have HX := Lib.hid hx
      clear hx hs
      by_cases hm : 4 < x.wit.length
      · have s1 : (4 : Int) < (x.wit.length : Int) := by omega
        go_wp2_with fail
        go_ret
        exact ⟨FIN.out _ (C0.out (by rw [NI.out, any_hit HX.out (show manyB x.wit.length = true from decide_eq_true hm)]; rfl)), BW.out⟩
      · have s1 : ¬ (4 : Int) < (x.wit.length : Int) := by omega
        go_wp2_with fail
        go_roundg (ti.length - (k + 1))
        case measure => omega
        case rel => exact ⟨k + 1, by omega, by omega, by go_num, rfl, HN.out.step HX.out (decide_eq_false hm)⟩
    · have k1 : ¬ (k : Int) < (ti.length : Int) := by omega
      have CB := Lib.hid (show countsB ⟨tv, ti, tz, tl⟩ = true from by rw [NI.out, any_miss (n := k) (by omega) HN.out]; rfl)
      go_wp2_with fail
      refine (rlong_any ⟨tv, ti, tz, tl⟩ _ _ _ lo hi HT.out (by have := Z1.out; omega) HO.out).mono ?_
      rintro e w2 ⟨rfl, hb2⟩
      have X2 := Lib.hid (HBX.out.below (by have := Z1.out; omega) hb2)
      have T2 := Lib.hid (HT.out.keep (Kept.of_below hb2 (by have := Z1.out; omega)))
      have K2 := Lib.hid (below_next BW.out (by have := Z1.out; omega) hb2)
      have z2 : w.heap.size + 1 ≤ w2.heap.size := by have := hb2.size; have := Z1.out; omega
      clear hb2 a0 a1 a2 a3
      obtain ⟨a0, a1, a2, a3⟩ := X2.out
      cases hlg : longB ⟨tv, ti, tz, tl⟩
      case true =>
        go_wp2_with fail
        go_ret
        exact ⟨FIN.out _ (C1.out CB.out hlg), K2.out⟩
      go_wp2_with fail
      go_loopg [5, 6] ti.length (fun gg s _ wr => ∃ k : Nat, k ≤ ti.length ∧ ti.length - k ≤ gg ∧ s = .int .i64 k ∧ Hid (Below w2.heap.size w2 wr) ∧ Hid (NoneYet (fun x : InD => amissB (ti.length == 1) x.id x.ix) ti k))
      case atStart => exact ⟨0, Nat.zero_le _, by omega, rfl, Below.refl _ _, NoneYet.zero _ _⟩
      case round =>
        obtain ⟨j, hj, hgj, rfl, HB, HNJ⟩ := hrel
        clear a0 a1 a2 a3
        have hzr := HB.out.size
        have X3 := Lib.hid (X2.out.below (by omega) HB.out)
        have T3 := Lib.hid (T2.out.keep (Kept.of_below HB.out (by omega)))
        have K3 := Lib.hid (below_next K2.out (by omega) HB.out)
        obtain ⟨a0, a1, a2, a3⟩ := X3.out
        by_cases hjl : j < ti.length
        · have j1 : (j : Int) < (ti.length : Int) := by omega
          have j2 : decide (j < ti.length) = true := decide_eq_true hjl
          obtain ⟨x, hx⟩ : ∃ x, ti[j]? = some x := ⟨_, List.getElem?_eq_getElem hjl⟩
          obtain ⟨b, off, rfl, _, hbh, c0, c1, c2, v, c3, hs⟩ := T3.out.1.at hx
          have HX := Lib.hid hx
          have hbw : b < wr.heap.size := by omega
          clear hx hs
          go_wp2_with fail
          refine (rbase_any _ _ _).mono ?_
          rintro e w4 ⟨rfl, hb4⟩
          have X4 := Lib.hid (X3.out.below (by omega) hb4)
          have c0' := (hb4.cell (p := ⟨b, off + j * 4, none⟩) hbw).trans c0
          have B4 := Lib.hid (below_next HB.out hzr hb4)
          have K4 := Lib.hid (below_next K3.out (by omega) hb4)
          clear hb4 a0 a1 a2 a3 c0 c1 c2 c3
          obtain ⟨a0, a1, a2, a3⟩ := X4.out
          by_cases hs : x.id.size = 32
          · have s1 : ((x.id.size : Int) != 32) = false := by rw [bne_eq_false_iff_eq]; omega
            cases hbb : baseB x.id x.ix
            · have hno : amissB (ti.length == 1) x.id x.ix = false := by
                cases (ti.length == 1)
                · rw [amiss_base hs, hbb]
                · exact amiss_alone hs
              have HNO := Lib.hid hno
              have HSS := Lib.hid hs
              clear hno hs
              go_wp2_with fail
              go_roundg (ti.length - (j + 1))
              case measure => omega
              case rel => exact ⟨j + 1, by omega, by omega, by go_num, B4.out, HNJ.out.step HX.out HNO.out⟩
            · by_cases h11 : 1 < ti.length
              · have s2 : (1 : Int) < (ti.length : Int) := by omega
                have hyes : amissB (ti.length == 1) x.id x.ix = true := by
                  rw [show (ti.length == 1) = false from by simp; omega, amiss_base hs, hbb]
                have HY := Lib.hid hyes
                have HSS := Lib.hid hs
                clear hyes hs
                go_wp2_with fail
                go_ret
                exact ⟨FIN.out _ (C2.out CB.out hlg (by unfold pointsB; rw [any_hit (p := fun x : InD => amissB (ti.length == 1) x.id x.ix) HX.out HY.out]; rfl)), K4.out⟩
              · have s2 : ¬ (1 : Int) < (ti.length : Int) := by omega
                have hno : amissB (ti.length == 1) x.id x.ix = false := by
                  rw [show (ti.length == 1) = true from by simp; omega]
                  exact amiss_alone hs
                have HNO := Lib.hid hno
                have HSS := Lib.hid hs
                clear hno hs
                go_wp2_with fail
                go_roundg (ti.length - (j + 1))
                case measure => omega
                case rel => exact ⟨j + 1, by omega, by omega, by go_num, B4.out, HNJ.out.step HX.out HNO.out⟩
          · have s1 : ((x.id.size : Int) != 32) = true := by rw [bne_iff_ne]; omega
            have HY := Lib.hid (amiss_size (al := ti.length == 1) (i := x.ix) hs)
            have HSS := Lib.hid hs
            clear hs
            go_wp2_with fail
            go_ret
            exact ⟨FIN.out _ (C2.out CB.out hlg (by unfold pointsB; rw [any_hit (p := fun x : InD => amissB (ti.length == 1) x.id x.ix) HX.out HY.out]; rfl)), K4.out⟩
        · have j1 : ¬ (j : Int) < (ti.length : Int) := by omega
          have PB := Lib.hid (show pointsB ti = true from by unfold pointsB; rw [any_miss (n := j) (by omega) HNJ.out]; rfl)
          obtain ⟨wo, hwo⟩ : ∃ wo, wo = wr := ⟨_, rfl⟩
          subst hwo
          go_wp2_with fail
          go_loopg [7, 8] ti.length (fun gg s _ wr => ∃ k : Nat, k ≤ ti.length ∧ ti.length - k ≤ gg ∧ s = .int .i64 k ∧ Hid (Below wo.heap.size wo wr) ∧ Hid (NoPair ti k))
          case atStart => exact ⟨0, Nat.zero_le _, by omega, rfl, Below.refl _ _, NoPair.zero _⟩
          case round =>
            obtain ⟨i, hi', hgi, rfl, HBI, HNI⟩ := hrel
            clear a0 a1 a2 a3
            have hzi := HBI.out.size
            have X5 := Lib.hid (X3.out.below (by omega) HBI.out)
            have T5 := Lib.hid (T3.out.keep (Kept.of_below HBI.out (by omega)))
            have K5 := Lib.hid (below_next K3.out (by omega) HBI.out)
            obtain ⟨a0, a1, a2, a3⟩ := X5.out
            by_cases hil : i < ti.length
            · have i1 : (i : Int) < (ti.length : Int) := by omega
              have i2 : decide (i < ti.length) = true := decide_eq_true hil
              obtain ⟨x, hx⟩ : ∃ x, ti[i]? = some x := ⟨_, List.getElem?_eq_getElem hil⟩
              have HX := Lib.hid hx
              clear hx
              obtain ⟨wp, hwp⟩ : ∃ wp, wp = wr := ⟨_, rfl⟩
              subst hwp
              go_wp2_with fail
              go_loopg [8] i (fun gg s wr => ∃ k : Nat, k ≤ i ∧ i - k ≤ gg ∧ s = .int .i64 k ∧ Hid (Below wp.heap.size wp wr) ∧ Hid (NoneOf ti x k))
              case atStart => exact ⟨0, Nat.zero_le _, by omega, rfl, Below.refl _ _, NoneOf.zero _ _⟩
              case round =>
                obtain ⟨k, hk', hgk, rfl, HBK, HNK⟩ := hrel
                clear a0 a1 a2 a3
                have hzk := HBK.out.size
                have X6 := Lib.hid (X5.out.below (by omega) HBK.out)
                have T6 := Lib.hid (T5.out.keep (Kept.of_below HBK.out (by omega)))
                have K6 := Lib.hid (below_next K5.out (by omega) HBK.out)
                have BI6 := Lib.hid (below_next HBI.out hzi HBK.out)
                obtain ⟨a0, a1, a2, a3⟩ := X6.out
                by_cases hkl : k < i
                · have k1 : (k : Int) < (i : Int) := by omega
                  have k2 : decide (k < i) = true := decide_eq_true hkl
                  have k3 : (k : Int) < (ti.length : Int) := by omega
                  obtain ⟨y, hy⟩ : ∃ y, ti[k]? = some y := ⟨_, List.getElem?_eq_getElem (by omega)⟩
                  obtain ⟨b, off, rfl, _, hbh, c0, c1, c2, v, c3, hs⟩ := T6.out.1.at HX.out
                  obtain ⟨b', off', hA, _, _, d0, d1, d2, v', d3, hs'⟩ := T6.out.1.at hy
                  injection hA with hA
                  injection hA with hA1 hA2
                  subst hA1
                  subst hA2
                  have HY := Lib.hid hy
                  have hbw : b < wr.heap.size := by omega
                  clear hy hs hs'
                  cases q1 : (x.id.toList == y.id.toList)
                  · have hno := Lib.hid (show ptB x.id x.ix y.id y.ix = false from by simp [ptB, q1])
                    go_wp2_with fail
                    go_quiet (fail)
                    go_wp2_with fail
                    go_roundg (i - (k + 1))
                    case measure => omega
                    case rel => exact ⟨k + 1, by omega, by omega, by go_num, below_drewN HBK.out _, HNK.out.step HY.out hno.out⟩
                  · cases q2 : (x.ix == y.ix)
                    · have hno := Lib.hid (show ptB x.id x.ix y.id y.ix = false from by simp [ptB, q2])
                      go_wp2_with fail
                      go_quiet (fail)
                      go_wp2_with fail
                      go_roundg (i - (k + 1))
                      case measure => omega
                      case rel => exact ⟨k + 1, by omega, by omega, by go_num, below_drewN HBK.out _, HNK.out.step HY.out hno.out⟩
                    · have hyes := Lib.hid (twice_yes hkl HX.out HY.out (show ptB x.id x.ix y.id y.ix = true from by simp [ptB, q1, q2]))
                      go_wp2_with fail
                      go_quiet (fail)
                      go_wp2_with fail
                      go_ret
                      exact ⟨FIN.out _ (C3.out CB.out hlg PB.out hyes.out), below_drewN K6.out _⟩
                · have k1 : ¬ (k : Int) < (i : Int) := by omega
                  obtain rfl : k = i := by omega
                  go_wp2_with fail
                  go_roundg (ti.length - (k + 1))
                  case measure => omega
                  case rel => exact ⟨k + 1, by omega, by omega, by go_num, BI6.out, HNI.out.step HX.out HNK.out⟩
            · have i1 : ¬ (i : Int) < (ti.length : Int) := by omega
              have TB := Lib.hid (HNI.out.twice (by omega))
              go_wp2_with fail
              refine (rtotal_any ⟨tv, ti, tz, tl⟩ _ _ _ lo hi T5.out.2 (by omega) l2).mono ?_
              rintro e w7 ⟨rfl, hb7⟩
              go_wp2_with fail
              go_ret
              exact ⟨FIN.out _ (C4.out CB.out hlg PB.out TB.out), below_next K5.out (by omega) hb7⟩

end Go.Proofs.YtnmfjnfdnjjngaaGreatDoor
