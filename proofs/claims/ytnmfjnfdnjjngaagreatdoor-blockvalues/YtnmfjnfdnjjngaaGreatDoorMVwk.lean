/-
  BlockValues: the walk.
-/
import Derived.Test.YtnmfjnfdnjjngaaGreatDoorMBst
import Derived.Deep.CutBlock
namespace Go.Proofs.YtnmfjnfdnjjngaaGreatDoor
open Go.RowKit
set_option maxRecDepth 100000

theorem grn_take {ts : List TxD} {t : TxD} (h : ts[0]? = some t) : grn1 ts = grnD t := by
  match ts, h with
  | _ :: _, h => simp at h; subst h; rfl

set_option maxHeartbeats 4000000 in
theorem values_law (zss : List (List SmD)) (A0 : Option Addr) (c0 : Nat) (w : World) (hd : Dr w) (hz : Bks w 0 w.heap.size (.slice A0 zss.length c0) zss) (ok : BksOk zss) :
    Calls Tryz.prog 7 #[.slice A0 zss.length c0] w fun e w' => e = .returned (.bool true) ∧ Below w.heap.size w w' := by
  have HD := Lib.hid hd
  have BK := Lib.hid (fun V (hV : Below w.heap.size w V) => hz.keep (Kept.of_below hV (Nat.le_refl _)))
  have OK := Lib.hid ok
  have hcap := hz.cap
  have CN := Lib.hid (Co.new_any w)
  obtain ⟨ns, hns⟩ : ∃ n, zss.length = n := ⟨_, rfl⟩
  rw [hns] at BK hcap ⊢
  obtain ⟨n, hn⟩ : ∃ n, min ns 6 = n := ⟨_, rfl⟩
  have hmn : ∀ w, (Builtin.min_ #[3, 3] 3 #[.int .i64 (ns : Int), .int .i64 6]).run Tryz.prog w = .ok (.int .i64 (n : Nat)) w := by rw [← hn]; exact fun w => run_min_nat 6 #[3, 3] 3 ns w
  have hn1 : n ≤ ns := by omega
  have hn6 : n ≤ 6 := by omega
  have hnc : n ≤ c0 := by omega
  have hm0 : ns ≤ maxLen := by have := OK.out.1; omega
  have z1 : (n : Int) ≤ (c0 : Int) := by omega
  have z2 : ¬ (n : Int) < 0 := by omega
  have HN := Lib.hid hns
  have NN := neq_nilnil
  clear hd hz ok hns hn
  go_enter Tryz.func7, Tryz.ntmps7
  go_wp2_with fail
  refine CN.out.mono ?_
  rintro e w1 ⟨rfl, s1, b1, zz1⟩
  have S1 := Lib.hid (BSt.start HD.out s1 b1 zz1)
  obtain ⟨a, ha⟩ : ∃ a, a = w.heap.size + 1 := ⟨_, rfl⟩
  obtain ⟨lo, hlo⟩ : ∃ a, a = w.heap.size + 2 := ⟨_, rfl⟩
  rw [← ha, ← hlo] at S1
  rw [← ha]
  clear s1 b1 zz1 CN ha hlo
  go_wp2_with fail
  go_loopg [4, 19] n (fun gg s4 s19 wr => ∃ (k : Nat) (m : List Co.EnD) (Am : Option Addr) (cm : Nat), k ≤ n ∧ n - k ≤ gg ∧ s19 = .int .i64 (k : Int) ∧ s4 = .slice Am m.length cm ∧ Hid (BSt w a w.heap.size lo m (.slice Am m.length cm) (20 * k) wr))
  case atStart => exact ⟨0, [], none, 0, Nat.zero_le _, by omega, rfl, rfl, S1⟩
  case round =>
    obtain ⟨k, m, Am, cm, hk, hgk, rfl, rfl, HS⟩ := hrel
    by_cases hlt : k < n
    · have j1 : (k : Int) < (n : Int) := by omega
      have j2 : decide (k < n) = true := decide_eq_true hlt
      have j3 : ¬ (k : Int) < 0 := by omega
      obtain ⟨zs, hzk⟩ : ∃ z, zss[k]? = some z := ⟨_, List.getElem?_eq_getElem (by rw [HN.out]; omega)⟩
      obtain ⟨bz, oz, rfl, _, gz, vz, c1, hs⟩ := (BK.out wr HS.out.bel).at hzk
      rw [Nat.mul_one] at c1
      obtain ⟨As, cs, rfl⟩ := hs.form
      obtain ⟨h, hh⟩ : ∃ h : Int, (k : Int) + 1 = h := ⟨_, rfl⟩
      have h1 : 0 ≤ h := by omega
      have h2 : h ≤ 1000000 := by omega
      have wk : IntKind.i64.wrap ((k : Int) + 1) = h := by rw [IntWalk.i64_in _ (by omega)]; exact hh
      have CM := Lib.hid (HS.out.made (by omega) (hs.wide (Nat.le_refl _) HS.out.bel.size) (OK.out.2 zs (List.mem_of_getElem? hzk)) h1 h2)
      obtain ⟨ml, hml⟩ : ∃ x, m.length = x := ⟨_, rfl⟩
      obtain ⟨zl, hzl⟩ : ∃ x, zs.length = x := ⟨_, rfl⟩
      rw [hml, hzl] at CM
      rw [hml]
      rw [hzl] at c1
      have HML := Lib.hid hml
      have HH := Lib.hid hh
      clear hs hzk hml hzl hh
      go_wp2_with fail
      refine CM.out.mono ?_
      rintro e w2 ⟨At, ct, ts, rfl, HT, HB2⟩
      have S2 := Lib.hid (HS.out.below HB2.out)
      have CT := Lib.hid (Co.total_any a w.heap.size m w2 S2.out.set)
      have CA := Lib.hid (S2.out.apply (by omega) HT.out HS.out.le h)
      have KP := Lib.hid (S2.out.keeps HT.out h)
      have BT := Lib.hid (fun hc => blk_tot (h := h) HT.out.2.1 S2.out.set.good S2.out.arg hc)
      obtain ⟨B, hB⟩ : ∃ B, blkA m ts h = B := ⟨_, rfl⟩
      rw [hB] at CA KP BT
      have HBB := Lib.hid hB
      obtain ⟨tl, htl⟩ : ∃ x, ts.length = x := ⟨_, rfl⟩
      obtain ⟨tm, htm⟩ : ∃ x, Co.tot m = x := ⟨_, rfl⟩
      rw [htl] at CA
      rw [htl]
      rw [htm] at CT BT
      have HTL := Lib.hid htl
      have TM := Lib.hid (show 0 ≤ tm ∧ tm ≤ 2100000000000000 from by rw [← htm]; exact ⟨S2.out.set.good.zero, S2.out.set.good.most⟩)
      clear hB htl htm c1 CM
      go_wp2_with fail
      refine CT.out.mono ?_
      rintro e wx ⟨rfl, hwx⟩
      subst wx
      go_wp2_with fail
      refine CA.out.mono ?_
      rintro e w3 (⟨As', cs', Am', cm', hc, rfl, HE, HSt, HTn⟩ | ⟨v, hc, rfl, HE, HSt, HTn⟩)
      · obtain ⟨p1, hp1⟩ : ∃ x, (Co.lessL m B.l).length = x := ⟨_, rfl⟩
        obtain ⟨p2, hp2⟩ : ∃ x, (Co.lessL B.l m).length = x := ⟨_, rfl⟩
        rw [hp1, hp2]
        obtain ⟨w4, hw4⟩ : ∃ w4, w4 = w3.alloc (.cells #[.slice As' p1 cs', .slice Am' p2 cm'] 31) := ⟨_, rfl⟩
        have b4 : Below w3.heap.size w3 w4 := by rw [hw4]; exact (Below.refl _ _).alloc (Nat.le_refl _) _
        have T4 := Lib.hid (HTn.out.next b4)
        have HT4 := Lib.hid (HT.out.turn T4.out (S2.out.lts HS.out.le))
        have SS4 := Lib.hid (HSt.out.below b4 HSt.out.lta HSt.out.ltb)
        have CR := Lib.hid (S2.out.rap T4.out (by omega) HT4.out h)
        rw [HBB.out, HML.out, HTL.out] at CR
        have W4 := Lib.hid (show w3.alloc (.cells #[.slice As' p1 cs', .slice Am' p2 cm'] 31) = w4 from hw4.symm)
        clear hp1 hp2 hw4 b4
        go_upto_region 9 with (fail)
        rw [W4.out]
        go_wp2_with fail
        refine CR.out.mono ?_
        rintro e w5 ⟨A5, c5, rfl, HE5, HB5⟩
        have S5 := Lib.hid (S2.out.next SS4.out T4.out HE5.out HB5.out KP.out.2.1 KP.out.2.2)
        have HT5 := Lib.hid (HT4.out.below HB5.out)
        obtain ⟨l5, hl5⟩ : ∃ x, B.l.length = x := ⟨_, rfl⟩
        obtain ⟨o1, ho1⟩ : ∃ x, B.code = x := ⟨_, rfl⟩
        obtain ⟨o2, ho2⟩ : ∃ x, B.at_ = x := ⟨_, rfl⟩
        obtain ⟨o3, ho3⟩ : ∃ x, B.inn = x := ⟨_, rfl⟩
        rw [hl5, ho1, ho2, ho3]
        have HL5 := Lib.hid hl5
        clear hl5 ho1 ho2 ho3
        by_cases ht0 : tl = 0
        · have e0 : ts = [] := List.eq_nil_of_length_eq_zero (by rw [HTL.out]; exact ht0)
          have GG : grn1 ts = 0 := by rw [e0]; rfl
          have GP : (0 : Int) ≤ 0 ∧ (0 : Int) ≤ 2100000000000000 := by decide
          have S5X := S5
          subst ht0
          have CT5 := Lib.hid (Co.total_any a w.heap.size B.l w5 S5X.out.set)
          obtain ⟨t5, ht5⟩ : ∃ x, Co.tot B.l = x := ⟨_, rfl⟩
          rw [ht5] at CT5
          have hle : t5 ≤ tm + 0 := by have := BT.out hc; rw [ht5] at this; have hg5 := GG; omega
          have hg0 := GP
          have wg : IntKind.i64.wrap (tm + 0) = tm + 0 := IntWalk.i64_in _ (by have := TM.out; omega)
          have wt : IntKind.i64.wrap tm = tm := IntWalk.i64_in _ (by have := TM.out; omega)
          have q5 : ¬ t5 > tm + 0 := by omega
          have q6 : decide (t5 > tm + 0) = false := decide_eq_false q5
          have q7 : ¬ tm + 0 < t5 := by omega
          have q8 : ¬ t5 > tm := by omega
          have q9 : decide (t5 > tm) = false := decide_eq_false q8
          have q10 : ¬ tm < t5 := by omega
          clear ht5 hle hg0
          go_wp2_with fail
          refine CT5.out.mono ?_
          rintro e wx ⟨rfl, hwx⟩
          subst wx
          go_wp2_with fail
          go_roundg (n - (k + 1))
          case measure => omega
          case rel => exact ⟨k + 1, B.l, A5, c5, by omega, by omega, by rw [show ((k + 1 : Nat) : Int) = h from by have := HH.out; omega], by rw [HL5.out], Lib.hid (S5X.out.more (by omega))⟩
        · have e1 : (tl : Int) > 0 := by omega
          have e2 : 0 < tl := by omega
          have e3 : decide (0 < tl) = true := decide_eq_true e2
          have e4 : decide ((tl : Int) > 0) = true := decide_eq_true e1
          have e5 : (0 : Int) < (tl : Int) := by omega
          obtain ⟨t, hx0⟩ : ∃ x, ts[0]? = some x := ⟨_, List.getElem?_eq_getElem (by rw [HTL.out]; exact e2)⟩
          have GT := Lib.hid (grn_take hx0)
          obtain ⟨bi, oi, rfl, g1, g2, c0, ⟨vi, vo, c1, c2, htx⟩, c3⟩ := HT5.out.1.at hx0
          rw [Nat.zero_mul, Nat.add_zero] at c0 c1 c2 c3
          have hok := HT5.out.2.1 t (List.mem_of_getElem? hx0)
          obtain ⟨A1, m1, rfl⟩ := htx.1.form
          obtain ⟨A2, m2, rfl⟩ := htx.2.form
          have CB := Lib.hid (base_any t _ (.slice A2 t.outs.length m2) w5 _ _ htx.1 (Nat.le_refl _))
          have CTT := Lib.hid (fun V (hV : Below w5.heap.size w5 V) => total_any t (.slice A1 t.ins.length m1) _ V _ _ (htx.2.keep (Kept.of_below hV (Nat.le_refl _))) hV.size hok.2.1)
          have TF := Lib.hid (total_fits t.outs)
          have GD := Lib.hid (show grnD t = if isBase t.ins = true then (totalD t.outs).1 else 0 from rfl)
          obtain ⟨i1, hi1⟩ : ∃ i, t.ins.length = i := ⟨_, rfl⟩
          obtain ⟨o4, ho4⟩ : ∃ i, t.outs.length = i := ⟨_, rfl⟩
          obtain ⟨gr, hgr⟩ : ∃ i, (totalD t.outs).1 = i := ⟨_, rfl⟩
          obtain ⟨ge, hge⟩ : ∃ i, (totalD t.outs).2 = i := ⟨_, rfl⟩
          rw [hi1, ho4] at CB CTT
          rw [hgr, hge] at CTT
          rw [hgr] at TF GD
          rw [hi1] at c1
          rw [ho4] at c2
          clear htx hok hx0 hi1 ho4 hgr hge
          cases hb : isBase t.ins with
          | true =>
            rw [hb] at CB GD
            have GG : grn1 ts = gr := by rw [GT.out, GD.out]; rfl
            have GP := TF.out
            clear hb
            go_wp2_with fail
            refine CB.out.mono ?_
            rintro e w6 ⟨rfl, hb6⟩
            have CT6 := Lib.hid (CTT.out w6 hb6)
            have d0 := (hb6.cell (p := ⟨bi, oi, none⟩) g2).trans c0
            have d1 := (hb6.cell (p := ⟨bi, oi + 1, none⟩) g2).trans c1
            have d2 := (hb6.cell (p := ⟨bi, oi + 2, none⟩) g2).trans c2
            have d3 := (hb6.cell (p := ⟨bi, oi + 3, none⟩) g2).trans c3
            have HB6 := Lib.hid hb6
            clear c0 c1 c2 c3 hb6
            go_wp2_with fail
            refine CT6.out.mono ?_
            rintro e w7 ⟨rfl, hb7⟩
            have S5X := Lib.hid ((S5.out.below HB6.out).below hb7)
            clear d0 d1 d2 d3 hb7
            have CT5 := Lib.hid (Co.total_any a w.heap.size B.l w7 S5X.out.set)
            obtain ⟨t5, ht5⟩ : ∃ x, Co.tot B.l = x := ⟨_, rfl⟩
            rw [ht5] at CT5
            have hle : t5 ≤ tm + gr := by have := BT.out hc; rw [ht5] at this; have hg5 := GG; omega
            have hg0 := GP
            have wg : IntKind.i64.wrap (tm + gr) = tm + gr := IntWalk.i64_in _ (by have := TM.out; omega)
            have wt : IntKind.i64.wrap tm = tm := IntWalk.i64_in _ (by have := TM.out; omega)
            have q5 : ¬ t5 > tm + gr := by omega
            have q6 : decide (t5 > tm + gr) = false := decide_eq_false q5
            have q7 : ¬ tm + gr < t5 := by omega
            clear ht5 hle hg0
            go_wp2_with fail
            refine CT5.out.mono ?_
            rintro e wx ⟨rfl, hwx⟩
            subst wx
            go_wp2_with fail
            go_roundg (n - (k + 1))
            case measure => omega
            case rel => exact ⟨k + 1, B.l, A5, c5, by omega, by omega, by rw [show ((k + 1 : Nat) : Int) = h from by have := HH.out; omega], by rw [HL5.out], Lib.hid (S5X.out.more (by omega))⟩
          | false =>
            rw [hb] at CB GD
            have GG : grn1 ts = 0 := by rw [GT.out, GD.out]; rfl
            have GP : (0 : Int) ≤ 0 ∧ (0 : Int) ≤ 2100000000000000 := by decide
            clear hb
            go_wp2_with fail
            refine CB.out.mono ?_
            rintro e w6 ⟨rfl, hb6⟩
            have S5X := Lib.hid (S5.out.below hb6)
            clear c0 c1 c2 c3 hb6
            have CT5 := Lib.hid (Co.total_any a w.heap.size B.l w6 S5X.out.set)
            obtain ⟨t5, ht5⟩ : ∃ x, Co.tot B.l = x := ⟨_, rfl⟩
            rw [ht5] at CT5
            have hle : t5 ≤ tm + 0 := by have := BT.out hc; rw [ht5] at this; have hg5 := GG; omega
            have hg0 := GP
            have wg : IntKind.i64.wrap (tm + 0) = tm + 0 := IntWalk.i64_in _ (by have := TM.out; omega)
            have wt : IntKind.i64.wrap tm = tm := IntWalk.i64_in _ (by have := TM.out; omega)
            have q5 : ¬ t5 > tm + 0 := by omega
            have q6 : decide (t5 > tm + 0) = false := decide_eq_false q5
            have q7 : ¬ tm + 0 < t5 := by omega
            have q8 : ¬ t5 > tm := by omega
            have q9 : decide (t5 > tm) = false := decide_eq_false q8
            have q10 : ¬ tm < t5 := by omega
            clear ht5 hle hg0
            go_wp2_with fail
            refine CT5.out.mono ?_
            rintro e wx ⟨rfl, hwx⟩
            subst wx
            go_wp2_with fail
            go_roundg (n - (k + 1))
            case measure => omega
            case rel => exact ⟨k + 1, B.l, A5, c5, by omega, by omega, by rw [show ((k + 1 : Nat) : Int) = h from by have := HH.out; omega], by rw [HL5.out], Lib.hid (S5X.out.more (by omega))⟩
      · obtain ⟨Te, xe, rfl, hTe⟩ := HE.out.fault hc
        have NE := fun V => neq_errV hTe xe V
        go_wp2_with fail
        go_roundg (n - (k + 1))
        case measure => omega
        case rel => exact ⟨k + 1, m, Am, cm, by omega, by omega, by rw [show ((k + 1 : Nat) : Int) = h from by have := HH.out; omega], by rw [HML.out], Lib.hid (((S2.out.same HSt.out HTn.out).below ((Below.refl _ _).alloc (Nat.le_refl _) _)).more (by omega))⟩
    · have k3 : ¬ (k : Int) < (n : Int) := by omega
      have k4 : decide (k < n) = false := decide_eq_false hlt
      have CW := Lib.hid (wakes_any wr HS.out.dr)
      go_wp2_with fail
      refine CW.out.mono ?_
      rintro e w9 ⟨rfl, hb9⟩
      go_wp2_with fail
      go_ret
      exact ⟨rfl, below_next HS.out.bel HS.out.bel.size hb9⟩

end Go.Proofs.YtnmfjnfdnjjngaaGreatDoor
