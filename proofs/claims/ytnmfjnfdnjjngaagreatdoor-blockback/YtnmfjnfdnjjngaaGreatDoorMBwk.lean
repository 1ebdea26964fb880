/-
  BlockBack: the walk.
-/
import Derived.Test.YtnmfjnfdnjjngaaGreatDoorMBkq
import Derived.Deep.CutBlock
import Derived.BigQuiet
namespace Go.Proofs.YtnmfjnfdnjjngaaGreatDoor
open Go.RowKit
set_option maxRecDepth 100000

theorem take_at {P : Program} {ops : Array Oper} {Q : Exit → Act → World → Prop} {md : Region.Mode} {S : World → Prop} {i d : Nat} {oi : Oper} {v : Value} {fuel : Nat} {listed : Array Bool} {a : Act} {w : World}
    (hi : ops[i]? = some oi) (hd : oi.dst = some d) (hs : Region.noSelect ops = true) (hf : Region.free md ops listed i = true) (hr : (Region.ready md ops listed).contains i = true)
    (hQ : ∀ c a w, Q (.panic c) (a.put (some d) v) w → Q (.panic c) a w) (hy : YieldsIf P ops S oi v a) (hS : S w)
    (h : wpAnyH P md ops Q S fuel (listed.setIfInBounds i true) (a.put (some d) v) w) : wpAnyH P md ops Q S (fuel + 1) listed a w :=
  wpAnyH_take (oi := oi) (v := v) hi hs hf hr (by rw [hd]; exact hQ) hy hS (by rw [hd]; exact h)

set_option maxHeartbeats 4000000 in
theorem back_law (zss : List (List SmD)) (A0 : Option Addr) (c0 : Nat) (w : World) (hd : Dr w) (hz : Bks w 0 w.heap.size (.slice A0 zss.length c0) zss) (ok : BksOk zss) :
    Calls Tryz.prog 5 #[.slice A0 zss.length c0] w fun e w' => e = .returned (.bool true) ∧ Below w.heap.size w w' := by
  have HD := Lib.hid hd
  have BK := Lib.hid (fun V (hV : Below w.heap.size w V) => hz.keep (Kept.of_below hV (Nat.le_refl _)))
  have OK := Lib.hid ok
  have hcap := hz.cap
  have CN := Lib.hid (Co.new_any w)
  obtain ⟨ns, hns⟩ : ∃ n, zss.length = n := ⟨_, rfl⟩
  rw [hns] at BK hcap ⊢
  obtain ⟨n, hn⟩ : ∃ n, min ns 6 = n := ⟨_, rfl⟩
  have hmn : ∀ w, (Builtin.min_ #[3, 3] 3 #[.int .i64 (ns : Int), .int .i64 6]).run Tryz.prog w = .ok (.int .i64 (n : Nat)) w := by rw [← hn]; exact fun w => run_min_nat 6 #[3, 3] 3 ns w
  have hn1 : n ≤ ns := by omega
  have hn6 : n ≤ 6 := by omega
  have hnc : n ≤ c0 := by omega
  have hm0 : ns ≤ maxLen := by have := OK.out.1; omega
  have z1 : (n : Int) ≤ (c0 : Int) := by omega
  have z2 : ¬ (n : Int) < 0 := by omega
  have HN := Lib.hid hns
  have NN := eq_nilnil
  obtain ⟨i31, hi31, y0, y1, y2⟩ := info_parts info31
  obtain ⟨i23, hi23, t0, t1, t2⟩ := info_parts info23
  clear hd hz ok hns hn
  go_enter Tryz.func5, Tryz.ntmps5
  go_wp2_with fail
  refine CN.out.mono ?_
  rintro e w1 ⟨rfl, s1, b1, zz1⟩
  have S1 := Lib.hid (BSt.start HD.out s1 b1 zz1)
  obtain ⟨a, ha⟩ : ∃ a, a = w.heap.size + 1 := ⟨_, rfl⟩
  obtain ⟨lo, hlo⟩ : ∃ a, a = w.heap.size + 2 := ⟨_, rfl⟩
  rw [← ha, ← hlo] at S1
  rw [← ha]
  clear s1 b1 zz1 CN ha hlo
  go_wp2_with fail
  go_loopg [4, 5, 6, 24] n (fun gg s4 s5 s6 s24 wr => ∃ (k : Nat) (m : List Co.EnD) (Am : Option Addr) (cm : Nat) (ds : List DB) (cu cw : List Value), k ≤ n ∧ n - k ≤ gg ∧ s24 = .int .i64 (k : Int) ∧ s4 = .slice Am m.length cm ∧ Hid (BSt w a w.heap.size lo m (.slice Am m.length cm) (20 * k) wr) ∧ Hid (Pil wr lo s5 s6 ds cu cw) ∧ Hid (m = curL ds ∧ ds.length ≤ k) ∧ Hid (OCond m Am s5 s6))
  case atStart => exact ⟨0, [], none, 0, [], [], [], Nat.zero_le _, by omega, rfl, rfl, S1, Lib.hid (Pil.nil _ _), Lib.hid ⟨rfl, Nat.zero_le _⟩, Lib.hid (.inl rfl)⟩
  case round =>
    obtain ⟨k, m, Am, cm, ds, cu, cw, hk, hgk, rfl, rfl, HS, HP, HM, HO⟩ := hrel
    obtain ⟨AU, cU, hvu⟩ := own_form HP.out.ownU
    subst hvu
    obtain ⟨AW, cW, hvw⟩ := own_form HP.out.ownW
    subst hvw
    by_cases hlt : k < n
    · have j1 : (k : Int) < (n : Int) := by omega
      have j2 : decide (k < n) = true := decide_eq_true hlt
      have j3 : ¬ (k : Int) < 0 := by omega
      obtain ⟨zs, hzk⟩ : ∃ z, zss[k]? = some z := ⟨_, List.getElem?_eq_getElem (by rw [HN.out]; omega)⟩
      obtain ⟨bz, oz, rfl, _, gz, vz, c1, hs⟩ := (BK.out wr HS.out.bel).at hzk
      rw [Nat.mul_one] at c1
      obtain ⟨As, cs, rfl⟩ := hs.form
      obtain ⟨h, hh⟩ : ∃ h : Int, (k : Int) + 1 = h := ⟨_, rfl⟩
      have h1 : 0 ≤ h := by omega
      have h2 : h ≤ 1000000 := by omega
      have wk : IntKind.i64.wrap ((k : Int) + 1) = h := by rw [IntWalk.i64_in _ (by omega)]; exact hh
      have CM := Lib.hid (HS.out.made (by omega) (hs.wide (Nat.le_refl _) HS.out.bel.size) (OK.out.2 zs (List.mem_of_getElem? hzk)) h1 h2)
      have UL := Lib.hid (fun g hg => (HP.out.ownU.lt g hg).2)
      have WL := Lib.hid (fun g hg => (HP.out.ownW.lt g hg).2)
      have LE := Lib.hid HS.out.le
      obtain ⟨ml, hml⟩ : ∃ x, m.length = x := ⟨_, rfl⟩
      obtain ⟨zl, hzl⟩ : ∃ x, zs.length = x := ⟨_, rfl⟩
      obtain ⟨dl, hdl⟩ : ∃ x, ds.length = x := ⟨_, rfl⟩
      have HOX := HO
      rw [hml, hzl] at CM
      rw [hml, hdl]
      rw [hzl] at c1
      rw [hdl] at UL WL HP HO
      have HML := Lib.hid hml
      have HDL := Lib.hid hdl
      have hdl6 : dl ≤ 5 := by have := HM.out.2; omega
      have HH := Lib.hid hh
      clear hs hzk hml hzl hdl hh HOX
      go_wp2_with fail
      refine CM.out.mono ?_
      rintro e w2 ⟨At, ct, ts, rfl, HT, HB2⟩
      have S2 := Lib.hid (HS.out.below HB2.out)
      have P2 := Lib.hid (HP.out.keep [] (Tn.of_below HB2.out) (by simp))
      have CC := Lib.hid (Co.copy_any a w.heap.size m w2 S2.out.set)
      obtain ⟨tl, htl⟩ : ∃ x, ts.length = x := ⟨_, rfl⟩
      rw [htl]
      have HTL := Lib.hid htl
      have zz2 := HB2.out.size
      obtain ⟨ca, hca⟩ : ∃ x, w2.heap.size + 1 = x := ⟨_, rfl⟩
      rw [hca] at CC
      have HCA := Lib.hid hca
      clear htl c1 CM hca
      go_wp2_with fail
      refine CC.out.mono ?_
      rintro e w3 ⟨rfl, s3, b3⟩
      have SC := Lib.hid s3
      have B3 := Lib.hid b3
      have S3 := Lib.hid (S2.out.below b3)
      have HT3 := Lib.hid (HT.out.below b3)
      have CA := Lib.hid (S3.out.apply (by omega) HT3.out LE.out h)
      have KP := Lib.hid (S3.out.keeps HT3.out h)
      obtain ⟨B, hB⟩ : ∃ B, blkA m ts h = B := ⟨_, rfl⟩
      rw [hB] at CA KP
      have HBB := Lib.hid hB
      rw [HTL.out] at CA
      clear hB s3 b3 CC
      go_wp2_with fail
      refine CA.out.mono ?_
      rintro e w4 (⟨As', cs', Am', cm', hc, rfl, HE, HSt, HTn⟩ | ⟨v, hc, rfl, HE, HSt, HTn⟩)
      case inr =>
        obtain ⟨Te, xe, rfl, hTe⟩ := HE.out.fault hc
        have NE := fun V => eq_errV hTe xe V
        have Q4 := Lib.hid (((P2.out.keep [] (Tn.of_below B3.out) (by simp)).keep _ HTn.out (S2.out.lts (Nat.le_refl _))).keep (V := w4.alloc (.cells #[.slice none 0 0, .slice none 0 0] 31)) [] (Tn.of_below ((Below.refl _ _).alloc (Nat.le_refl _) _)) (by simp))
        go_wp2_with fail
        go_roundg (n - (k + 1))
        case measure => omega
        case rel => exact ⟨k + 1, m, Am, cm, ds, cu, cw, by omega, by omega, by rw [show ((k + 1 : Nat) : Int) = h from by have := HH.out; omega], by rw [HML.out], Lib.hid (((S3.out.same HSt.out HTn.out).below ((Below.refl _ _).alloc (Nat.le_refl _) _)).more (by omega)), Q4, Lib.hid ⟨HM.out.1, by have := HM.out.2; omega⟩, HO⟩
      case inl =>
        obtain ⟨p1, hp1⟩ : ∃ x, (Co.lessL m B.l).length = x := ⟨_, rfl⟩
        obtain ⟨p2, hp2⟩ : ∃ x, (Co.lessL B.l m).length = x := ⟨_, rfl⟩
        rw [hp1, hp2]
        obtain ⟨w5, hw5⟩ : ∃ w5, w5 = w4.alloc (.cells #[.slice As' p1 cs', .slice Am' p2 cm'] 31) := ⟨_, rfl⟩
        have b5 : Below w4.heap.size w4 w5 := by rw [hw5]; exact (Below.refl _ _).alloc (Nat.le_refl _) _
        have h5 : w5.heap[w4.heap.size]? = some (.cells #[.slice As' p1 cs', .slice Am' p2 cm'] 31 (0, 0)) := by rw [hw5]; exact heap_alloc_new _ _
        have zw5 : w4.heap.size < w5.heap.size := by rw [hw5]; simp
        have c50 : w5.cell? ⟨w4.heap.size, 0, none⟩ = some (.slice As' p1 cs') := Co.cell_in h5 rfl
        have c51 : w5.cell? ⟨w4.heap.size, 1, none⟩ = some (.slice Am' p2 cm') := Co.cell_in h5 rfl
        have W5 := Lib.hid (show w4.alloc (.cells #[.slice As' p1 cs', .slice Am' p2 cm'] 31) = w5 from hw5.symm)
        have B5 := Lib.hid b5
        have HP12 := Lib.hid (And.intro hp1 hp2)
        have P5 := Lib.hid (((P2.out.keep [] (Tn.of_below B3.out) (by simp)).keep _ HTn.out (S2.out.lts (Nat.le_refl _))).keep [] (Tn.of_below b5) (by simp))
        have OU5 := Lib.hid P5.out.ownU
        rw [HDL.out] at OU5
        have zlo : lo ≤ w5.heap.size := by have := S3.out.le; have := HTn.out.size; omega
        have hmax : dl + 1 ≤ maxLen := by unfold maxLen; omega
        have hby48 : (dl + 1) * 48 ≤ 140737488355328 := by omega
        have hby8 : (dl + 1) * 8 ≤ 140737488355328 := by omega
        clear hw5 b5 h5 hp1 hp2
        go_upto_region 11 with (fail)
        rw [W5.out]
        go_wp2_with (first
          | (at_builtin; refine wpList_append_lies _ rfl _ _ 54 rfl lo 31 i31 _ 2 48 Tryz.underlying54 hi31 y0 y1 y2 rfl (by decide) _ _ _ rfl (OU5.out.alloc _) ⟨w5.heap.size, 0, none⟩ 1 1 [.slice As' p1 cs', .slice Am' p2 cm'] rfl rfl (two_new _ _ _ _) (by intro u hu; simp at hu; rcases hu with rfl | rfl <;> rfl) (by decide) hmax hby48 (by simp; omega) _ rfl ?_; intro g1 k1 x1 o1 r1 a1 l1; have OW1 := Lib.hid (P5.out.stayW r1); rw [HDL.out] at OW1; have zx1 : lo ≤ x1.heap.size := by have := r1.size; simp at this; omega)
          | (at_builtin; refine wpList_append_lies _ rfl _ _ 55 rfl lo 23 i23 _ 1 8 Tryz.underlying55 hi23 t0 t1 t2 rfl (by decide) _ _ _ rfl (OW1.out.alloc _) ⟨x1.heap.size, 0, none⟩ 1 1 [.pointer (some ⟨ca, 0, none⟩)] rfl rfl (one_new1 _ _ _) (by intro u hu; simp at hu; rcases hu with rfl; rfl) (by decide) hmax hby8 (by simp; omega) _ rfl ?_; intro g2 k2 x2 o2 r2 a2 l2))
        have PXX := back_round w w2 w3 w4 w5 x1 x2 a lo k wr.heap.size m Am cm (.slice AU dl cU) (.slice AW dl cW) (.slice At ts.length ct) ds cu cw ts B As' Am' cs' cm' g1 k1 g2 k2 _ _ S2.out (by omega) P2.out HM.out.1 HO.out UL.out WL.out HT.out LE.out (by rw [HCA.out]; exact SC.out) B3.out HE.out HSt.out HTn.out B5.out KP.out r1 (by rw [HDL.out, HP12.out.1, HP12.out.2]; exact o1) a1 r2 (by rw [HDL.out, HCA.out]; exact o2) a2
        obtain ⟨d, cu', cw', hdb, PX0, MX, TX, LX, NX0⟩ := PXX
        have CR := Lib.hid (S2.out.rpv MX LX (by omega) TX h)
        rw [HBB.out, HML.out, HTL.out] at CR
        rw [HDL.out] at PX0
        rw [HDL.out, HML.out] at NX0
        have PX := Lib.hid PX0
        have NX := Lib.hid NX0
        clear PX0 NX0 MX TX LX r1 r2 o1 o2 a1 a2 l1 l2 c50 c51
        go_wp2_with fail
        refine CR.out.mono ?_
        rintro e w6 ⟨A6, c6, rfl, HE6, HB6, HPV⟩
        have N6 := Lib.hid (NX.out w6 A6 c6 HE6.out HB6.out HPV.out)
        have P6 := Lib.hid (PX.out.keep [] (Tn.of_below HB6.out) (by simp))
        obtain ⟨l5, hl5⟩ : ∃ x, B.l.length = x := ⟨_, rfl⟩
        obtain ⟨b1, hb1⟩ : ∃ x, B.code = x := ⟨_, rfl⟩
        obtain ⟨b2, hb2⟩ : ∃ x, B.at_ = x := ⟨_, rfl⟩
        obtain ⟨b3, hb3⟩ : ∃ x, B.inn = x := ⟨_, rfl⟩
        rw [hl5, hb1, hb2, hb3]
        have HL5 := Lib.hid hl5
        clear hl5 hb1 hb2 hb3
        go_wp2_with fail
        go_roundg (n - (k + 1))
        case measure => omega
        case rel => exact ⟨k + 1, B.l, A6, c6, ds ++ [d], cu', cw', by omega, by omega, by rw [show ((k + 1 : Nat) : Int) = h from by have := HH.out; omega], by rw [HL5.out], Lib.hid N6.out.1, P6, Lib.hid ⟨by rw [cur_snoc]; exact hdb.symm, by have := HM.out.2; simp; omega⟩, Lib.hid N6.out.2⟩
    · have k3 : ¬ (k : Int) < (n : Int) := by omega
      have k4 : decide (k < n) = false := decide_eq_false hlt
      obtain ⟨dl, hdl⟩ : ∃ x, ds.length = x := ⟨_, rfl⟩
      obtain ⟨ml, hml⟩ : ∃ x, m.length = x := ⟨_, rfl⟩
      have SR := Lib.hid (show Co.SetIs wr a w.heap.size (curL ds) from by rw [← HM.out.1]; exact HS.out.set)
      have BR := Lib.hid (And.intro HS.out.bel HS.out.dr)
      have AL := Lib.hid (And.intro HS.out.al HS.out.w3)
      have hdl6 : dl ≤ 6 := by have := HM.out.2; omega
      have wd : IntKind.i64.wrap ((dl : Int) - 1) = (dl : Int) - 1 := IntWalk.i64_in _ (by omega)
      rw [hdl] at HP
      rw [hml, hdl]
      have HDL := Lib.hid hdl
      have HOF := Lib.hid (show ∀ i ∈ [a, w.heap.size], i < lo from fun i hi => by have := HS.out.al; simp at hi; omega)
      clear hml hdl HM HO BK OK
      go_wp2_with fail
      go_loopg [13] dl (fun gg s13 w2 => ∃ (j : Nat) (z : Int), j ≤ dl ∧ j ≤ gg ∧ s13 = .int .i64 z ∧ z = (j : Int) - 1 ∧ Hid (Co.SetIs w2 a w.heap.size (curL (ds.take j))) ∧ Hid (Pil w2 lo (.slice AU dl cU) (.slice AW dl cW) ds cu cw) ∧ Hid (Below w.heap.size w w2 ∧ Dr w2))
      case atStart => exact ⟨dl, _, Nat.le_refl _, Nat.le_refl _, rfl, rfl, Lib.hid (by rw [List.take_of_length_le (Nat.le_of_eq HDL.out)]; exact SR.out), HP, BR⟩
      case round =>
        obtain ⟨j, z, hj, hgj, rfl, hzj, HSj, HPj, HBj⟩ := hrel
        by_cases hj0 : j = 0
        · subst hj0
          have k1 : ¬ z ≥ 0 := by omega
          have k2 : z < 0 := by omega
          have k3' : decide (z ≥ 0) = false := decide_eq_false k1
          have k4' : ¬ 0 ≤ z := by omega
          clear hzj
          have CW := Lib.hid (wakes_any _ HBj.out.2)
          go_wp2_with fail
          refine CW.out.mono ?_
          rintro e w9 ⟨rfl, hb9⟩
          have CL := Lib.hid (Co.len_any a w.heap.size [] w9 (HSj.out.below hb9 HSj.out.lta HSj.out.ltb))
          rw [show (([] : List Co.EnD).length) = 0 from rfl] at CL
          have HB9 := Lib.hid (below_next HBj.out.1 HBj.out.1.size hb9)
          clear hb9 CW
          go_wp2_with fail
          refine CL.out.mono ?_
          rintro e wx ⟨rfl, hwx⟩
          subst wx
          go_wp2_with fail
          go_ret
          exact ⟨rfl, HB9.out⟩
        · obtain ⟨q, rfl⟩ : ∃ q, j = q + 1 := ⟨j - 1, by omega⟩
          obtain rfl : z = (q : Int) := by omega
          clear hzj hj0
          have i1 : (q : Int) ≥ 0 := by omega
          have i2 : ¬ (q : Int) < 0 := by omega
          have i3 : (q : Int) < (dl : Int) := by omega
          have i4 : q < dl := by omega
          have i5 : (0 : Int) ≤ (q : Int) := by omega
          have i6 : decide ((q : Int) ≥ 0) = true := decide_eq_true i1
          obtain ⟨d, hdq⟩ : ∃ d, ds[q]? = some d := ⟨_, List.getElem?_eq_getElem (by rw [HDL.out]; omega)⟩
          obtain ⟨gu, gw, rfl, rfl, gu1, gu2, gw1, gw2, u0, u1, _⟩ := HPj.out.at hdq
          obtain ⟨_, _, _, DI, _, _, hla⟩ := HPj.out.all q d hdq
          rw [cur_take hdq] at HSj
          have HDQ := Lib.hid hdq
          obtain ⟨la, lb, As', cs', Am', cm', sa, sb, slo, shi⟩ := d
          have HLA : la = curL (ds.take q) := hla
          have dset : Co.SetIs _ sa sb la := DI.set
          have des : Co.Ents _ slo shi (.slice As' (Co.lessL la lb).length cs') (Co.lessL la lb) := DI.es
          have dem : Co.Ents _ slo shi (.slice Am' (Co.lessL lb la).length cm') (Co.lessL lb la) := DI.em
          have dgb : Co.Good lb := DI.gb
          have daa : Co.Arg la := DI.aa
          have dln : la.length ≤ 120 ∧ lb.length ≤ 120 := DI.ln
          have dl1 : lo ≤ slo := DI.l1
          have dab : slo ≤ sa ∧ sa < shi ∧ slo ≤ sb ∧ sb < shi := DI.ab
          have RV := Lib.hid (revert_any a w.heap.size la lb (Co.lessL la lb) (Co.lessL lb la) As' Am' cs' cm' wr slo shi HSj.out des dem DI.l2 (fun i hi => .inl (Nat.lt_of_lt_of_le (HOF.out i hi) dl1)) (fun x hx => dset.good.ok x (List.mem_filter.1 hx).1) (fun x hx => dgb.ok x (List.mem_filter.1 hx).1)
            (Nat.le_trans (Co.less_len _ _) (by omega)) (Nat.le_trans (Co.less_len _ _) (by omega)) (fun _ => ⟨dset.good, daa, rfl, rfl⟩))
          have IB := Lib.hid (show ∀ x ∈ Co.lessL lb la, Co.inB lb x = true from fun x hx => (Co.inB_iff dgb.srt).2 (List.mem_filter.1 hx).1)
          have hDL2 := Lib.hid DI.l2
          have DLN := Lib.hid dln
          have HLA' := Lib.hid HLA
          have hv0 : _ = some (Value.slice As' (Co.lessL la lb).length cs') := u0
          have hv1 : _ = some (Value.slice Am' (Co.lessL lb la).length cm') := u1
          obtain ⟨p1, hp1⟩ : ∃ x, (Co.lessL la lb).length = x := ⟨_, rfl⟩
          obtain ⟨p2, hp2⟩ : ∃ x, (Co.lessL lb la).length = x := ⟨_, rfl⟩
          rw [hp1, hp2] at RV
          rw [hp1] at hv0
          rw [hp2] at hv1
          clear u0 u1 hp1 hp2 hla HLA hdq DI des dem dgb daa dset dln
          go_wp2_with fail
          refine RV.out.mono ?_
          rintro e w6 ⟨c, l', rfl, s6, t6, h6⟩
          rcases h6 with ⟨_, _, x, hx, hf⟩ | ⟨rfl, rfl, _⟩
          case inl =>
            rw [IB.out x hx] at hf
            cases hf
          have P6 := Lib.hid (HPj.out.keep _ t6 HOF.out)
          have B6 := Lib.hid (show Below w.heap.size w w6 ∧ Dr w6 from ⟨Tn.below HBj.out.1 t6 (fun i hi => by have := AL.out; simp at hi; omega) HBj.out.1.size, HBj.out.2.tn t6 (fun i hi => by have := AL.out; simp at hi; omega)⟩)
          obtain ⟨gu', gw', e1', e2', _, _, _, gw4, _, _, v6⟩ := P6.out.at HDQ.out
          injection e1' with e1'
          injection e1' with e1'
          subst e1'
          injection e2' with e2'
          injection e2' with e2'
          subst e2'
          have D6 := Lib.hid (P6.out.all q _ HDQ.out).2.2.2.1
          have S6 := Lib.hid s6
          obtain ⟨nl, hnl⟩ : ∃ x, l'.length = x := ⟨_, rfl⟩
          have HNL := Lib.hid hnl
          have hnl120 : nl ≤ 120 := by have := DLN.out.1; omega
          have d6 := (Below.refl w6.heap.size w6).drew
          have C1 := Lib.hid (show Calls Tryz.prog 24 #[.pointer (some ⟨a, 0, none⟩)] w6.drew fun e V => (∃ A c, e = .returned (.slice A nl c) ∧ Hid (Below w6.heap.size w6 V ∧ Co.Ents V w6.heap.size V.heap.size (.slice A nl c) l')) ∧ V.cell? ⟨gw, q, none⟩ = some (.pointer (some ⟨sa, 0, none⟩)) from by
            refine (Co.all_any a w.heap.size l' w6.drew (s6.below d6 s6.lta s6.ltb) (by omega)).mono ?_
            rintro e V ⟨v, rfl, en, bV⟩
            obtain ⟨A, c, rfl⟩ := en.form
            rw [hnl] at en ⊢
            exact ⟨⟨A, c, rfl, Lib.hid ⟨d6.trans bV, en⟩⟩, (bV.cell (p := ⟨gw, q, none⟩) (by show gw < _; exact gw4)).trans v6⟩)
          have C2 := Lib.hid (show ∀ V A c, Hid (Below w6.heap.size w6 V ∧ Co.Ents V w6.heap.size V.heap.size (.slice A nl c) l') → V.cell? ⟨gw, q, none⟩ = some (.pointer (some ⟨sa, 0, none⟩)) → Calls Tryz.prog 24 #[.pointer (some ⟨sa, 0, none⟩)] V fun e V' => (∃ A' c', e = .returned (.slice A' nl c') ∧ Hid (Below w6.heap.size w6 V' ∧ Co.Ents V' w6.heap.size V'.heap.size (.slice A nl c) l' ∧ Co.Ents V' w6.heap.size V'.heap.size (.slice A' nl c') l')) ∧ V'.cell? ⟨gw, q, none⟩ = some (.pointer (some ⟨sa, 0, none⟩)) from fun V A c hV hC => by
            have hl2 := D6.out.l2
            have hsz := hV.out.1.size
            refine (Co.all_any sa sb l' V (D6.out.set.below hV.out.1 (Nat.lt_of_lt_of_le dab.2.1 hl2) (Nat.lt_of_lt_of_le dab.2.2.2 hl2)) (by omega)).mono ?_
            rintro e V' ⟨v, rfl, en, bV⟩
            obtain ⟨A', c', rfl⟩ := en.form
            rw [hnl] at en ⊢
            exact ⟨⟨A', c', rfl, Lib.hid ⟨below_next hV.out.1 hsz bV, (hV.out.2.keep (Kept.of_below bV (Nat.le_refl _))).wide (Nat.le_refl _) bV.size, en.wide hsz (Nat.le_refl _)⟩⟩, (bV.cell (p := ⟨gw, q, none⟩) (by show gw < _; omega)).trans hC⟩)
          clear s6 t6 hnl hv0 hv1 RV IB d6
          go_wp2_with fail
          refine wp_region_held_drew (S := fun V => V.cell? ⟨gw, q, none⟩ = some (.pointer (some ⟨sa, 0, none⟩))) (by kernel_rfl) ?_ (fun hHeld => ?_)
          · exact v6
          refine take_at (i := 0) (d := 79) (v := ?vq1) rfl rfl (by kernel_rfl) (by kernel_rfl) (by kernel_rfl) (fun _ _ _ h => h) (Or.inl ⟨by rfl, ?yq1⟩) hHeld ?rq1
          case yq1 => (intro w hSw; (try dsimp only at hSw); go_simp; try with_reducible rfl)
          simp only [Act.put, List.setIfInBounds_toArray, List.set_cons_zero, List.set_cons_succ]
          refine take_at (i := 2) (d := 81) (v := ?vq2) rfl rfl (by kernel_rfl) (by kernel_rfl) (by kernel_rfl) (fun _ _ _ h => h) (Or.inl ⟨by rfl, ?yq2⟩) hHeld ?rq2
          case yq2 => (intro w hSw; (try dsimp only at hSw); go_simp; try with_reducible rfl)
          simp only [Act.put, List.setIfInBounds_toArray, List.set_cons_zero, List.set_cons_succ]
          refine take_at (i := 3) (d := 82) (v := ?vq3) rfl rfl (by kernel_rfl) (by kernel_rfl) (by kernel_rfl) (fun _ _ _ h => h) (Or.inl ⟨by rfl, ?yq3⟩) hHeld ?rq3
          case yq3 => (intro w hSw; (try dsimp only at hSw); go_simp; try with_reducible rfl)
          simp only [Act.put, List.setIfInBounds_toArray, List.set_cons_zero, List.set_cons_succ]
          refine take_at (i := 4) (d := 83) (v := ?vq4) rfl rfl (by kernel_rfl) (by kernel_rfl) (by kernel_rfl) (fun _ _ _ h => h) (Or.inl ⟨by rfl, ?yq4⟩) hHeld ?rq4
          case yq4 => (intro w hSw; (try dsimp only at hSw); go_simp; try with_reducible rfl)
          simp only [Act.put, List.setIfInBounds_toArray, List.set_cons_zero, List.set_cons_succ]
          refine take_at (i := 5) (d := 84) (v := ?vq5) rfl rfl (by kernel_rfl) (by kernel_rfl) (by kernel_rfl) (fun _ _ _ h => h) (Or.inl ⟨by rfl, ?yq5⟩) hHeld ?rq5
          case yq5 => (intro w hSw; (try dsimp only at hSw); go_simp; try with_reducible rfl)
          simp only [Act.put, List.setIfInBounds_toArray, List.set_cons_zero, List.set_cons_succ]
          refine wpAnyH_ready (rs := [1]) (by kernel_rfl) (by simp) ?_
          refine AllReadyH.cons rfl (fun K hK => ?_) AllReadyH.nil
          go_simp
          go_at_call 24
          refine C1.out.mono ?_
          rintro e x1 ⟨⟨E1, e1, rfl, f1⟩, y1'⟩
          refine hK.out _ _ y1' (fun hHeld => ?_)
          clear hK K
          try simp only [Act.put, List.setIfInBounds_toArray, List.set_cons_zero, List.set_cons_succ]
          refine wpAnyH_ready (rs := [6]) (by kernel_rfl) (by simp) ?_
          refine AllReadyH.cons rfl (fun K hK => ?_) AllReadyH.nil
          go_simp
          go_at_call 24
          refine (C2.out _ _ _ f1 hHeld).mono ?_
          rintro e x2 ⟨⟨E2, e2, rfl, f2⟩, y2'⟩
          refine hK.out _ _ y2' (fun hHeld => ?_)
          clear hK K
          try simp only [Act.put, List.setIfInBounds_toArray, List.set_cons_zero, List.set_cons_succ]
          refine take_at (i := 7) (d := 14) (v := ?vq6) rfl rfl (by kernel_rfl) (by kernel_rfl) (by kernel_rfl) (fun _ _ _ h => h) (Or.inl ⟨by rfl, ?yq6⟩) hHeld ?rq6
          case yq6 => (intro w hSw; (try dsimp only at hSw); go_simp; try with_reducible rfl)
          simp only [Act.put, List.setIfInBounds_toArray, List.set_cons_zero, List.set_cons_succ]
          refine take_at (i := 8) (d := 15) (v := ?vq7) rfl rfl (by kernel_rfl) (by kernel_rfl) (by kernel_rfl) (fun _ _ _ h => h) (Or.inl ⟨by rfl, ?yq7⟩) hHeld ?rq7
          case yq7 => (intro w hSw; (try dsimp only at hSw); go_simp; try with_reducible rfl)
          simp only [Act.put, List.setIfInBounds_toArray, List.set_cons_zero, List.set_cons_succ]
          refine wpAnyH_done (by kernel_rfl) ?_ _
          have S8 := Lib.hid (S6.out.below f2.out.1 S6.out.lta S6.out.ltb)
          have D8 := Lib.hid (show Co.SetIs x2 sa sb l' from D6.out.set.below f2.out.1 (Nat.lt_of_lt_of_le dab.2.1 D6.out.l2) (Nat.lt_of_lt_of_le dab.2.2.2 D6.out.l2))
          have CT1 := Lib.hid (fun nq => Co.total_any a w.heap.size l' (x2.drewN nq) (S8.out.below (below_drewN (Below.refl x2.heap.size x2) nq) S8.out.lta S8.out.ltb))
          have CT2 := Lib.hid (fun nq => Co.total_any sa sb l' (x2.drewN nq) (D8.out.below (below_drewN (Below.refl x2.heap.size x2) nq) D8.out.lta D8.out.ltb))
          obtain ⟨tt, htt⟩ : ∃ x, Co.tot l' = x := ⟨_, rfl⟩
          rw [htt] at CT1 CT2
          have q1 : ((nl : Int) != (nl : Int)) = false := by simp
          have q2 : ((tt : Int) != (tt : Int)) = false := by simp
          have v8 : x2.cell? ⟨gw, q, none⟩ = some (.pointer (some ⟨sa, 0, none⟩)) := hHeld
          have wq : IntKind.i64.wrap ((q : Int) - 1) = (q : Int) - 1 := IntWalk.i64_in _ (by omega)
          clear htt v6 hHeld
          go_wp2_with fail
          go_quiet ((go_at_call 25; first | exact Calls.quiet_of_same ((CT1.out _).mono fun _ _ h => ⟨h.1, h.2⟩) | exact Calls.quiet_of_same ((CT2.out _).mono fun _ _ h => ⟨h.1, h.2⟩)))
          go_wp2_with fail
          go_loopg [103] nl (fun gg s103 wr3 => ∃ i : Nat, i ≤ nl ∧ nl - i ≤ gg ∧ s103 = .int .i64 (i : Int) ∧ Hid (Below x2.heap.size x2 wr3))
          case atStart => exact ⟨0, Nat.zero_le _, by omega, rfl, Lib.hid (below_drewN (Below.refl _ _) _)⟩
          case round =>
            obtain ⟨i, hi, hgi, rfl, HBi⟩ := hrel
            by_cases hlt3 : i < nl
            · have r1 : (i : Int) < (nl : Int) := by omega
              have r2 : decide (i < nl) = true := decide_eq_true hlt3
              have r3 : ¬ (i : Int) < 0 := by omega
              obtain ⟨x, hzi⟩ : ∃ x, l'[i]? = some x := ⟨_, List.getElem?_eq_getElem (by rw [HNL.out]; exact hlt3)⟩
              obtain ⟨b2, o2, rfl, g3, g4, x0, x1, x2', x3, x4⟩ := (f2.out.2.1.keep (Kept.of_below HBi.out (Nat.le_refl _))).at hzi
              obtain ⟨b3, o3, rfl, g5, g6, y0, y1, y2, y3, y4⟩ := (f2.out.2.2.keep (Kept.of_below HBi.out (Nat.le_refl _))).at hzi
              have n1 := Co.run_neq_en
              have n2 := Co.en_guard
              have n5 : Co.ptB x.id x.ix x.id x.ix = true := Co.ptB_refl _ _
              have n6 : Co.coB x.val x.scr x.ht x.val x.scr x.ht = true := Co.coB_refl _ _ _
              clear hzi
              go_wp2_with fail
              go_quiet (fail)
              go_wp2_with fail
              go_roundg (nl - (i + 1))
              case measure => omega
              case rel => exact ⟨i + 1, by omega, by omega, by go_num, Lib.hid (below_drewN HBi.out _)⟩
            · have r3 : ¬ (i : Int) < (nl : Int) := by omega
              have r4 : decide (i < nl) = false := decide_eq_false hlt3
              have BB := Lib.hid (f2.out.1.trans (HBi.out.mono f2.out.1.size))
              go_wp2_with fail
              go_roundg q
              case measure => omega
              case rel => exact ⟨q, (q : Int) - 1, by omega, Nat.le_refl _, by first | rfl | rw [wq], rfl, Lib.hid (by rw [← HLA'.out]; exact S8.out.below HBi.out S8.out.lta S8.out.ltb), Lib.hid (P6.out.keep [] (Tn.of_below BB.out) (by simp)), Lib.hid ⟨below_next B6.out.1 B6.out.1.size BB.out, B6.out.2.below BB.out⟩⟩

end Go.Proofs.YtnmfjnfdnjjngaaGreatDoor
