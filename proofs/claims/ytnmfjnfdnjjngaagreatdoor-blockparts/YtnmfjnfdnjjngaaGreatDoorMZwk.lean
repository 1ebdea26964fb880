/-
  BlockParts: the walk.
-/
import Derived.Test.YtnmfjnfdnjjngaaGreatDoorMBst
import Derived.Test.YtnmfjnfdnjjngaaGreatDoorMAp2
import Derived.Test.YtnmfjnfdnjjngaaGreatDoorMXwk
import Derived.Test.YtnmfjnfdnjjngaaGreatDoorMCpy
import Derived.Deep.CutBlock
import Derived.BigQuiet
namespace Go.Proofs.YtnmfjnfdnjjngaaGreatDoor
open Go.RowKit
set_option maxRecDepth 100000

theorem lt_of_blk {w : World} {b : Nat} {o : Obj} (h : w.heap[b]? = some o) : b < w.heap.size := by
  rcases Nat.lt_or_ge b w.heap.size with hlt | hge
  · exact hlt
  · rw [Array.getElem?_eq_none hge] at h; cases h
theorem box_in {w V : World} {b : Nat} {s : List Nat} {o : Obj} (h : w.heap[b]? = some o) (ht : Tn s w V) (hn : b ∉ s) : V.heap[b]? = some o := by
  have : b < w.heap.size := by
    rcases Nat.lt_or_ge b w.heap.size with hlt | hge
    · exact hlt
    · rw [Array.getElem?_eq_none hge] at h; cases h
  exact (ht.block b this hn).trans h

/-- One transaction, as a block of its own: the list is a literal. -/
theorem apply_one (a b : Nat) (m : List Co.EnD) (t : TxD) (h : Int) (w : World) (lo hi : Nat) (A1 A2 : Option Addr) (m1 m2 : Nat) (hs : Co.SetIs w a b m) (ha : Co.Arg m) (hl : m.length ≤ 800) (ht : TxAt w lo hi (.slice A1 t.ins.length m1) (.slice A2 t.outs.length m2) t)
    (hhi : hi ≤ w.heap.size) (hof : ∀ i ∈ [a, b], i < lo ∨ hi ≤ i) (hok : t.Ok) (hto : t.outs.length ≤ 20) (hd : Dr w) (h3 : 3 ≤ a) (h4 : 3 ≤ b) :
    Calls Tryz.prog 11 #[.pointer (some ⟨a, 0, none⟩), .slice (some ⟨w.heap.size, 0, none⟩) 1 1, .int .i64 h] (w.alloc (.cells #[.int .u32 t.ver, .slice A1 t.ins.length m1, .slice A2 t.outs.length m2, .int .u32 t.lock] 51)) fun e w' =>
      ∃ As p1 cs Am p2 cm v, e = .returned (.tuple #[.agg #[.slice As p1 cs, .slice Am p2 cm], v]) ∧ Hid (ErrW w.heap.size w' v (blkA m [t] h).code (blkA m [t] h).at_ (blkA m [t] h).inn) ∧ Hid (Co.SetIs w' a b (blkA m [t] h).l) ∧ Hid (Tn [a, b] w w') := by
  obtain ⟨w1, hw1⟩ : ∃ w1, w1 = w.alloc (.cells #[.int .u32 t.ver, .slice A1 t.ins.length m1, .slice A2 t.outs.length m2, .int .u32 t.lock] 51) := ⟨_, rfl⟩
  have b1 : Below w.heap.size w w1 := by rw [hw1]; exact (Below.refl _ _).alloc (Nat.le_refl _) _
  have bx : Boxed w1 w.heap.size (.int .u32 t.ver) (.slice A1 t.ins.length m1) (.slice A2 t.outs.length m2) (.int .u32 t.lock) := by rw [hw1]; exact Boxed.new _ _ _ _ _ _
  have z1 : w1.heap.size = w.heap.size + 1 := by rw [hw1]; simp
  have hL : Lst (TxC lo hi) 4 w1 w.heap.size w1.heap.size (.slice (some ⟨w.heap.size, 0, none⟩) [t].length 1) [t] := by
    refine ⟨_, 1, rfl, Nat.le_refl _, .inr ⟨w.heap.size, 0, rfl, Nat.le_refl _, by omega, fun k x hx => ?_⟩⟩
    match k, hx with
    | 0, hx =>
      simp at hx
      subst hx
      rw [Nat.zero_mul, Nat.add_zero]
      exact ⟨bx.1, ⟨_, _, bx.2.1, bx.2.2.1, ht.keep (Kept.of_below b1 hhi)⟩, bx.2.2.2⟩
  have la := hs.lta
  have lb := hs.ltb
  rw [← hw1]
  refine (blk_gen a b m [t] h _ 1 w1 lo hi w.heap.size w1.heap.size (hs.below b1 la lb) ha hL (by omega) (Nat.le_refl _) (fun i hi => by simp at hi; rcases hi with rfl | rfl <;> exact .inl (by omega)) hof (fun x hx => by obtain rfl := List.mem_singleton.1 hx; exact hok) (by show 1 ≤ 100; omega) (by simp [outsN]; omega) (hd.below b1) h3 h4).mono ?_
  intro e w' k
  obtain ⟨As, p1, cs, Am, p2, cm, v, he, h1, h2, h3⟩ := k.any
  have h1' := h1.out
  exact ⟨As, p1, cs, Am, p2, cm, v, he, Lib.hid (by
    rcases h1' with h | h | ⟨q1, q2, b, ve, e1, q3, q4, q5, q6, q7⟩
    · exact .inl h
    · exact .inr (.inl h)
    · exact .inr (.inr ⟨q1, q2, b, ve, e1, by omega, q4, q5, q6, q7.low (by omega)⟩)), h2, Lib.hid ((Tn.of_below b1).trans h3.out)⟩

set_option maxHeartbeats 4000000 in
theorem parts_law (zs : List SmD) (A0 : Option Addr) (c0 : Nat) (ys : List SmD) (D0 : Option Addr) (d0 : Nat) (w : World) (hd : Dr w) (hz : Sms w 0 w.heap.size (.slice A0 zs.length c0) zs) (ok : SmsOk zs) (hy : Sms w 0 w.heap.size (.slice D0 ys.length d0) ys) (oky : SmsOk ys) :
    Calls Tryz.prog 8 #[.slice A0 zs.length c0, .slice D0 ys.length d0] w fun e w' => e = .returned (.bool true) ∧ Below w.heap.size w w' := by
  have HD := Lib.hid hd
  have HZ := Lib.hid hz
  have OK := Lib.hid ok
  have HY := Lib.hid hy
  have OY := Lib.hid oky
  have CN := Lib.hid (Co.new_any w)
  obtain ⟨ns, hns⟩ : ∃ n, zs.length = n := ⟨_, rfl⟩
  have HN := Lib.hid hns
  rw [hns]
  obtain ⟨ny, hny⟩ : ∃ n, ys.length = n := ⟨_, rfl⟩
  have HNY := Lib.hid hny
  rw [hny]
  have NN := neq_nilnil
  clear hd hz ok hns hy oky hny
  go_enter Tryz.func8, Tryz.ntmps8
  go_wp2_with fail
  refine CN.out.mono ?_
  rintro e w1 ⟨rfl, s1, b1, zz1⟩
  have S1 := Lib.hid (BSt.start HD.out s1 b1 zz1)
  have CM0 : Calls Tryz.prog 10 #[.slice none 0 0, .slice A0 zs.length c0, .int .i64 1] w1 _ := S1.out.made (m := []) (Am := none) (cm := 0) (by decide) ((HZ.out.keep (Kept.of_below b1 (Nat.le_refl _))).wide (Nat.le_refl _) b1.size) OK.out (h := 1) (by decide) (by decide)
  rw [HN.out] at CM0
  have CM := Lib.hid CM0
  obtain ⟨a, ha⟩ : ∃ a, a = w.heap.size + 1 := ⟨_, rfl⟩
  obtain ⟨b, hb⟩ : ∃ a, a = w.heap.size := ⟨_, rfl⟩
  obtain ⟨lo, hlo⟩ : ∃ a, a = w.heap.size + 2 := ⟨_, rfl⟩
  have S1' : BSt w a b lo [] (.slice none 0 0) 0 w1 := by rw [ha, hb, hlo]; exact S1.out
  clear S1
  have S1 := Lib.hid S1'
  rw [← ha]
  clear s1 b1 zz1 CN ha hb hlo CM0 S1'
  go_wp2_with fail
  refine CM.out.mono ?_
  rintro e w2 ⟨At, ct, ts, rfl, HT, HB2⟩
  have S2 := Lib.hid (S1.out.below HB2.out)
  have CA := Lib.hid (S2.out.apply (by decide) HT.out S1.out.le 1)
  have KP := Lib.hid (S2.out.keeps HT.out 1)
  obtain ⟨B, hB⟩ : ∃ B, blkA [] ts 1 = B := ⟨_, rfl⟩
  have HB := Lib.hid hB
  rw [hB] at CA KP
  obtain ⟨tl, htl⟩ : ∃ x, ts.length = x := ⟨_, rfl⟩
  rw [htl] at CA
  rw [htl]
  have HTL := Lib.hid htl
  have AL := Lib.hid S2.out.al
  have W3 := Lib.hid S2.out.w3
  clear hB htl CM
  go_wp2_with fail
  refine CA.out.mono ?_
  rintro e w3 (⟨As', cs', Am', cm', hc, rfl, HE, HSt, HTn⟩ | ⟨v, hc, rfl, HE, HSt, HTn⟩)
  case inr =>
    obtain ⟨Te, xe, rfl, hTe⟩ := HE.out.fault hc
    have NE := fun V => neq_errV hTe xe V
    obtain ⟨w4, hw4⟩ : ∃ w4, w4 = w3.alloc (.cells #[.slice none 0 0, .slice none 0 0] 31) := ⟨_, rfl⟩
    have S4 := Lib.hid ((S2.out.same HSt.out HTn.out).below (V := w4) (by rw [hw4]; exact (Below.refl _ _).alloc (Nat.le_refl _) _))
    have W4 := Lib.hid (show w3.alloc (.cells #[.slice none 0 0, .slice none 0 0] 31) = w4 from hw4.symm)
    have CW := Lib.hid (wakes_any w4 S4.out.dr)
    clear hw4
    go_upto_region 4 with (fail)
    rw [W4.out]
    go_wp2_with fail
    refine CW.out.mono ?_
    rintro e w5 ⟨rfl, hb5⟩
    go_wp2_with fail
    go_ret
    exact ⟨rfl, below_next S4.out.bel S4.out.bel.size hb5⟩
  case inl =>
    obtain ⟨p1, hp1⟩ : ∃ x, (Co.lessL ([] : List Co.EnD) B.l).length = x := ⟨_, rfl⟩
    obtain ⟨p2, hp2⟩ : ∃ x, (Co.lessL B.l ([] : List Co.EnD)).length = x := ⟨_, rfl⟩
    rw [hp1, hp2]
    obtain ⟨w4, hw4⟩ : ∃ w4, w4 = w3.alloc (.cells #[.slice As' p1 cs', .slice Am' p2 cm'] 31) := ⟨_, rfl⟩
    have b4 : Below w3.heap.size w3 w4 := by rw [hw4]; exact (Below.refl _ _).alloc (Nat.le_refl _) _
    have T4 := Lib.hid (HTn.out.next b4)
    have SS4 := Lib.hid (HSt.out.below b4 HSt.out.lta HSt.out.ltb)
    have HT4 := Lib.hid (HT.out.turn T4.out (S2.out.lts S1.out.le))
    have W4 := Lib.hid (show w3.alloc (.cells #[.slice As' p1 cs', .slice Am' p2 cm'] 31) = w4 from hw4.symm)
    have CR0 : Calls Tryz.prog 12 #[.slice none 0 0, .slice At ts.length ct, .int .i64 1] w4 _ := S2.out.rap (m := []) (Am := none) (cm := 0) T4.out (by decide) HT4.out 1
    rw [HB.out, HTL.out] at CR0
    have CR := Lib.hid CR0
    clear CR0 hw4 b4 hp1 hp2 HE
    go_upto_region 4 with (fail)
    rw [W4.out]
    go_wp2_with fail
    refine CR.out.mono ?_
    rintro e w5 ⟨A5, c5, rfl, HE5, HB5⟩
    have S5 := Lib.hid (S2.out.next SS4.out T4.out HE5.out HB5.out KP.out.2.1 KP.out.2.2)
    obtain ⟨o1, ho1⟩ : ∃ x, B.code = x := ⟨_, rfl⟩
    obtain ⟨o2, ho2⟩ : ∃ x, B.at_ = x := ⟨_, rfl⟩
    obtain ⟨o3, ho3⟩ : ∃ x, B.inn = x := ⟨_, rfl⟩
    rw [ho1, ho2, ho3]
    clear ho1 ho2 ho3 hc CR CA
    obtain ⟨L, hL⟩ : ∃ L, B.l = L := ⟨_, rfl⟩
    rw [hL] at S5
    rw [hL]
    clear hL KP HB HSt SS4 HTn T4 HT4 HE5 HB5 HT
    have CM := Lib.hid (S5.out.made (by decide) ((HY.out.keep (Kept.of_below S5.out.bel (Nat.le_refl _))).wide (Nat.le_refl _) S5.out.bel.size) OY.out (h := 2) (by decide) (by decide))
    obtain ⟨l5, hl5⟩ : ∃ x, L.length = x := ⟨_, rfl⟩
    have HL5 := Lib.hid hl5
    rw [HNY.out, hl5] at CM
    rw [hl5]
    clear hl5
    go_wp2_with fail
    refine CM.out.mono ?_
    rintro e w6 ⟨At2, ct2, us, rfl, HT6, HB6⟩
    have S6 := Lib.hid (S5.out.below HB6.out)
    have CC := Lib.hid (Co.copy_any a b L w6 S6.out.set)
    obtain ⟨n, hn⟩ : ∃ x, us.length = x := ⟨_, rfl⟩
    have HN2 := Lib.hid hn
    have hn5 : n ≤ 5 := by have := HT6.out.2.2.1; omega
    rw [hn]
    clear hn CM
    go_wp2_with fail
    refine CC.out.mono ?_
    rintro e w7 ⟨rfl, s7, b7⟩
    obtain ⟨a2, ha2⟩ : ∃ x, x = w6.heap.size + 1 := ⟨_, rfl⟩
    obtain ⟨b2, hb2⟩ : ∃ x, x = w6.heap.size := ⟨_, rfl⟩
    have s7' : Co.SetIs w7 a2 b2 L := by rw [ha2, hb2]; exact s7
    have SO7 := Lib.hid s7'
    have S7 := Lib.hid (S6.out.below b7)
    have HT7 := Lib.hid (HT6.out.below b7)
    have CA := Lib.hid (S7.out.apply (by decide) HT7.out S5.out.le 2)
    obtain ⟨P, hP⟩ : ∃ P, blkF 2 us 0 L = P := ⟨_, rfl⟩
    have HP := Lib.hid hP
    have PC := Lib.hid (show (blkA L us 2).code = P.code ∧ (P.code = 0 → (blkA L us 2).l = P.l) from by
      rw [← hP]
      by_cases hz : (blkF 2 us 0 L).code = 0
      · rw [blk_ok (by decide) (by decide) hz]; exact ⟨rfl, fun _ => rfl⟩
      · rw [blk_no (by decide) (by decide) hz]; exact ⟨rfl, fun h => absurd h hz⟩)
    have KP := Lib.hid (S7.out.keeps HT7.out 2)
    obtain ⟨B, hB⟩ : ∃ B, blkA L us 2 = B := ⟨_, rfl⟩
    rw [hB] at CA PC KP
    rw [HN2.out] at CA
    have A2 := Lib.hid (And.intro ha2 hb2)
    have AL5 := Lib.hid S5.out.al
    have LE5 := Lib.hid (And.intro S5.out.le HB6.out.size)
    have TX6 := Lib.hid (HT6.out)
    rw [← ha2]
    have HB7 := Lib.hid b7
    clear s7 s7' ha2 hb2 hP hB b7 CC
    go_wp2_with fail
    refine CA.out.mono ?_
    rintro e w8 (⟨As', cs', Am', cm', hc, rfl, HE, HSt, HTn⟩ | ⟨v, hc, rfl, HE, HSt, HTn⟩)
    · obtain ⟨q1, hq1⟩ : ∃ x, (Co.lessL L B.l).length = x := ⟨_, rfl⟩
      obtain ⟨q2, hq2⟩ : ∃ x, (Co.lessL B.l L).length = x := ⟨_, rfl⟩
      rw [hq1, hq2]
      clear hq1 hq2
      obtain ⟨w9, hw9⟩ : ∃ w9, w9 = w8.alloc (.cells #[.slice As' q1 cs', .slice Am' q2 cm'] 31) := ⟨_, rfl⟩
      have b9 : Below w8.heap.size w8 w9 := by rw [hw9]; exact (Below.refl _ _).alloc (Nat.le_refl _) _
      have h9 : w9.heap[w8.heap.size]? = some (.cells #[.slice As' q1 cs', .slice Am' q2 cm'] 31 (0, 0)) := by rw [hw9]; exact heap_alloc_new _ _
      have zw9 : w9.heap.size = w8.heap.size + 1 := by rw [hw9]; simp
      have W9 := Lib.hid (show w8.alloc (.cells #[.slice As' q1 cs', .slice Am' q2 cm'] 31) = w9 from hw9.symm)
      have T9 := Lib.hid (HTn.out.next b9)
      have SS9 := Lib.hid (HSt.out.below b9 HSt.out.lta HSt.out.ltb)
      have SO9 := Lib.hid (show Co.SetIs w9 a2 b2 L from by
        have := AL5.out
        have h1 := A2.out.1
        have h2 := A2.out.2
        have h3 := LE5.out
        exact SO7.out.keep (T9.out.block a2 SO7.out.lta (by simp; omega)) (T9.out.block b2 SO7.out.ltb (by simp; omega)))
      have FT := Lib.hid (S7.out.turn T9.out)
      have TX9 := Lib.hid (show Txs w9 w5.heap.size w6.heap.size (.slice At2 n ct2) us from by
        have h1 := TX6.out.1
        rw [HN2.out] at h1
        have h2 : Txs w7 w5.heap.size w6.heap.size (.slice At2 n ct2) us := h1.keep (Kept.of_below HB7.out (Nat.le_refl _))
        exact h2.keep (T9.out.kept (S7.out.off LE5.out.1) HB7.out.size))
      have H9 := Lib.hid h9
      have ZW := Lib.hid (And.intro zw9 (And.intro HTn.out.size HB7.out.size))
      have G0 := Lib.hid (And.intro S7.out.set.good S7.out.arg)
      have LL := Lib.hid (show L.length ≤ 20 from by have := S5.out.len; exact this)
      clear hw9 b9 h9 zw9 CA
      go_upto_region 10 with (fail)
      rw [W9.out]
      go_wp2_with fail
      go_loopg [17, 57] n (fun gg s17 s57 wr => ∃ (i : Nat) (m : List Co.EnD), i ≤ n ∧ n - i ≤ gg ∧ s17 = .nilIface ∧ s57 = .int .i64 (i : Int) ∧ Hid (Co.SetIs wr a2 b2 m) ∧ Hid (Tn [a2, b2] w9 wr) ∧ Hid (blkF 2 (us.drop i) i m = P ∧ Co.Good m ∧ Co.Arg m ∧ m.length + outsN (us.drop i) ≤ 40))
      case atStart => exact ⟨0, L, Nat.zero_le _, by omega, rfl, rfl, SO9, Lib.hid (Tn.refl _ _), Lib.hid ⟨by rw [List.drop_zero]; exact HP.out, G0.out.1, G0.out.2, by rw [List.drop_zero]; have := LL.out; have := TX6.out.2.2.2; omega⟩⟩
      case round =>
        obtain ⟨i, m, hi, hgi, rfl, rfl, HM, HTr, HPK⟩ := hrel
        have NA2 := Lib.hid (show ∀ k, k < w6.heap.size ∨ w7.heap.size ≤ k → k ∉ [a2, b2] from fun k hk hm => by
          have := A2.out
          have := SO7.out.lta
          simp at hm
          omega)
        have DRr := Lib.hid (FT.out.2.2.1.tn HTr.out (fun i hi => by have := A2.out; have := S5.out.w3; have := S5.out.bel.size; have := LE5.out; simp at hi; omega))
        have BLr := Lib.hid (Tn.below FT.out.2.1 HTr.out (fun i hi => by have := A2.out; have := S5.out.bel.size; have := LE5.out; simp at hi; omega) FT.out.2.1.size)
        have SSr := Lib.hid (show Co.SetIs wr a b B.l from by
          have := AL5.out
          have := LE5.out
          exact SS9.out.keep (HTr.out.block a SS9.out.lta (NA2.out a (.inl (by omega)))) (HTr.out.block b SS9.out.ltb (NA2.out b (.inl (by omega)))))
        have Ur := Lib.hid (box_in H9.out HTr.out (NA2.out _ (.inr (by have := ZW.out; omega))))
        have TXr := Lib.hid (show Txs wr w5.heap.size w6.heap.size (.slice At2 n ct2) us from TX9.out.keep (HTr.out.kept (fun k hk => by have := A2.out; simp at hk; rcases hk with rfl | rfl <;> exact .inr (by omega)) (by have := ZW.out; omega)))
        have hzr := HTr.out.size
        by_cases hlt : i < n
        · have j1 : (i : Int) < (n : Int) := by omega
          have j2 : decide (i < n) = true := decide_eq_true hlt
          have j3 : ¬ (i : Int) < 0 := by omega
          obtain ⟨t, hx⟩ : ∃ x, us[i]? = some x := ⟨_, List.getElem?_eq_getElem (by rw [HN2.out]; exact hlt)⟩
          obtain ⟨bi, oi, rfl, g1, g2, c0, ⟨vi, vo, c1, c2, htx⟩, c3⟩ := TXr.out.at hx
          have hot := TX6.out.2.1 t (List.mem_of_getElem? hx)
          have HOT := Lib.hid hot
          have BG := Lib.hid (blk_go (h := 2) (l := m) hx)
          have BSp := Lib.hid (blk_stop (h := 2) (l := m) hx)
          have LG := Lib.hid (late_grant (l := m) (t := t) (h := 2))
          have B1 := Lib.hid (blk_one (l := m) (t := t) (h := 2) (by decide) (by decide))
          have FI := Lib.hid (one_first (l := m) (t := t) (a := true) (b := (i == 0)) (h := 2))
          have OKP := Lib.hid (one_keeps (first := i == 0) hot (by decide : (0 : Int) ≤ 2) (by decide) HPK.out.2.1 HPK.out.2.2.1)
          have HDR := Lib.hid (show outsN (us.drop i) = t.outs.length + outsN (us.drop (i + 1)) from by
            obtain ⟨hkk, he⟩ := List.getElem?_eq_some_iff.1 hx
            rw [List.drop_eq_getElem_cons hkk, he]
            simp [outsN])
          obtain ⟨A1, m1, rfl⟩ := htx.1.form
          obtain ⟨A3, m3, rfl⟩ := htx.2.form
          obtain ⟨wa, hwa⟩ : ∃ wa, wa = wr.alloc (.cells #[.int .u32 t.ver, .slice A1 t.ins.length m1, .slice A3 t.outs.length m3, .int .u32 t.lock] 51) := ⟨_, rfl⟩
          have ba : Below wr.heap.size wr wa := by rw [hwa]; exact (Below.refl _ _).alloc (Nat.le_refl _) _
          have zwa : wa.heap.size = wr.heap.size + 1 := by rw [hwa]; simp
          have bxa : wa.heap[wr.heap.size]? = some (.cells #[.int .u32 t.ver, .slice A1 t.ins.length m1, .slice A3 t.outs.length m3, .int .u32 t.lock] 51 (0, 0)) := by rw [hwa]; exact heap_alloc_new _ _
          have Wa := Lib.hid (show wr.alloc (.cells #[.int .u32 t.ver, .slice A1 t.ins.length m1, .slice A3 t.outs.length m3, .int .u32 t.lock] 51) = wa from hwa.symm)
          have htx' : TxAt wr w5.heap.size w6.heap.size (.slice A1 t.ins.length m1) (.slice A3 t.outs.length m3) t := htx
          have CB := Lib.hid (fun V (hV : Below wr.heap.size wr V) => base_any t (.slice A1 t.ins.length m1) (.slice A3 t.outs.length m3) V _ _ (htx'.1.keep (Kept.of_below hV (by have := ZW.out; omega))) (by have := hV.size; have := ZW.out; omega))
          have CO := Lib.hid (fun V (hV : Below wr.heap.size wr V) => apply_one a2 b2 m t 2 V w5.heap.size w6.heap.size A1 A3 m1 m3 (HM.out.below hV HM.out.lta HM.out.ltb) HPK.out.2.2.1 (by have := HPK.out.2.2.2; omega) (htx'.keep (Kept.of_below hV (by have := ZW.out; omega))) (by have := hV.size; have := ZW.out; omega)
            (fun k hk => by have := A2.out; simp at hk; rcases hk with rfl | rfl <;> exact .inr (by omega)) hot (by have := HPK.out.2.2.2; have := HDR.out; have := TX6.out.2.2.2; have h5 : outsN (us.drop i) ≤ outsN us := by { unfold outsN; rw [List.map_drop]; have e := List.sum_append (l₁ := (us.map fun t => t.outs.length).take i) (l₂ := (us.map fun t => t.outs.length).drop i); rw [List.take_append_drop] at e; omega }; omega) (DRr.out.below hV) (by have := A2.out; have := S5.out.w3; have := S5.out.bel.size; have := LE5.out; omega) (by have := A2.out; have := S5.out.w3; have := S5.out.bel.size; have := LE5.out; omega))
          obtain ⟨n1, hn1⟩ : ∃ x, t.ins.length = x := ⟨_, rfl⟩
          obtain ⟨n3, hn3⟩ : ∃ x, t.outs.length = x := ⟨_, rfl⟩
          rw [hn1, hn3] at CB CO Wa bxa
          rw [hn1] at c1
          rw [hn3] at c2
          have HN13 := Lib.hid (And.intro hn1 hn3)
          have Ba := Lib.hid ba
          have Za := Lib.hid zwa
          have BXa := Lib.hid bxa
          have d0' := Co.cell_in (o := 0) (v := .int .u32 t.ver) bxa rfl
          have d1' := Co.cell_in (o := 1) (v := .slice A1 n1 m1) bxa rfl
          have d2' := Co.cell_in (o := 2) (v := .slice A3 n3 m3) bxa rfl
          have d3' := Co.cell_in (o := 3) (v := .int .u32 t.lock) bxa rfl
          have lta : wr.heap.size < wa.heap.size := by omega
          have CBa := Lib.hid (CB.out wa ba)
          clear hwa ba zwa bxa htx htx' hot hx hn1 hn3
          -- Apply of the one transaction, from a world V behind wa
          have STEP : ∀ V, Below wa.heap.size wa V → (0 < i → isBase t.ins = false) → True := fun _ _ _ => trivial
          clear STEP
          by_cases hi0 : i = 0
          · have e1 : ¬ (i : Int) > 0 := by omega
            have e2 : decide ((i : Int) > 0) = false := decide_eq_false e1
            have e3 : decide (0 < i) = false := decide_eq_false (by omega)
            have FF : (i == 0) = true := by simp [hi0]
            have FQ := Lib.hid (show oneA m t true 2 = oneA m t (i == 0) 2 from by rw [FF])
            have CO1 := Lib.hid (CO.out wa Ba.out)
            have Bx := Ba
            clear hi0 FF
            go_upto_region 14 with (fail)
            rw [Wa.out]
            clear c0 c1 c2 c3
            go_wp2_with fail
            refine CO1.out.mono ?_
            rintro e wc ⟨_, _, _, _, _, _, v2, rfl, HE2, HS2, HT2⟩
            rw [B1.out.1, FQ.out] at HE2
            have Tc := Lib.hid ((HTr.out.next Bx.out).trans HT2.out)
            obtain ⟨oc, hoc⟩ : ∃ c, (oneA m t (i == 0) 2).code = c := ⟨_, rfl⟩
            rw [hoc] at BG BSp HE2
            by_cases hz : oc = 0
            · subst hz
              have EV : v2 = .nilIface := by
                rcases HE2.out with ⟨_, _, _, h⟩ | ⟨h, _⟩ | ⟨h, _⟩
                · exact h
                · exact absurd rfl h
                · exact absurd rfl h
              subst EV
              have SN := Lib.hid (show Co.SetIs wc a2 b2 (oneA m t (i == 0) 2).l from by
                have := HS2.out
                rw [B1.out.2 (by rw [FQ.out]; exact hoc), FQ.out] at this
                exact this)
              have G := Lib.hid (BG.out rfl)
              have OKQ := Lib.hid OKP.out
              clear hoc
              go_wp2_with fail
              go_roundg (n - (i + 1))
              case measure => omega
              case rel => exact ⟨i + 1, _, by omega, by omega, rfl, by go_num, SN, Tc, Lib.hid ⟨G.out.symm.trans HPK.out.1, OKQ.out.1, OKQ.out.2.1, by have h1 := OKQ.out.2.2; have h2 := HPK.out.2.2.2; rw [HDR.out] at h2; omega⟩⟩
            · have G := Lib.hid ((BSp.out hz).symm.trans HPK.out.1)
              have PCC := Lib.hid (show P.code = oc from by rw [← G.out])
              exact absurd (show P.code = 0 from by rw [← PC.out.1]; exact hc) (by rw [PCC.out]; exact hz)
          · have e1 : (i : Int) > 0 := by omega
            have e2 : decide ((i : Int) > 0) = true := decide_eq_true e1
            have e3 : decide (0 < i) = true := decide_eq_true (by omega)
            have e4 : 0 < i := by omega
            have FF : (i == 0) = false := by simp [hi0]
            clear hi0
            go_upto_region 14 with (fail)
            rw [Wa.out]
            clear c0 c1 c2 c3
            cases hb : isBase t.ins with
            | true =>
              rw [hb] at CBa
              have LGi := LG.out hb
              rw [FF] at BSp BG
              exact absurd (show P.code = 0 from by rw [← PC.out.1]; exact hc) (by
                have G := (BSp.out LGi).symm.trans HPK.out.1
                rw [← G]
                exact LGi)
            | false =>
              rw [hb] at CBa
              have FQ := Lib.hid (FI.out hb)
              clear hb FF
              go_wp2_with fail
              refine CBa.out.mono ?_
              rintro e wb ⟨rfl, hbb⟩
              have Bx := Lib.hid (below_next Ba.out Ba.out.size hbb)
              have CO1 := Lib.hid (CO.out wb Bx.out)
              obtain ⟨d0, d1, d2, d3⟩ : wb.cell? ⟨wr.heap.size, 0, none⟩ = some (.int .u32 t.ver) ∧ wb.cell? ⟨wr.heap.size, 1, none⟩ = some (.slice A1 n1 m1) ∧ wb.cell? ⟨wr.heap.size, 2, none⟩ = some (.slice A3 n3 m3) ∧ wb.cell? ⟨wr.heap.size, 3, none⟩ = some (.int .u32 t.lock) := by
                have k := (hbb.block _ lta).trans BXa.out
                exact ⟨Co.cell_in k rfl, Co.cell_in k rfl, Co.cell_in k rfl, Co.cell_in k rfl⟩
              have ltb : wr.heap.size < wb.heap.size := by have := hbb.size; omega
              clear d0' d1' d2' d3' hbb
              go_wp2_with fail
              refine CO1.out.mono ?_
              rintro e wc ⟨_, _, _, _, _, _, v2, rfl, HE2, HS2, HT2⟩
              rw [B1.out.1, FQ.out] at HE2
              have Tc := Lib.hid ((HTr.out.next Bx.out).trans HT2.out)
              obtain ⟨oc, hoc⟩ : ∃ c, (oneA m t (i == 0) 2).code = c := ⟨_, rfl⟩
              rw [hoc] at BG BSp HE2
              by_cases hz : oc = 0
              · subst hz
                have EV : v2 = .nilIface := by
                  rcases HE2.out with ⟨_, _, _, h⟩ | ⟨h, _⟩ | ⟨h, _⟩
                  · exact h
                  · exact absurd rfl h
                  · exact absurd rfl h
                subst EV
                have SN := Lib.hid (show Co.SetIs wc a2 b2 (oneA m t (i == 0) 2).l from by
                  have := HS2.out
                  rw [B1.out.2 (by rw [FQ.out]; exact hoc), FQ.out] at this
                  exact this)
                have G := Lib.hid (BG.out rfl)
                have OKQ := Lib.hid OKP.out
                clear hoc
                go_wp2_with fail
                go_roundg (n - (i + 1))
                case measure => omega
                case rel => exact ⟨i + 1, _, by omega, by omega, rfl, by go_num, SN, Tc, Lib.hid ⟨G.out.symm.trans HPK.out.1, OKQ.out.1, OKQ.out.2.1, by have h1 := OKQ.out.2.2; have h2 := HPK.out.2.2.2; rw [HDR.out] at h2; omega⟩⟩
              · have G := Lib.hid ((BSp.out hz).symm.trans HPK.out.1)
                have PCC := Lib.hid (show P.code = oc from by rw [← G.out])
                exact absurd (show P.code = 0 from by rw [← PC.out.1]; exact hc) (by rw [PCC.out]; exact hz)
        · have k3 : ¬ (i : Int) < (n : Int) := by omega
          have k4 : decide (i < n) = false := decide_eq_false hlt
          obtain rfl : i = n := by omega
          have HE0 := Lib.hid ((blk_end (h := 2) (xs := us) (k := i) (l := m) (by rw [HN2.out]; exact Nat.le_refl _)).symm.trans HPK.out.1)
          have PE : B.l = m := by rw [PC.out.2 (by rw [← HE0.out]), ← HE0.out]
          have SO := Lib.hid (show Co.SetIs wr a2 b2 B.l from by rw [PE]; exact HM.out)
          have AG := Lib.hid (show Co.Arg B.l from KP.out.2.1)
          have LN := Lib.hid (show B.l.length ≤ 40 from by have := KP.out.2.2; omega)
          have LM := LN
          have EQ := eq_nilnil
          have CC := Lib.hid (fun x : After wr => code_nil x.val)
          have CI := Lib.hid (fun x : After wr => (is_nil 0 x.val).mono fun e w' (h : e = .returned (.bool false) ∧ w' = x.val) => show e = .returned (.bool false) ∧ Below x.val.heap.size x.val w' from ⟨h.1, by rw [h.2]; exact Below.refl _ _⟩)
          have HNE : Nonempty (After wr) := ⟨⟨wr, Below.refl _ _⟩⟩
          clear PE
          have ltu : w8.heap.size < wr.heap.size := lt_of_blk Ur.out
          have AB := Lib.hid (show 3 ≤ a ∧ 3 ≤ b from by have := AL5.out; have := S5.out.w3; omega)
          go_upto_region 19 with (fail)
          refine wp_region_after (by kernel_rfl) (by kernel_rfl) ?_
          repeat (go_big_quiet_step ((first | (go_at_call 13; exact After.call _ (CC.out _)) | (go_at_call 20; exact After.call _ (CI.out _)))))
          refine wpQuiet_nil ?_
          rintro _ ⟨x, rfl⟩
          have hx := x.ok
          obtain ⟨w20, hw20⟩ : ∃ w20, w20 = x.val := ⟨_, rfl⟩
          rw [← hw20] at hx ⊢
          have X20 := Lib.hid hx
          have S20 := Lib.hid (SSr.out.below hx SSr.out.lta SSr.out.ltb)
          have O20 := Lib.hid (SO.out.below hx SO.out.lta SO.out.ltb)
          have D20 := Lib.hid (DRr.out.below hx)
          have CA0 : Calls Tryz.prog 11 #[.pointer (some ⟨a, 0, none⟩), .slice none 0 0, .int .i64 3] w20 (ApEnd a b B.l (blkA B.l [] 3) w20) := blk_any a b B.l [] 3 none 0 w20 0 0 S20.out AG.out Lst.nil (Nat.zero_le _) (fun _ _ => .inr (Nat.zero_le _)) (by simp) (by decide) (by have := LN.out; show _ + 0 ≤ 900; omega) D20.out AB.out.1 AB.out.2
          rw [blk_empty.2.1 (by decide)] at CA0
          have CA := Lib.hid CA0
          clear CA0 hx hw20
          go_wp2_with fail
          refine CA.out.mono ?_
          rintro e w21 ⟨s21, t21, hh⟩
          rcases hh with ⟨_, vs, vm, rfl, x1, x2⟩ | ⟨h0, _⟩
          case inr => exact absurd rfl h0
          rw [show Co.lessL (BlkA.l ⟨B.l, 0, -1, -1⟩) B.l = [] from Co.less_self S20.out.good.srt] at x2
          rw [show Co.lessL B.l (BlkA.l ⟨B.l, 0, -1, -1⟩) = [] from Co.less_self S20.out.good.srt] at x1
          obtain ⟨Av, cv, rfl⟩ : ∃ A c, vs = .slice A 0 c := x1.form
          obtain ⟨Aw, cw, rfl⟩ : ∃ A c, vm = .slice A 0 c := x2.form
          obtain ⟨w22, hw22⟩ : ∃ w22, w22 = w21.alloc (.cells #[.slice Av 0 cv, .slice Aw 0 cw] 31) := ⟨_, rfl⟩
          have b22 : Below w21.heap.size w21 w22 := by rw [hw22]; exact (Below.refl _ _).alloc (Nat.le_refl _) _
          have h22 : w22.heap[w21.heap.size]? = some (.cells #[.slice Av 0 cv, .slice Aw 0 cw] 31 (0, 0)) := by rw [hw22]; exact heap_alloc_new _ _
          have W22 := Lib.hid (show w21.alloc (.cells #[.slice Av 0 cv, .slice Aw 0 cw] 31) = w22 from hw22.symm)
          have zw22 : w22.heap.size = w21.heap.size + 1 := by rw [hw22]; simp
          have S22 := Lib.hid (show Co.SetIs w22 a b B.l from s21.below b22 s21.lta s21.ltb)
          have NAB := Lib.hid (show ∀ k, w7.heap.size ≤ k ∨ (w6.heap.size ≤ k) → k ∉ [a, b] from fun k hk hm => by have := AL5.out; have := LE5.out; have := HB7.out.size; simp at hm; omega)
          have O22 := Lib.hid (show Co.SetIs w22 a2 b2 B.l from by
            have h1 := O20.out.keep (t21.block a2 O20.out.lta (NAB.out _ (.inr (by have := A2.out; omega)))) (t21.block b2 O20.out.ltb (NAB.out _ (.inr (by have := A2.out; omega))))
            exact h1.below b22 h1.lta h1.ltb)
          have U22 := Lib.hid (show w22.heap[w8.heap.size]? = some (.cells #[.slice As' q1 cs', .slice Am' q2 cm'] 31 (0, 0)) from (b22.block _ (by have := t21.size; have := X20.out.size; omega)).trans (box_in ((X20.out.block _ ltu).trans Ur.out) t21 (NAB.out _ (.inl (by have := ZW.out; omega)))))
          have D22 := Lib.hid ((D20.out.tn t21 (fun i hi => by have := AB.out; simp at hi; omega)).below b22)
          have BL22 := Lib.hid (show Below w.heap.size w w22 from below_next (Tn.below (BLr.out.trans (X20.out.mono BLr.out.size)) t21 (fun i hi => by have := AL5.out; have := S5.out.al; simp at hi; omega) (by have := BLr.out.size; have := X20.out.size; omega)) (by have := BLr.out.size; have := X20.out.size; have := t21.size; omega) b22)
          have lt8 : w8.heap.size < w22.heap.size := by have := t21.size; have := X20.out.size; omega
          have lt21 : w21.heap.size < w22.heap.size := by omega
          have H22 := Lib.hid h22
          have CA1 := Lib.hid (Co.all_any a b B.l w22 S22.out (by have := LN.out; omega))
          have NN' := neq_nilnil
          clear s21 t21 x1 x2 hw22 b22 h22 zw22 CA
          go_upto_region 22 with (fail)
          rw [W22.out]
          go_wp2_with fail
          refine CA1.out.mono ?_
          rintro e w23 ⟨v23, rfl, en23, b23⟩
          obtain ⟨A23, c23, hv⟩ := en23.form
          obtain ⟨la, hla⟩ : ∃ x, B.l.length = x := ⟨_, rfl⟩
          rw [hla] at hv
          subst hv
          have HLA := Lib.hid hla
          have EN23 := Lib.hid en23
          have B23 := Lib.hid b23
          have CA2 := Lib.hid (Co.all_any a2 b2 B.l w23 (O22.out.below b23 O22.out.lta O22.out.ltb) (by have := LM.out; omega))
          clear en23 b23 CA1 hla
          go_wp2_with fail
          refine CA2.out.mono ?_
          rintro e w24 ⟨v24, rfl, en24, b24⟩
          obtain ⟨A24, c24, hv⟩ := en24.form
          obtain ⟨lb2, hlb⟩ : ∃ x, B.l.length = x := ⟨_, rfl⟩
          rw [hlb] at hv
          subst hv
          have HLB := Lib.hid hlb
          have B24 := Lib.hid (below_next B23.out B23.out.size b24)
          have EN24 := Lib.hid en24
          have EW24 := Lib.hid (EN23.out.keep (Kept.of_below b24 (Nat.le_refl _)))
          have v0 := Co.cell_in (o := 0) (v := .slice Av 0 cv) ((B24.out.block _ lt21).trans H22.out) rfl
          have v1 := Co.cell_in (o := 1) (v := .slice Aw 0 cw) ((B24.out.block _ lt21).trans H22.out) rfl
          have lt24 : w21.heap.size < w24.heap.size := by have := B24.out.size; omega
          have lt24' : w8.heap.size < w24.heap.size := by have := B24.out.size; omega
          have Z24 := Lib.hid b24.size
          have q0 : ((la : Int) != (la : Int)) = false := by simp
          obtain rfl : la = lb2 := by rw [← HLB.out, HLA.out]
          clear en24 b24 CA2 hlb
          go_wp2_with fail
          have hla40 : la ≤ 40 := by have := HLA.out; have := LN.out; omega
          obtain ⟨w25, hw25⟩ : ∃ w25, w25 = w24 := ⟨_, rfl⟩
          go_loopg [146] la (fun gg s146 wr => ∃ j : Nat, j ≤ la ∧ la - j ≤ gg ∧ s146 = .int .i64 (j : Int) ∧ Hid (Below w24.heap.size w24 wr))
          case atStart => exact ⟨0, Nat.zero_le _, by omega, rfl, Lib.hid (Below.refl _ _)⟩
          case round =>
            obtain ⟨j, hj, hgj, rfl, HB⟩ := hrel
            by_cases hlj : j < la
            · have k1 : (j : Int) < (la : Int) := by omega
              have k2 : decide (j < la) = true := decide_eq_true hlj
              have k3 : ¬ (j : Int) < 0 := by omega
              obtain ⟨z, hzj⟩ : ∃ z, B.l[j]? = some z := ⟨_, List.getElem?_eq_getElem (by rw [HLA.out]; exact hlj)⟩
              obtain ⟨b3, o3, rfl, g5, g6, c0, c1, c2, c3, c4⟩ := (EW24.out.keep (Kept.of_below HB.out Z24.out)).at hzj
              obtain ⟨b4, o4, rfl, g7, g8, d0, d1, d2, d3, d4⟩ := (EN24.out.keep (Kept.of_below HB.out (Nat.le_refl _))).at hzj
              have n1 := Co.run_neq_en
              have n2 := Co.en_guard
              have n5 : Co.ptB z.id z.ix z.id z.ix = true := Co.ptB_refl _ _
              have n6 : Co.coB z.val z.scr z.ht z.val z.scr z.ht = true := Co.coB_refl _ _ _
              clear hzj
              go_wp2_with fail
              go_quiet (fail)
              go_wp2_with fail
              go_roundg (la - (j + 1))
              case measure => omega
              case rel => exact ⟨j + 1, by omega, by omega, by go_num, Lib.hid (below_drewN HB.out _)⟩
            · have k3 : ¬ (j : Int) < (la : Int) := by omega
              have k4 : decide (j < la) = false := decide_eq_false hlj
              have BX := Lib.hid (below_next B24.out B24.out.size HB.out)
              have CW := Lib.hid (wakes_any _ (D22.out.below BX.out))
              go_wp2_with fail
              refine CW.out.mono ?_
              rintro e w30 ⟨rfl, hb30⟩
              go_wp2_with fail
              go_ret
              exact ⟨rfl, below_next (below_next BL22.out BL22.out.size BX.out) (by have := BL22.out.size; have := BX.out.size; omega) hb30⟩
    · obtain ⟨Te, xe, rfl, hTe⟩ := HE.out.fault hc
      have NE := fun V => neq_errV hTe xe V
      have EQ := fun V => eq_errV hTe xe V
      obtain ⟨w9, hw9⟩ : ∃ w9, w9 = w8.alloc (.cells #[.slice none 0 0, .slice none 0 0] 31) := ⟨_, rfl⟩
      have b9 : Below w8.heap.size w8 w9 := by rw [hw9]; exact (Below.refl _ _).alloc (Nat.le_refl _) _
      have h9 : w9.heap[w8.heap.size]? = some (.cells #[.slice none 0 0, .slice none 0 0] 31 (0, 0)) := by rw [hw9]; exact heap_alloc_new _ _
      have zw9 : w9.heap.size = w8.heap.size + 1 := by rw [hw9]; simp
      have W9 := Lib.hid (show w8.alloc (.cells #[.slice none 0 0, .slice none 0 0] 31) = w9 from hw9.symm)
      have T9 := Lib.hid (HTn.out.next b9)
      have SS9 := Lib.hid (HSt.out.below b9 HSt.out.lta HSt.out.ltb)
      have SO9 := Lib.hid (show Co.SetIs w9 a2 b2 L from by
        have := AL5.out
        have h1 := A2.out.1
        have h2 := A2.out.2
        have h3 := LE5.out
        exact SO7.out.keep (T9.out.block a2 SO7.out.lta (by simp; omega)) (T9.out.block b2 SO7.out.ltb (by simp; omega)))
      have FT := Lib.hid (S7.out.turn T9.out)
      have TX9 := Lib.hid (show Txs w9 w5.heap.size w6.heap.size (.slice At2 n ct2) us from by
        have h1 := TX6.out.1
        rw [HN2.out] at h1
        have h2 : Txs w7 w5.heap.size w6.heap.size (.slice At2 n ct2) us := h1.keep (Kept.of_below HB7.out (Nat.le_refl _))
        exact h2.keep (T9.out.kept (S7.out.off LE5.out.1) HB7.out.size))
      have H9 := Lib.hid h9
      have BW9 := Lib.hid b9
      have ZW := Lib.hid (And.intro zw9 (And.intro HTn.out.size HB7.out.size))
      have G0 := Lib.hid (And.intro S7.out.set.good S7.out.arg)
      have LL := Lib.hid (show L.length ≤ 20 from by have := S5.out.len; exact this)
      clear hw9 b9 h9 zw9 CA
      go_upto_region 10 with (fail)
      rw [W9.out]
      go_wp2_with fail
      go_loopg [17, 57] n (fun gg s17 s57 wr => ∃ (i : Nat) (m : List Co.EnD), i ≤ n ∧ n - i ≤ gg ∧ s17 = .nilIface ∧ s57 = .int .i64 (i : Int) ∧ Hid (Co.SetIs wr a2 b2 m) ∧ Hid (Tn [a2, b2] w9 wr) ∧ Hid (blkF 2 (us.drop i) i m = P ∧ Co.Good m ∧ Co.Arg m ∧ m.length + outsN (us.drop i) ≤ 40))
      case atStart => exact ⟨0, L, Nat.zero_le _, by omega, rfl, rfl, SO9, Lib.hid (Tn.refl _ _), Lib.hid ⟨by rw [List.drop_zero]; exact HP.out, G0.out.1, G0.out.2, by rw [List.drop_zero]; have := LL.out; have := TX6.out.2.2.2; omega⟩⟩
      case round =>
        obtain ⟨i, m, hi, hgi, rfl, rfl, HM, HTr, HPK⟩ := hrel
        have NA2 := Lib.hid (show ∀ k, k < w6.heap.size ∨ w7.heap.size ≤ k → k ∉ [a2, b2] from fun k hk hm => by
          have := A2.out
          have := SO7.out.lta
          simp at hm
          omega)
        have DRr := Lib.hid (FT.out.2.2.1.tn HTr.out (fun i hi => by have := A2.out; have := S5.out.w3; have := S5.out.bel.size; have := LE5.out; simp at hi; omega))
        have BLr := Lib.hid (Tn.below FT.out.2.1 HTr.out (fun i hi => by have := A2.out; have := S5.out.bel.size; have := LE5.out; simp at hi; omega) FT.out.2.1.size)
        have SSr := Lib.hid (show Co.SetIs wr a b L from by
          have := AL5.out
          have := LE5.out
          exact SS9.out.keep (HTr.out.block a SS9.out.lta (NA2.out a (.inl (by omega)))) (HTr.out.block b SS9.out.ltb (NA2.out b (.inl (by omega)))))
        have Ur := Lib.hid (box_in H9.out HTr.out (NA2.out _ (.inr (by have := ZW.out; omega))))
        have TXr := Lib.hid (show Txs wr w5.heap.size w6.heap.size (.slice At2 n ct2) us from TX9.out.keep (HTr.out.kept (fun k hk => by have := A2.out; simp at hk; rcases hk with rfl | rfl <;> exact .inr (by omega)) (by have := ZW.out; omega)))
        have hzr := HTr.out.size
        by_cases hlt : i < n
        · have j1 : (i : Int) < (n : Int) := by omega
          have j2 : decide (i < n) = true := decide_eq_true hlt
          have j3 : ¬ (i : Int) < 0 := by omega
          obtain ⟨t, hx⟩ : ∃ x, us[i]? = some x := ⟨_, List.getElem?_eq_getElem (by rw [HN2.out]; exact hlt)⟩
          obtain ⟨bi, oi, rfl, g1, g2, c0, ⟨vi, vo, c1, c2, htx⟩, c3⟩ := TXr.out.at hx
          have hot := TX6.out.2.1 t (List.mem_of_getElem? hx)
          have HOT := Lib.hid hot
          have BG := Lib.hid (blk_go (h := 2) (l := m) hx)
          have BSp := Lib.hid (blk_stop (h := 2) (l := m) hx)
          have LG := Lib.hid (late_grant (l := m) (t := t) (h := 2))
          have B1 := Lib.hid (blk_one (l := m) (t := t) (h := 2) (by decide) (by decide))
          have FI := Lib.hid (one_first (l := m) (t := t) (a := true) (b := (i == 0)) (h := 2))
          have OKP := Lib.hid (one_keeps (first := i == 0) hot (by decide : (0 : Int) ≤ 2) (by decide) HPK.out.2.1 HPK.out.2.2.1)
          have HDR := Lib.hid (show outsN (us.drop i) = t.outs.length + outsN (us.drop (i + 1)) from by
            obtain ⟨hkk, he⟩ := List.getElem?_eq_some_iff.1 hx
            rw [List.drop_eq_getElem_cons hkk, he]
            simp [outsN])
          obtain ⟨A1, m1, rfl⟩ := htx.1.form
          obtain ⟨A3, m3, rfl⟩ := htx.2.form
          obtain ⟨wa, hwa⟩ : ∃ wa, wa = wr.alloc (.cells #[.int .u32 t.ver, .slice A1 t.ins.length m1, .slice A3 t.outs.length m3, .int .u32 t.lock] 51) := ⟨_, rfl⟩
          have ba : Below wr.heap.size wr wa := by rw [hwa]; exact (Below.refl _ _).alloc (Nat.le_refl _) _
          have zwa : wa.heap.size = wr.heap.size + 1 := by rw [hwa]; simp
          have bxa : wa.heap[wr.heap.size]? = some (.cells #[.int .u32 t.ver, .slice A1 t.ins.length m1, .slice A3 t.outs.length m3, .int .u32 t.lock] 51 (0, 0)) := by rw [hwa]; exact heap_alloc_new _ _
          have Wa := Lib.hid (show wr.alloc (.cells #[.int .u32 t.ver, .slice A1 t.ins.length m1, .slice A3 t.outs.length m3, .int .u32 t.lock] 51) = wa from hwa.symm)
          have htx' : TxAt wr w5.heap.size w6.heap.size (.slice A1 t.ins.length m1) (.slice A3 t.outs.length m3) t := htx
          have CB := Lib.hid (fun V (hV : Below wr.heap.size wr V) => base_any t (.slice A1 t.ins.length m1) (.slice A3 t.outs.length m3) V _ _ (htx'.1.keep (Kept.of_below hV (by have := ZW.out; omega))) (by have := hV.size; have := ZW.out; omega))
          have CO := Lib.hid (fun V (hV : Below wr.heap.size wr V) => apply_one a2 b2 m t 2 V w5.heap.size w6.heap.size A1 A3 m1 m3 (HM.out.below hV HM.out.lta HM.out.ltb) HPK.out.2.2.1 (by have := HPK.out.2.2.2; omega) (htx'.keep (Kept.of_below hV (by have := ZW.out; omega))) (by have := hV.size; have := ZW.out; omega)
            (fun k hk => by have := A2.out; simp at hk; rcases hk with rfl | rfl <;> exact .inr (by omega)) hot (by have := HPK.out.2.2.2; have := HDR.out; have := TX6.out.2.2.2; have h5 : outsN (us.drop i) ≤ outsN us := by { unfold outsN; rw [List.map_drop]; have e := List.sum_append (l₁ := (us.map fun t => t.outs.length).take i) (l₂ := (us.map fun t => t.outs.length).drop i); rw [List.take_append_drop] at e; omega }; omega) (DRr.out.below hV) (by have := A2.out; have := S5.out.w3; have := S5.out.bel.size; have := LE5.out; omega) (by have := A2.out; have := S5.out.w3; have := S5.out.bel.size; have := LE5.out; omega))
          obtain ⟨n1, hn1⟩ : ∃ x, t.ins.length = x := ⟨_, rfl⟩
          obtain ⟨n3, hn3⟩ : ∃ x, t.outs.length = x := ⟨_, rfl⟩
          rw [hn1, hn3] at CB CO Wa bxa
          rw [hn1] at c1
          rw [hn3] at c2
          have HN13 := Lib.hid (And.intro hn1 hn3)
          have Ba := Lib.hid ba
          have Za := Lib.hid zwa
          have BXa := Lib.hid bxa
          have d0' := Co.cell_in (o := 0) (v := .int .u32 t.ver) bxa rfl
          have d1' := Co.cell_in (o := 1) (v := .slice A1 n1 m1) bxa rfl
          have d2' := Co.cell_in (o := 2) (v := .slice A3 n3 m3) bxa rfl
          have d3' := Co.cell_in (o := 3) (v := .int .u32 t.lock) bxa rfl
          have lta : wr.heap.size < wa.heap.size := by omega
          have CBa := Lib.hid (CB.out wa ba)
          clear hwa ba zwa bxa htx htx' hot hx hn1 hn3
          -- Apply of the one transaction, from a world V behind wa
          have STEP : ∀ V, Below wa.heap.size wa V → (0 < i → isBase t.ins = false) → True := fun _ _ _ => trivial
          clear STEP
          by_cases hi0 : i = 0
          · have e1 : ¬ (i : Int) > 0 := by omega
            have e2 : decide ((i : Int) > 0) = false := decide_eq_false e1
            have e3 : decide (0 < i) = false := decide_eq_false (by omega)
            have FF : (i == 0) = true := by simp [hi0]
            have FQ := Lib.hid (show oneA m t true 2 = oneA m t (i == 0) 2 from by rw [FF])
            have CO1 := Lib.hid (CO.out wa Ba.out)
            have Bx := Ba
            clear hi0 FF
            go_upto_region 14 with (fail)
            rw [Wa.out]
            clear c0 c1 c2 c3
            go_wp2_with fail
            refine CO1.out.mono ?_
            rintro e wc ⟨_, _, _, _, _, _, v2, rfl, HE2, HS2, HT2⟩
            rw [B1.out.1, FQ.out] at HE2
            have Tc := Lib.hid ((HTr.out.next Bx.out).trans HT2.out)
            obtain ⟨oc, hoc⟩ : ∃ c, (oneA m t (i == 0) 2).code = c := ⟨_, rfl⟩
            rw [hoc] at BG BSp HE2
            by_cases hz : oc = 0
            · subst hz
              have EV : v2 = .nilIface := by
                rcases HE2.out with ⟨_, _, _, h⟩ | ⟨h, _⟩ | ⟨h, _⟩
                · exact h
                · exact absurd rfl h
                · exact absurd rfl h
              subst EV
              have SN := Lib.hid (show Co.SetIs wc a2 b2 (oneA m t (i == 0) 2).l from by
                have := HS2.out
                rw [B1.out.2 (by rw [FQ.out]; exact hoc), FQ.out] at this
                exact this)
              have G := Lib.hid (BG.out rfl)
              have OKQ := Lib.hid OKP.out
              clear hoc
              go_wp2_with fail
              go_roundg (n - (i + 1))
              case measure => omega
              case rel => exact ⟨i + 1, _, by omega, by omega, rfl, by go_num, SN, Tc, Lib.hid ⟨G.out.symm.trans HPK.out.1, OKQ.out.1, OKQ.out.2.1, by have h1 := OKQ.out.2.2; have h2 := HPK.out.2.2.2; rw [HDR.out] at h2; omega⟩⟩
            · have G := Lib.hid ((BSp.out hz).symm.trans HPK.out.1)
              have PCC := Lib.hid (show P.code = oc from by rw [← G.out])
              obtain ⟨T2, x2, rfl, hT2⟩ := HE2.out.fault hz
              have NE2 := fun V => neq_errV hT2 x2 V
              have EQ2 := fun V => eq_errV hT2 x2 V
              have e5 : (oc == oc) = true := by simp
              have DRc := Lib.hid (show Dr wc from FT.out.2.2.1.tn Tc.out (fun i hi => by have := A2.out; have := S5.out.w3; have := S5.out.bel.size; have := LE5.out; simp at hi; omega))
              have SSc := Lib.hid (show Co.SetIs wc a b L from by
                have := AL5.out
                have := LE5.out
                exact SS9.out.keep (Tc.out.block a SS9.out.lta (NA2.out a (.inl (by omega)))) (Tc.out.block b SS9.out.ltb (NA2.out b (.inl (by omega)))))
              have Uc := Lib.hid (box_in H9.out Tc.out (NA2.out _ (.inr (by have := ZW.out; omega))))
              have EEc := Lib.hid (show ErrW w7.heap.size wc (.iface Te xe) oc B.at_ B.inn from by
                have h1 := HE.out
                rw [PC.out.1, PCC.out] at h1
                have h2 : ErrW w7.heap.size w9 (.iface Te xe) oc B.at_ B.inn := h1.keep (by have := ZW.out; omega) (fun b hb hb2 => BW9.out.block b hb2)
                exact h2.keep Tc.out.size (fun b hb hb2 => Tc.out.block b hb2 (NA2.out b (.inr hb))))
              have BLc := Lib.hid (Tn.below FT.out.2.1 Tc.out (fun i hi => by have := A2.out; have := S5.out.bel.size; have := LE5.out; simp at hi; omega) FT.out.2.1.size)
              have SOc := HS2
              have SO := HS2
              have AG := Lib.hid G0.out.2
              have LN := Lib.hid (show L.length ≤ 40 from by have := LL.out; omega)
              have LM := Lib.hid (show (blkA m [t] 2).l.length ≤ 900 from by
                have h1 := (blk_keeps (l := m) (xs := [t]) (h := 2) (fun x hx => by obtain rfl := List.mem_singleton.1 hx; exact HOT.out) HPK.out.2.1 HPK.out.2.2.1).2.2
                have h2 := HPK.out.2.2.2
                rw [HDR.out] at h2
                have e : outsN [t] = t.outs.length := by simp [outsN]
                omega)
              obtain ⟨M4, hM4⟩ : ∃ x, (blkA m [t] 2).l = x := ⟨_, rfl⟩
              rw [hM4] at SO LM
              have CC := Lib.hid (fun x : After wc => code_errw (EEc.out.below x.ok) (DRc.out.below x.ok).err)
              have CI := Lib.hid (fun x : After wc => (is_errw (HE2.out.below x.ok) (f := oc) hz).mono fun e w' (h : e = .returned (.bool (oc == oc)) ∧ w' = x.val) => show e = .returned (.bool true) ∧ Below x.val.heap.size x.val w' from ⟨by rw [h.1]; simp, by rw [h.2]; exact Below.refl _ _⟩)
              have HNE : Nonempty (After wc) := ⟨⟨wc, Below.refl _ _⟩⟩
              clear hM4
              clear e1 e2 e3
              have ltu : w8.heap.size < wc.heap.size := lt_of_blk Uc.out
              have AB := Lib.hid (show 3 ≤ a ∧ 3 ≤ b from by have := AL5.out; have := S5.out.w3; omega)
              go_upto_region 19 with (fail)
              refine wp_region_after (by kernel_rfl) (by kernel_rfl) ?_
              repeat (go_big_quiet_step ((first | (go_at_call 13; exact After.call _ (CC.out _)) | (go_at_call 20; exact After.call _ (CI.out _)))))
              refine wpQuiet_nil ?_
              rintro _ ⟨x, rfl⟩
              have hx := x.ok
              obtain ⟨w20, hw20⟩ : ∃ w20, w20 = x.val := ⟨_, rfl⟩
              rw [← hw20] at hx ⊢
              have X20 := Lib.hid hx
              have S20 := Lib.hid (SSc.out.below hx SSc.out.lta SSc.out.ltb)
              have O20 := Lib.hid (SO.out.below hx SO.out.lta SO.out.ltb)
              have D20 := Lib.hid (DRc.out.below hx)
              have CA0 : Calls Tryz.prog 11 #[.pointer (some ⟨a, 0, none⟩), .slice none 0 0, .int .i64 3] w20 (ApEnd a b L (blkA L [] 3) w20) := blk_any a b L [] 3 none 0 w20 0 0 S20.out AG.out Lst.nil (Nat.zero_le _) (fun _ _ => .inr (Nat.zero_le _)) (by simp) (by decide) (by have := LN.out; show _ + 0 ≤ 900; omega) D20.out AB.out.1 AB.out.2
              rw [blk_empty.2.1 (by decide)] at CA0
              have CA := Lib.hid CA0
              clear CA0 hx hw20
              go_wp2_with fail
              refine CA.out.mono ?_
              rintro e w21 ⟨s21, t21, hh⟩
              rcases hh with ⟨_, vs, vm, rfl, x1, x2⟩ | ⟨h0, _⟩
              case inr => exact absurd rfl h0
              rw [show Co.lessL (BlkA.l ⟨L, 0, -1, -1⟩) L = [] from Co.less_self S20.out.good.srt] at x2
              rw [show Co.lessL L (BlkA.l ⟨L, 0, -1, -1⟩) = [] from Co.less_self S20.out.good.srt] at x1
              obtain ⟨Av, cv, rfl⟩ : ∃ A c, vs = .slice A 0 c := x1.form
              obtain ⟨Aw, cw, rfl⟩ : ∃ A c, vm = .slice A 0 c := x2.form
              obtain ⟨w22, hw22⟩ : ∃ w22, w22 = w21.alloc (.cells #[.slice Av 0 cv, .slice Aw 0 cw] 31) := ⟨_, rfl⟩
              have b22 : Below w21.heap.size w21 w22 := by rw [hw22]; exact (Below.refl _ _).alloc (Nat.le_refl _) _
              have h22 : w22.heap[w21.heap.size]? = some (.cells #[.slice Av 0 cv, .slice Aw 0 cw] 31 (0, 0)) := by rw [hw22]; exact heap_alloc_new _ _
              have W22 := Lib.hid (show w21.alloc (.cells #[.slice Av 0 cv, .slice Aw 0 cw] 31) = w22 from hw22.symm)
              have zw22 : w22.heap.size = w21.heap.size + 1 := by rw [hw22]; simp
              have S22 := Lib.hid (show Co.SetIs w22 a b L from s21.below b22 s21.lta s21.ltb)
              have NAB := Lib.hid (show ∀ k, w7.heap.size ≤ k ∨ (w6.heap.size ≤ k) → k ∉ [a, b] from fun k hk hm => by have := AL5.out; have := LE5.out; have := HB7.out.size; simp at hm; omega)
              have O22 := Lib.hid (show Co.SetIs w22 a2 b2 M4 from by
                have h1 := O20.out.keep (t21.block a2 O20.out.lta (NAB.out _ (.inr (by have := A2.out; omega)))) (t21.block b2 O20.out.ltb (NAB.out _ (.inr (by have := A2.out; omega))))
                exact h1.below b22 h1.lta h1.ltb)
              have U22 := Lib.hid (show w22.heap[w8.heap.size]? = some (.cells #[.slice none 0 0, .slice none 0 0] 31 (0, 0)) from (b22.block _ (by have := t21.size; have := X20.out.size; omega)).trans (box_in ((X20.out.block _ ltu).trans Uc.out) t21 (NAB.out _ (.inl (by have := ZW.out; omega)))))
              have D22 := Lib.hid ((D20.out.tn t21 (fun i hi => by have := AB.out; simp at hi; omega)).below b22)
              have BL22 := Lib.hid (show Below w.heap.size w w22 from below_next (Tn.below (BLc.out.trans (X20.out.mono BLc.out.size)) t21 (fun i hi => by have := AL5.out; have := S5.out.al; simp at hi; omega) (by have := BLc.out.size; have := X20.out.size; omega)) (by have := BLc.out.size; have := X20.out.size; have := t21.size; omega) b22)
              have lt8 : w8.heap.size < w22.heap.size := by have := t21.size; have := X20.out.size; omega
              have lt21 : w21.heap.size < w22.heap.size := by omega
              have H22 := Lib.hid h22
              have CA1 := Lib.hid (Co.all_any a b L w22 S22.out (by have := LN.out; omega))
              have NN' := neq_nilnil
              clear s21 t21 x1 x2 hw22 b22 h22 zw22 CA
              go_upto_region 22 with (fail)
              rw [W22.out]
              go_wp2_with fail
              refine CA1.out.mono ?_
              rintro e w23 ⟨v23, rfl, en23, b23⟩
              obtain ⟨A23, c23, hv⟩ := en23.form
              obtain ⟨la, hla⟩ : ∃ x, L.length = x := ⟨_, rfl⟩
              rw [hla] at hv
              subst hv
              have HLA := Lib.hid hla
              have EN23 := Lib.hid en23
              have B23 := Lib.hid b23
              have CA2 := Lib.hid (Co.all_any a2 b2 M4 w23 (O22.out.below b23 O22.out.lta O22.out.ltb) (by have := LM.out; omega))
              clear en23 b23 CA1 hla
              go_wp2_with fail
              refine CA2.out.mono ?_
              rintro e w24 ⟨v24, rfl, en24, b24⟩
              obtain ⟨A24, c24, hv⟩ := en24.form
              obtain ⟨lb2, hlb⟩ : ∃ x, M4.length = x := ⟨_, rfl⟩
              rw [hlb] at hv
              subst hv
              have HLB := Lib.hid hlb
              have B24 := Lib.hid (below_next B23.out B23.out.size b24)
              have EN24 := Lib.hid en24
              have EW24 := Lib.hid (EN23.out.keep (Kept.of_below b24 (Nat.le_refl _)))
              have v0 := Co.cell_in (o := 0) (v := .slice Av 0 cv) ((B24.out.block _ lt21).trans H22.out) rfl
              have v1 := Co.cell_in (o := 1) (v := .slice Aw 0 cw) ((B24.out.block _ lt21).trans H22.out) rfl
              have lt24 : w21.heap.size < w24.heap.size := by have := B24.out.size; omega
              have lt24' : w8.heap.size < w24.heap.size := by have := B24.out.size; omega
              have Z24 := Lib.hid b24.size
              have u0 := Co.cell_in (o := 0) (v := .slice none 0 0) ((B24.out.block _ lt8).trans U22.out) rfl
              have u1 := Co.cell_in (o := 1) (v := .slice none 0 0) ((B24.out.block _ lt8).trans U22.out) rfl
              clear en24 b24 CA2 hlb
              go_wp2_with fail
              have hla40 : la ≤ 40 := by have := HLA.out; have := LN.out; omega
              obtain ⟨w25, hw25⟩ : ∃ w25, w25 = w24 := ⟨_, rfl⟩
              go_loopg [146] la (fun gg s146 wr => ∃ j : Nat, j ≤ la ∧ la - j ≤ gg ∧ s146 = .int .i64 (j : Int) ∧ Hid (Below w24.heap.size w24 wr))
              case atStart => exact ⟨0, Nat.zero_le _, by omega, rfl, Lib.hid (Below.refl _ _)⟩
              case round =>
                obtain ⟨j, hj, hgj, rfl, HB⟩ := hrel
                by_cases hlj : j < la
                · have k1 : (j : Int) < (la : Int) := by omega
                  have k2 : decide (j < la) = true := decide_eq_true hlj
                  have k3 : ¬ (j : Int) < 0 := by omega
                  have k5 := EQ
                  go_wp2_with fail
                  go_quiet (fail)
                  go_wp2_with fail
                  go_roundg (la - (j + 1))
                  case measure => omega
                  case rel => exact ⟨j + 1, by omega, by omega, by go_num, Lib.hid (below_drewN HB.out _)⟩
                · have k3 : ¬ (j : Int) < (la : Int) := by omega
                  have k4 : decide (j < la) = false := decide_eq_false hlj
                  have BX := Lib.hid (below_next B24.out B24.out.size HB.out)
                  have CW := Lib.hid (wakes_any _ (D22.out.below BX.out))
                  go_wp2_with fail
                  refine CW.out.mono ?_
                  rintro e w30 ⟨rfl, hb30⟩
                  go_wp2_with fail
                  go_ret
                  exact ⟨rfl, below_next (below_next BL22.out BL22.out.size BX.out) (by have := BL22.out.size; have := BX.out.size; omega) hb30⟩
          · have e1 : (i : Int) > 0 := by omega
            have e2 : decide ((i : Int) > 0) = true := decide_eq_true e1
            have e3 : decide (0 < i) = true := decide_eq_true (by omega)
            have e4 : 0 < i := by omega
            have FF : (i == 0) = false := by simp [hi0]
            clear hi0
            go_upto_region 14 with (fail)
            rw [Wa.out]
            clear c0 c1 c2 c3
            cases hb : isBase t.ins with
            | true =>
              rw [hb] at CBa
              have LGi := LG.out hb
              rw [FF] at BSp BG
              have CW := Lib.hid (fun V (hV : Below wr.heap.size wr V) => wakes_any V (DRr.out.below hV))
              go_wp2_with fail
              refine CBa.out.mono ?_
              rintro e wb ⟨rfl, hbb⟩
              have Bb := Lib.hid (below_next Ba.out Ba.out.size hbb)
              go_wp2_with fail
              refine (CW.out wb Bb.out).mono ?_
              rintro e wd ⟨rfl, hbd⟩
              go_wp2_with fail
              go_ret
              exact ⟨rfl, below_next BLr.out BLr.out.size (below_next Bb.out Bb.out.size hbd)⟩
            | false =>
              rw [hb] at CBa
              have FQ := Lib.hid (FI.out hb)
              clear hb FF
              go_wp2_with fail
              refine CBa.out.mono ?_
              rintro e wb ⟨rfl, hbb⟩
              have Bx := Lib.hid (below_next Ba.out Ba.out.size hbb)
              have CO1 := Lib.hid (CO.out wb Bx.out)
              obtain ⟨d0, d1, d2, d3⟩ : wb.cell? ⟨wr.heap.size, 0, none⟩ = some (.int .u32 t.ver) ∧ wb.cell? ⟨wr.heap.size, 1, none⟩ = some (.slice A1 n1 m1) ∧ wb.cell? ⟨wr.heap.size, 2, none⟩ = some (.slice A3 n3 m3) ∧ wb.cell? ⟨wr.heap.size, 3, none⟩ = some (.int .u32 t.lock) := by
                have k := (hbb.block _ lta).trans BXa.out
                exact ⟨Co.cell_in k rfl, Co.cell_in k rfl, Co.cell_in k rfl, Co.cell_in k rfl⟩
              have ltb : wr.heap.size < wb.heap.size := by have := hbb.size; omega
              clear d0' d1' d2' d3' hbb
              go_wp2_with fail
              refine CO1.out.mono ?_
              rintro e wc ⟨_, _, _, _, _, _, v2, rfl, HE2, HS2, HT2⟩
              rw [B1.out.1, FQ.out] at HE2
              have Tc := Lib.hid ((HTr.out.next Bx.out).trans HT2.out)
              obtain ⟨oc, hoc⟩ : ∃ c, (oneA m t (i == 0) 2).code = c := ⟨_, rfl⟩
              rw [hoc] at BG BSp HE2
              by_cases hz : oc = 0
              · subst hz
                have EV : v2 = .nilIface := by
                  rcases HE2.out with ⟨_, _, _, h⟩ | ⟨h, _⟩ | ⟨h, _⟩
                  · exact h
                  · exact absurd rfl h
                  · exact absurd rfl h
                subst EV
                have SN := Lib.hid (show Co.SetIs wc a2 b2 (oneA m t (i == 0) 2).l from by
                  have := HS2.out
                  rw [B1.out.2 (by rw [FQ.out]; exact hoc), FQ.out] at this
                  exact this)
                have G := Lib.hid (BG.out rfl)
                have OKQ := Lib.hid OKP.out
                clear hoc
                go_wp2_with fail
                go_roundg (n - (i + 1))
                case measure => omega
                case rel => exact ⟨i + 1, _, by omega, by omega, rfl, by go_num, SN, Tc, Lib.hid ⟨G.out.symm.trans HPK.out.1, OKQ.out.1, OKQ.out.2.1, by have h1 := OKQ.out.2.2; have h2 := HPK.out.2.2.2; rw [HDR.out] at h2; omega⟩⟩
              · have G := Lib.hid ((BSp.out hz).symm.trans HPK.out.1)
                have PCC := Lib.hid (show P.code = oc from by rw [← G.out])
                obtain ⟨T2, x2, rfl, hT2⟩ := HE2.out.fault hz
                have NE2 := fun V => neq_errV hT2 x2 V
                have EQ2 := fun V => eq_errV hT2 x2 V
                have e5 : (oc == oc) = true := by simp
                have DRc := Lib.hid (show Dr wc from FT.out.2.2.1.tn Tc.out (fun i hi => by have := A2.out; have := S5.out.w3; have := S5.out.bel.size; have := LE5.out; simp at hi; omega))
                have SSc := Lib.hid (show Co.SetIs wc a b L from by
                  have := AL5.out
                  have := LE5.out
                  exact SS9.out.keep (Tc.out.block a SS9.out.lta (NA2.out a (.inl (by omega)))) (Tc.out.block b SS9.out.ltb (NA2.out b (.inl (by omega)))))
                have Uc := Lib.hid (box_in H9.out Tc.out (NA2.out _ (.inr (by have := ZW.out; omega))))
                have EEc := Lib.hid (show ErrW w7.heap.size wc (.iface Te xe) oc B.at_ B.inn from by
                  have h1 := HE.out
                  rw [PC.out.1, PCC.out] at h1
                  have h2 : ErrW w7.heap.size w9 (.iface Te xe) oc B.at_ B.inn := h1.keep (by have := ZW.out; omega) (fun b hb hb2 => BW9.out.block b hb2)
                  exact h2.keep Tc.out.size (fun b hb hb2 => Tc.out.block b hb2 (NA2.out b (.inr hb))))
                have BLc := Lib.hid (Tn.below FT.out.2.1 Tc.out (fun i hi => by have := A2.out; have := S5.out.bel.size; have := LE5.out; simp at hi; omega) FT.out.2.1.size)
                have SOc := HS2
                have SO := HS2
                have AG := Lib.hid G0.out.2
                have LN := Lib.hid (show L.length ≤ 40 from by have := LL.out; omega)
                have LM := Lib.hid (show (blkA m [t] 2).l.length ≤ 900 from by
                  have h1 := (blk_keeps (l := m) (xs := [t]) (h := 2) (fun x hx => by obtain rfl := List.mem_singleton.1 hx; exact HOT.out) HPK.out.2.1 HPK.out.2.2.1).2.2
                  have h2 := HPK.out.2.2.2
                  rw [HDR.out] at h2
                  have e : outsN [t] = t.outs.length := by simp [outsN]
                  omega)
                obtain ⟨M4, hM4⟩ : ∃ x, (blkA m [t] 2).l = x := ⟨_, rfl⟩
                rw [hM4] at SO LM
                have CC := Lib.hid (fun x : After wc => code_errw (EEc.out.below x.ok) (DRc.out.below x.ok).err)
                have CI := Lib.hid (fun x : After wc => (is_errw (HE2.out.below x.ok) (f := oc) hz).mono fun e w' (h : e = .returned (.bool (oc == oc)) ∧ w' = x.val) => show e = .returned (.bool true) ∧ Below x.val.heap.size x.val w' from ⟨by rw [h.1]; simp, by rw [h.2]; exact Below.refl _ _⟩)
                have HNE : Nonempty (After wc) := ⟨⟨wc, Below.refl _ _⟩⟩
                clear hM4
                clear e1 e2 e3
                have ltu : w8.heap.size < wc.heap.size := lt_of_blk Uc.out
                have AB := Lib.hid (show 3 ≤ a ∧ 3 ≤ b from by have := AL5.out; have := S5.out.w3; omega)
                go_upto_region 19 with (fail)
                refine wp_region_after (by kernel_rfl) (by kernel_rfl) ?_
                repeat (go_big_quiet_step ((first | (go_at_call 13; exact After.call _ (CC.out _)) | (go_at_call 20; exact After.call _ (CI.out _)))))
                refine wpQuiet_nil ?_
                rintro _ ⟨x, rfl⟩
                have hx := x.ok
                obtain ⟨w20, hw20⟩ : ∃ w20, w20 = x.val := ⟨_, rfl⟩
                rw [← hw20] at hx ⊢
                have X20 := Lib.hid hx
                have S20 := Lib.hid (SSc.out.below hx SSc.out.lta SSc.out.ltb)
                have O20 := Lib.hid (SO.out.below hx SO.out.lta SO.out.ltb)
                have D20 := Lib.hid (DRc.out.below hx)
                have CA0 : Calls Tryz.prog 11 #[.pointer (some ⟨a, 0, none⟩), .slice none 0 0, .int .i64 3] w20 (ApEnd a b L (blkA L [] 3) w20) := blk_any a b L [] 3 none 0 w20 0 0 S20.out AG.out Lst.nil (Nat.zero_le _) (fun _ _ => .inr (Nat.zero_le _)) (by simp) (by decide) (by have := LN.out; show _ + 0 ≤ 900; omega) D20.out AB.out.1 AB.out.2
                rw [blk_empty.2.1 (by decide)] at CA0
                have CA := Lib.hid CA0
                clear CA0 hx hw20
                go_wp2_with fail
                refine CA.out.mono ?_
                rintro e w21 ⟨s21, t21, hh⟩
                rcases hh with ⟨_, vs, vm, rfl, x1, x2⟩ | ⟨h0, _⟩
                case inr => exact absurd rfl h0
                rw [show Co.lessL (BlkA.l ⟨L, 0, -1, -1⟩) L = [] from Co.less_self S20.out.good.srt] at x2
                rw [show Co.lessL L (BlkA.l ⟨L, 0, -1, -1⟩) = [] from Co.less_self S20.out.good.srt] at x1
                obtain ⟨Av, cv, rfl⟩ : ∃ A c, vs = .slice A 0 c := x1.form
                obtain ⟨Aw, cw, rfl⟩ : ∃ A c, vm = .slice A 0 c := x2.form
                obtain ⟨w22, hw22⟩ : ∃ w22, w22 = w21.alloc (.cells #[.slice Av 0 cv, .slice Aw 0 cw] 31) := ⟨_, rfl⟩
                have b22 : Below w21.heap.size w21 w22 := by rw [hw22]; exact (Below.refl _ _).alloc (Nat.le_refl _) _
                have h22 : w22.heap[w21.heap.size]? = some (.cells #[.slice Av 0 cv, .slice Aw 0 cw] 31 (0, 0)) := by rw [hw22]; exact heap_alloc_new _ _
                have W22 := Lib.hid (show w21.alloc (.cells #[.slice Av 0 cv, .slice Aw 0 cw] 31) = w22 from hw22.symm)
                have zw22 : w22.heap.size = w21.heap.size + 1 := by rw [hw22]; simp
                have S22 := Lib.hid (show Co.SetIs w22 a b L from s21.below b22 s21.lta s21.ltb)
                have NAB := Lib.hid (show ∀ k, w7.heap.size ≤ k ∨ (w6.heap.size ≤ k) → k ∉ [a, b] from fun k hk hm => by have := AL5.out; have := LE5.out; have := HB7.out.size; simp at hm; omega)
                have O22 := Lib.hid (show Co.SetIs w22 a2 b2 M4 from by
                  have h1 := O20.out.keep (t21.block a2 O20.out.lta (NAB.out _ (.inr (by have := A2.out; omega)))) (t21.block b2 O20.out.ltb (NAB.out _ (.inr (by have := A2.out; omega))))
                  exact h1.below b22 h1.lta h1.ltb)
                have U22 := Lib.hid (show w22.heap[w8.heap.size]? = some (.cells #[.slice none 0 0, .slice none 0 0] 31 (0, 0)) from (b22.block _ (by have := t21.size; have := X20.out.size; omega)).trans (box_in ((X20.out.block _ ltu).trans Uc.out) t21 (NAB.out _ (.inl (by have := ZW.out; omega)))))
                have D22 := Lib.hid ((D20.out.tn t21 (fun i hi => by have := AB.out; simp at hi; omega)).below b22)
                have BL22 := Lib.hid (show Below w.heap.size w w22 from below_next (Tn.below (BLc.out.trans (X20.out.mono BLc.out.size)) t21 (fun i hi => by have := AL5.out; have := S5.out.al; simp at hi; omega) (by have := BLc.out.size; have := X20.out.size; omega)) (by have := BLc.out.size; have := X20.out.size; have := t21.size; omega) b22)
                have lt8 : w8.heap.size < w22.heap.size := by have := t21.size; have := X20.out.size; omega
                have lt21 : w21.heap.size < w22.heap.size := by omega
                have H22 := Lib.hid h22
                have CA1 := Lib.hid (Co.all_any a b L w22 S22.out (by have := LN.out; omega))
                have NN' := neq_nilnil
                clear s21 t21 x1 x2 hw22 b22 h22 zw22 CA
                go_upto_region 22 with (fail)
                rw [W22.out]
                go_wp2_with fail
                refine CA1.out.mono ?_
                rintro e w23 ⟨v23, rfl, en23, b23⟩
                obtain ⟨A23, c23, hv⟩ := en23.form
                obtain ⟨la, hla⟩ : ∃ x, L.length = x := ⟨_, rfl⟩
                rw [hla] at hv
                subst hv
                have HLA := Lib.hid hla
                have EN23 := Lib.hid en23
                have B23 := Lib.hid b23
                have CA2 := Lib.hid (Co.all_any a2 b2 M4 w23 (O22.out.below b23 O22.out.lta O22.out.ltb) (by have := LM.out; omega))
                clear en23 b23 CA1 hla
                go_wp2_with fail
                refine CA2.out.mono ?_
                rintro e w24 ⟨v24, rfl, en24, b24⟩
                obtain ⟨A24, c24, hv⟩ := en24.form
                obtain ⟨lb2, hlb⟩ : ∃ x, M4.length = x := ⟨_, rfl⟩
                rw [hlb] at hv
                subst hv
                have HLB := Lib.hid hlb
                have B24 := Lib.hid (below_next B23.out B23.out.size b24)
                have EN24 := Lib.hid en24
                have EW24 := Lib.hid (EN23.out.keep (Kept.of_below b24 (Nat.le_refl _)))
                have v0 := Co.cell_in (o := 0) (v := .slice Av 0 cv) ((B24.out.block _ lt21).trans H22.out) rfl
                have v1 := Co.cell_in (o := 1) (v := .slice Aw 0 cw) ((B24.out.block _ lt21).trans H22.out) rfl
                have lt24 : w21.heap.size < w24.heap.size := by have := B24.out.size; omega
                have lt24' : w8.heap.size < w24.heap.size := by have := B24.out.size; omega
                have Z24 := Lib.hid b24.size
                have u0 := Co.cell_in (o := 0) (v := .slice none 0 0) ((B24.out.block _ lt8).trans U22.out) rfl
                have u1 := Co.cell_in (o := 1) (v := .slice none 0 0) ((B24.out.block _ lt8).trans U22.out) rfl
                clear en24 b24 CA2 hlb
                go_wp2_with fail
                have hla40 : la ≤ 40 := by have := HLA.out; have := LN.out; omega
                obtain ⟨w25, hw25⟩ : ∃ w25, w25 = w24 := ⟨_, rfl⟩
                go_loopg [146] la (fun gg s146 wr => ∃ j : Nat, j ≤ la ∧ la - j ≤ gg ∧ s146 = .int .i64 (j : Int) ∧ Hid (Below w24.heap.size w24 wr))
                case atStart => exact ⟨0, Nat.zero_le _, by omega, rfl, Lib.hid (Below.refl _ _)⟩
                case round =>
                  obtain ⟨j, hj, hgj, rfl, HB⟩ := hrel
                  by_cases hlj : j < la
                  · have k1 : (j : Int) < (la : Int) := by omega
                    have k2 : decide (j < la) = true := decide_eq_true hlj
                    have k3 : ¬ (j : Int) < 0 := by omega
                    have k5 := EQ
                    go_wp2_with fail
                    go_quiet (fail)
                    go_wp2_with fail
                    go_roundg (la - (j + 1))
                    case measure => omega
                    case rel => exact ⟨j + 1, by omega, by omega, by go_num, Lib.hid (below_drewN HB.out _)⟩
                  · have k3 : ¬ (j : Int) < (la : Int) := by omega
                    have k4 : decide (j < la) = false := decide_eq_false hlj
                    have BX := Lib.hid (below_next B24.out B24.out.size HB.out)
                    have CW := Lib.hid (wakes_any _ (D22.out.below BX.out))
                    go_wp2_with fail
                    refine CW.out.mono ?_
                    rintro e w30 ⟨rfl, hb30⟩
                    go_wp2_with fail
                    go_ret
                    exact ⟨rfl, below_next (below_next BL22.out BL22.out.size BX.out) (by have := BL22.out.size; have := BX.out.size; omega) hb30⟩
        · have k3 : ¬ (i : Int) < (n : Int) := by omega
          have k4 : decide (i < n) = false := decide_eq_false hlt
          obtain rfl : i = n := by omega
          have HE0 := Lib.hid ((blk_end (h := 2) (xs := us) (k := i) (l := m) (by rw [HN2.out]; exact Nat.le_refl _)).symm.trans HPK.out.1)
          exact absurd (show P.code = 0 from by rw [← HE0.out]) (by rw [← PC.out.1]; exact hc)

end Go.Proofs.YtnmfjnfdnjjngaaGreatDoor
