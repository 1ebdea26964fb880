/-
  BlockState: the walk.
-/
import Derived.Test.YtnmfjnfdnjjngaaGreatDoorMBst
import Derived.Deep.CutBlock
import Derived.BigQuiet
namespace Go.Proofs.YtnmfjnfdnjjngaaGreatDoor
open Go.RowKit
set_option maxRecDepth 100000

/-- Of a nil set nothing is reverted. -/
theorem revert_nil (x y : Value) (w : World) (hx : ∃ A n c, x = .slice A n c) (hy : ∃ A n c, y = .slice A n c) :
    Calls Tryz.prog 23 #[.pointer none, .agg #[x, y]] w fun e w' => e = .returned (.int .i64 1) ∧ Below w.heap.size w w' := by
  obtain ⟨A, n, c, rfl⟩ := hx
  obtain ⟨A2, n2, c2, rfl⟩ := hy
  go_enter Tryz.func23, Tryz.ntmps23
  go_wp2_with fail
  go_ret
  exact ⟨rfl, (Below.refl _ _).alloc (Nat.le_refl _) _⟩
theorem less_of_nil (l : List Co.EnD) : Co.lessL l [] = l := by
  unfold Co.lessL
  simp [Co.inB, Co.hasB]
theorem box_in {w V : World} {b : Nat} {s : List Nat} {o : Obj} (h : w.heap[b]? = some o) (ht : Tn s w V) (hn : b ∉ s) : V.heap[b]? = some o := by
  have : b < w.heap.size := by
    rcases Nat.lt_or_ge b w.heap.size with hlt | hge
    · exact hlt
    · rw [Array.getElem?_eq_none hge] at h; cases h
  exact (ht.block b this hn).trans h

set_option maxHeartbeats 4000000 in
theorem state_law (zs : List SmD) (A0 : Option Addr) (c0 : Nat) (which : Int) (w : World) (hd : Dr w) (hz : Sms w 0 w.heap.size (.slice A0 zs.length c0) zs) (ok : SmsOk zs) (hw8 : 0 ≤ which ∧ which ≤ 255) :
    Calls Tryz.prog 6 #[.slice A0 zs.length c0, .int .u8 which] w fun e w' => e = .returned (.bool true) ∧ Below w.heap.size w w' := by
  have HD := Lib.hid hd
  have HZ := Lib.hid hz
  have OK := Lib.hid ok
  have CN := Lib.hid (Co.new_any w)
  obtain ⟨ns, hns⟩ : ∃ n, zs.length = n := ⟨_, rfl⟩
  have HN := Lib.hid hns
  rw [hns]
  have NN := neq_nilnil
  clear hd hz ok hns
  go_enter Tryz.func6, Tryz.ntmps6
  go_wp2_with fail
  refine CN.out.mono ?_
  rintro e w1 ⟨rfl, s1, b1, zz1⟩
  have S1 := Lib.hid (BSt.start HD.out s1 b1 zz1)
  have CM0 : Calls Tryz.prog 10 #[.slice none 0 0, .slice A0 zs.length c0, .int .i64 1] w1 _ := S1.out.made (m := []) (Am := none) (cm := 0) (by decide) ((HZ.out.keep (Kept.of_below b1 (Nat.le_refl _))).wide (Nat.le_refl _) b1.size) OK.out (h := 1) (by decide) (by decide)
  rw [HN.out] at CM0
  have CM := Lib.hid CM0
  obtain ⟨a, ha⟩ : ∃ a, a = w.heap.size + 1 := ⟨_, rfl⟩
  obtain ⟨b, hb⟩ : ∃ a, a = w.heap.size := ⟨_, rfl⟩
  obtain ⟨lo, hlo⟩ : ∃ a, a = w.heap.size + 2 := ⟨_, rfl⟩
  have S1' : BSt w a b lo [] (.slice none 0 0) 0 w1 := by rw [ha, hb, hlo]; exact S1.out
  clear S1
  have S1 := Lib.hid S1'
  rw [← ha]
  clear s1 b1 zz1 CN ha hb hlo CM0 S1'
  go_wp2_with fail
  refine CM.out.mono ?_
  rintro e w2 ⟨At, ct, ts, rfl, HT, HB2⟩
  have S2 := Lib.hid (S1.out.below HB2.out)
  have CA := Lib.hid (S2.out.apply (by decide) HT.out S1.out.le 1)
  have KP := Lib.hid (S2.out.keeps HT.out 1)
  obtain ⟨B, hB⟩ : ∃ B, blkA [] ts 1 = B := ⟨_, rfl⟩
  rw [hB] at CA KP
  obtain ⟨tl, htl⟩ : ∃ x, ts.length = x := ⟨_, rfl⟩
  rw [htl] at CA
  rw [htl]
  have AL := Lib.hid S2.out.al
  have W3 := Lib.hid S2.out.w3
  clear hB htl CM
  go_wp2_with fail
  refine CA.out.mono ?_
  rintro e w3 (⟨As', cs', Am', cm', hc, rfl, HE, HSt, HTn⟩ | ⟨v, hc, rfl, HE, HSt, HTn⟩)
  case inr =>
    obtain ⟨Te, xe, rfl, hTe⟩ := HE.out.fault hc
    have NE := fun V => neq_errV hTe xe V
    obtain ⟨w4, hw4⟩ : ∃ w4, w4 = w3.alloc (.cells #[.slice none 0 0, .slice none 0 0] 31) := ⟨_, rfl⟩
    have S4 := Lib.hid ((S2.out.same HSt.out HTn.out).below (V := w4) (by rw [hw4]; exact (Below.refl _ _).alloc (Nat.le_refl _) _))
    have W4 := Lib.hid (show w3.alloc (.cells #[.slice none 0 0, .slice none 0 0] 31) = w4 from hw4.symm)
    have CW := Lib.hid (wakes_any w4 S4.out.dr)
    clear hw4
    go_upto_region 4 with (fail)
    rw [W4.out]
    go_wp2_with fail
    refine CW.out.mono ?_
    rintro e w5 ⟨rfl, hb5⟩
    go_wp2_with fail
    go_ret
    exact ⟨rfl, below_next S4.out.bel S4.out.bel.size hb5⟩
  case inl =>
    obtain ⟨L, hL⟩ : ∃ L, B.l = L := ⟨_, rfl⟩
    rw [hL] at HE HSt KP
    rw [hL]
    rw [less_of_nil] at HE
    rw [less_of_nil]
    rw [show Co.lessL ([] : List Co.EnD) L = [] from rfl] at HE
    have GL := Lib.hid HSt.out.good
    have AG := Lib.hid KP.out.2.1
    have LL := Lib.hid (show L.length ≤ 20 from by have := KP.out.2.2; omega)
    have E1 := Lib.hid HE.out.1
    have E2 := Lib.hid HE.out.2
    obtain ⟨nl, hnl⟩ : ∃ n, L.length = n := ⟨_, rfl⟩
    have HL := Lib.hid hnl
    rw [hnl]
    rw [show (Co.lessL ([] : List Co.EnD) L).length = 0 from rfl]
    obtain ⟨w4, hw4⟩ : ∃ w4, w4 = w3.alloc (.cells #[.slice As' 0 cs', .slice Am' nl cm'] 31) := ⟨_, rfl⟩
    have b4 : Below w3.heap.size w3 w4 := by rw [hw4]; exact (Below.refl _ _).alloc (Nat.le_refl _) _
    have h4 : w4.heap[w3.heap.size]? = some (.cells #[.slice As' 0 cs', .slice Am' nl cm'] 31 (0, 0)) := by rw [hw4]; exact heap_alloc_new _ _
    have zw4 : w4.heap.size = w3.heap.size + 1 := by rw [hw4]; simp
    have B4 := Lib.hid b4
    have H4 := Lib.hid h4
    have W4 := Lib.hid (show w3.alloc (.cells #[.slice As' 0 cs', .slice Am' nl cm'] 31) = w4 from hw4.symm)
    have SS4 := Lib.hid (HSt.out.below b4 HSt.out.lta HSt.out.ltb)
    have T4 := Lib.hid (HTn.out.next b4)
    have c40 : w4.cell? ⟨w3.heap.size, 0, none⟩ = some (.slice As' 0 cs') := Co.cell_in h4 rfl
    have c41 : w4.cell? ⟨w3.heap.size, 1, none⟩ = some (.slice Am' nl cm') := Co.cell_in h4 rfl
    have lt4 : w3.heap.size < w4.heap.size := by omega
    have FB4 := Lib.hid (S2.out.turn T4.out)
    have NAB := Lib.hid (show ∀ k, w2.heap.size ≤ k → k ∉ [a, b] from fun k hk hm => by have := AL.out; have := S2.out.le; simp at hm; omega)
    have Z2 := Lib.hid HTn.out.size
    have Z4 := Lib.hid zw4
    clear hw4 b4 h4 zw4 HE HL
    have HL := Lib.hid hnl
    clear hnl hc hL
    by_cases hn0 : nl = 0
    · have CW := Lib.hid (wakes_any w4 FB4.out.2.2.1)
      have e0 : ((nl : Int) == 0) = true := by simp [hn0]
      have e0' : (nl == 0) = true := by simp [hn0]
      clear hn0
      go_upto_region 4 with (fail)
      rw [W4.out]
      go_wp2_with fail
      refine CW.out.mono ?_
      rintro e w5 ⟨rfl, hb5⟩
      go_wp2_with fail
      go_ret
      exact ⟨rfl, below_next FB4.out.2.1 FB4.out.2.1.size hb5⟩
    · have e0 : ((nl : Int) == 0) = false := by simp [hn0]
      have e0' : (nl == 0) = false := by simp [hn0]
      have n1 : ¬ (nl : Int) = 0 := by omega
      obtain ⟨q, hq⟩ : ∃ q : Nat, which.tmod (nl : Int) = (q : Int) ∧ q < nl := ⟨(which.tmod nl).toNat, by
        have h1 := Int.tmod_nonneg (a := which) (nl : Int) hw8.1
        have h2 := Int.tmod_lt_of_pos which (b := (nl : Int)) (by omega)
        omega⟩
      obtain ⟨hq1, hq2⟩ := hq
      have n3 : ¬ (q : Int) < 0 := by omega
      have n4 : (q : Int) < (nl : Int) := by omega
      have n6 : which % (nl : Int) = (q : Int) := by rw [← Int.tmod_eq_emod_of_nonneg hw8.1]; exact hq1
      have ww : IntKind.i64.wrap which = which := IntWalk.i64_in _ (by omega)
      obtain ⟨x, hxq⟩ : ∃ x, L[q]? = some x := ⟨_, List.getElem?_eq_getElem (by rw [HL.out]; exact hq2)⟩
      have XM := Lib.hid (List.mem_of_getElem? hxq)
      have XO := Lib.hid (GL.out.ok x XM.out)
      have XA := Lib.hid (AG.out.val XM.out)
      have E2' := Lib.hid (show Co.Ents w4 w2.heap.size w3.heap.size (.slice Am' nl cm') L from by
        have := E2.out.keep (Kept.of_below B4.out (Nat.le_refl _))
        rw [HL.out] at this
        exact this)
      obtain ⟨bx, ox, rfl, g1, g2, x0, x1, x2, x3, x4⟩ := E2'.out.at hxq
      have hbx : bx < w4.heap.size := by omega
      clear hxq
      go_upto_region 4 with (fail)
      rw [W4.out]
      go_upto_region 6 with (fail)
      go_region
      obtain ⟨w5, hw5⟩ : ∃ w5, w5 = (w4.alloc (.cells #[.string x.id, .int .u32 x.ix, .int .i64 x.val, .string x.scr, .int .i64 x.ht] 66)).drew := ⟨_, rfl⟩
      rw [← hw5]
      have b5 : Below w4.heap.size w4 w5 := by rw [hw5]; exact ((Below.refl _ _).alloc (Nat.le_refl _) _).drew
      have hx5 : w5.heap[w4.heap.size]? = some (.cells #[.string x.id, .int .u32 x.ix, .int .i64 x.val, .string x.scr, .int .i64 x.ht] 66 (0, 0)) := by rw [hw5]; exact heap_alloc_new _ _
      have zw5 : w5.heap.size = w4.heap.size + 1 := by rw [hw5]; simp
      have zz3 := Z2.out
      have zz4 := Z4.out
      have BXC := Lib.hid (show ∀ V, Tn [a, b] w5 V → (V.cell? ⟨w4.heap.size, 0, none⟩ = some (.string x.id) ∧ V.cell? ⟨w4.heap.size, 1, none⟩ = some (.int .u32 x.ix) ∧ V.cell? ⟨w4.heap.size, 2, none⟩ = some (.int .i64 x.val) ∧ V.cell? ⟨w4.heap.size, 3, none⟩ = some (.string x.scr) ∧ V.cell? ⟨w4.heap.size, 4, none⟩ = some (.int .i64 x.ht)) ∧
          V.cell? ⟨w3.heap.size, 0, none⟩ = some (.slice As' 0 cs') ∧ V.cell? ⟨w3.heap.size, 1, none⟩ = some (.slice (some ⟨bx, ox, none⟩) nl cm') from fun V hV => by
        have k1 := box_in hx5 hV (NAB.out _ (by omega))
        have k2 := box_in ((b5.block _ lt4).trans H4.out) hV (NAB.out _ (by omega))
        exact ⟨⟨Co.cell_in k1 rfl, Co.cell_in k1 rfl, Co.cell_in k1 rfl, Co.cell_in k1 rfl, Co.cell_in k1 rfl⟩, Co.cell_in k2 rfl, Co.cell_in k2 rfl⟩)
      have OFF := Lib.hid (show ∀ p hi, w2.heap.size ≤ p → ∀ i ∈ [a, b], i < p ∨ hi ≤ i from fun p hi hp i hi' => S2.out.off (Nat.le_trans S2.out.le hp) i hi')
      have F1 := Lib.hid (show ∀ V, Tn [a, b] w5 V → Co.Ents V w2.heap.size w3.heap.size (.slice As' 0 cs') [] ∧ Co.Ents V w2.heap.size w3.heap.size (.slice (some ⟨bx, ox, none⟩) nl cm') L from fun V hV =>
        ⟨((E1.out.keep (Kept.of_below B4.out (Nat.le_refl _))).keep (Kept.of_below b5 (by omega))).keep (hV.kept (OFF.out _ _ (Nat.le_refl _)) (by omega)), (E2'.out.keep (Kept.of_below b5 (by omega))).keep (hV.kept (OFF.out _ _ (Nat.le_refl _)) (by omega))⟩)
      have S5 := Lib.hid (SS4.out.below b5 SS4.out.lta SS4.out.ltb)
      have FW := Lib.hid (show ∀ V, Tn [a, b] w5 V → Below w.heap.size w V ∧ Dr V from fun V hV => by
        obtain ⟨_, h1, h2, _⟩ := S2.out.turn ((T4.out.next b5).trans hV)
        exact ⟨h1, h2⟩)
      have T5 := Lib.hid (Tn.refl [a, b] w5)
      have CT := Lib.hid (Co.take_any a b L x.id x.ix w5 S5.out XO.out.1)
      have LW := Lib.hid (And.intro zz3 (And.intro zz4 (And.intro lt4 zw5)))
      have lt5 : w4.heap.size < w5.heap.size := by omega
      have RV := Lib.hid (show ∀ (l0 l : List Co.EnD) V, Tn [a, b] w5 V → Co.SetIs V a b l → ((∀ x ∈ L, Co.inB l x = true) → Co.Good l0 ∧ Co.Arg l0 ∧ ([] : List Co.EnD) = Co.lessL l0 l ∧ L = Co.lessL l l0) → Calls Tryz.prog 23 #[.pointer (some ⟨a, 0, none⟩), .agg #[.slice As' 0 cs', .slice (some ⟨bx, ox, none⟩) nl cm']] V
          fun e w' => ∃ c l', e = .returned (.int .i64 c) ∧ Co.SetIs w' a b l' ∧ Tn [a, b] V w' ∧ ((c = 17 ∧ l' = l ∧ ∃ x ∈ L, Co.inB l x = false) ∨ (c = 0 ∧ l' = l0 ∧ ∀ x ∈ L, Co.inB l x = true)) from fun l0 l V hV hs hh => by
        have f := F1.out V hV
        rw [← HL.out] at f ⊢
        exact revert_any a b l0 l [] L As' (some ⟨bx, ox, none⟩) cs' cm' V w2.heap.size w3.heap.size hs f.1 f.2 (by have := hV.size; omega) (OFF.out _ _ (Nat.le_refl _)) (by simp) (fun x hx => GL.out.ok x hx) (by decide) (by have := LL.out; omega) hh)
      obtain ⟨⟨y0, y1, y2, y3, y4⟩, u0, u1⟩ := BXC.out w5 T5.out
      clear hw5 b5 hx5 zw5 x0 x1 x2 x3 x4 c40 c41 ww n6 hq1 n1 n3 n4 zz3 zz4
      go_wp2_with fail
      refine CT.out.mono ?_
      rintro e w6 ⟨rfl, s6, k6⟩
      have T6 := Lib.hid (Tn.of_but2 k6)
      have S6 := Lib.hid s6
      have wh : IntKind.i64.wrap (x.ht + 1) = x.ht + 1 := IntWalk.i64_in _ (by have := XA.out; omega)
      obtain ⟨w7, hw7⟩ : ∃ w7, w7 = w6.alloc (.cells #[.int .i64 x.val, .string x.scr, .int .i64 (x.ht + 1)] 64) := ⟨_, rfl⟩
      have b7 : Below w6.heap.size w6 w7 := by rw [hw7]; exact (Below.refl _ _).alloc (Nat.le_refl _) _
      have hc7 : w7.heap[w6.heap.size]? = some (.cells #[.int .i64 x.val, .string x.scr, .int .i64 (x.ht + 1)] 64 (0, 0)) := by rw [hw7]; exact heap_alloc_new _ _
      have W7 := Lib.hid (show w6.alloc (.cells #[.int .i64 x.val, .string x.scr, .int .i64 (x.ht + 1)] 64) = w7 from hw7.symm)
      have S7 := Lib.hid (s6.below b7 s6.lta s6.ltb)
      have T7 := Lib.hid (T6.out.next b7)
      obtain ⟨y, hy⟩ : ∃ y : Co.EnD, y = ⟨x.id, x.ix, x.val, x.scr, x.ht + 1⟩ := ⟨_, rfl⟩
      have YO : y.Ok := by rw [hy]; exact ⟨XO.out.1, XO.out.2.1, XO.out.2.2.1, XO.out.2.2.2.1, by show -9223372036854775808 ≤ x.ht + 1; have := XA.out; omega, by show x.ht + 1 ≤ 9223372036854775807; have := XA.out; omega⟩
      have CP0 : Calls Tryz.prog 28 #[.pointer (some ⟨a, 0, none⟩), .agg #[.string x.id, .int .u32 x.ix], .agg #[.int .i64 x.val, .string x.scr, .int .i64 (x.ht + 1)]] w7 (fun e w' => e = .returned (.int .i64 (Co.putE (Co.delL L x.id x.ix) y)) ∧ Co.SetIs w' a b (Co.putL (Co.delL L x.id x.ix) y) ∧ Co.But2 a b w7 w') := by
        have := Co.put_any a b (Co.delL L x.id x.ix) y w7 S7.out YO
        rw [hy] at this ⊢
        exact this
      have CP := Lib.hid CP0
      have YN := Lib.hid (show x ∉ Co.putL (Co.delL L x.id x.ix) y from chg_no (fun e => by rw [hy] at e; have := congrArg Co.EnD.ht e; simp only at this; omega))
      have YD := Lib.hid (show Co.delL (Co.putL (Co.delL L x.id x.ix) y) x.id x.ix = Co.delL L x.id x.ix from by
        have := del_put (l := Co.delL L x.id x.ix) (x := y) (Co.del_srt GL.out.srt _ _) (by rw [hy]; exact del_has L x.id x.ix)
        rw [show y.id = x.id from by rw [hy], show y.ix = x.ix from by rw [hy]] at this
        exact this)
      have YL := Lib.hid (show (Co.putL (Co.delL L x.id x.ix) y).length ≤ 21 from by have := Co.putL_len (Co.delL L x.id x.ix) y; have := Co.del_len L x.id x.ix; have := LL.out; omega)
      have hc0 := Co.cell_in (o := 0) (v := .int .i64 x.val) hc7 rfl
      have hc1 := Co.cell_in (o := 1) (v := .string x.scr) hc7 rfl
      have hc2 := Co.cell_in (o := 2) (v := .int .i64 (x.ht + 1)) hc7 rfl
      obtain ⟨⟨z0, z1, z2, z3, z4⟩, _, _⟩ := BXC.out w6 T6.out
      have lt6 : w4.heap.size < w6.heap.size := by have := T6.out.size; omega
      clear s6 k6 hw7 b7 hc7 CP0 y0 y1 y2 y3 y4 u0 u1 CT YO
      go_upto_region 10 with (fail)
      rw [W7.out]
      clear z0 z1 z2 z3 z4
      obtain ⟨⟨z0, z1, z2, z3, z4⟩, _, _⟩ := BXC.out w7 T7.out
      go_wp2_with fail
      refine CP.out.mono ?_
      rintro e w8 ⟨rfl, s8, k8⟩
      obtain ⟨L2, hL2⟩ : ∃ l, Co.putL (Co.delL L x.id x.ix) y = l := ⟨_, rfl⟩
      rw [hL2] at s8 YN YD YL
      have S8 := Lib.hid s8
      have T8 := Lib.hid (T7.out.trans (Tn.of_but2 k8))
      have CA8 := Lib.hid (Co.all_any a b L2 w8 s8 (by have := YL.out; omega))
      obtain ⟨pe, hpe⟩ : ∃ e, Co.putE (Co.delL L x.id x.ix) y = e := ⟨_, rfl⟩
      rw [hpe]
      clear s8 k8 hL2 hpe hy CP hc0 hc1 hc2 z0 z1 z2 z3 z4 wh
      go_wp2_with fail
      refine CA8.out.mono ?_
      rintro e w9 ⟨v9, rfl, en9, b9⟩
      have T9 := Lib.hid (T8.out.next b9)
      have S9 := Lib.hid (S8.out.below b9 S8.out.lta S8.out.ltb)
      obtain ⟨m2, hm2⟩ : ∃ n, L2.length = n := ⟨_, rfl⟩
      obtain ⟨A9, c9, rfl⟩ : ∃ A c, v9 = .slice A m2 c := by rw [← hm2]; exact en9.form
      have M2 := Lib.hid hm2
      have EN9 := Lib.hid en9
      have NI := Lib.hid (show Co.inB L2 x = false from Co.inB_no S8.out.good.srt YN.out)
      have CR9 := Lib.hid (RV.out [] L2 w9 T9.out S9.out (fun h => by have := h x XM.out; rw [NI.out] at this; cases this))
      obtain ⟨_, u0, u1⟩ := BXC.out w9 T9.out
      have lt9 : w3.heap.size < w9.heap.size := by have := T9.out.size; have := LW.out; omega
      have Z89 := Lib.hid (And.intro T8.out.size b9.size)
      clear en9 b9 hm2 CA8
      go_wp2_with fail
      refine CR9.out.mono ?_
      rintro e w10 ⟨c, l', rfl, s10, t10, h10⟩
      rcases h10 with ⟨rfl, rfl, _⟩ | ⟨_, _, hall⟩
      case inr =>
        have := hall x XM.out
        rw [NI.out] at this
        cases this
      have T10 := Lib.hid (T9.out.trans t10)
      have S10 := Lib.hid s10
      have EN10 := Lib.hid (EN9.out.keep (t10.kept (OFF.out _ _ (by have := Z89.out; have := LW.out; omega)) (Nat.le_refl _)))
      have CA10 := Lib.hid (Co.all_any a b _ w10 s10 (by have := YL.out; omega))
      have Z10 := Lib.hid t10.size
      clear s10 t10 u0 u1 CR9
      go_wp2_with fail
      refine CA10.out.mono ?_
      rintro e w11 ⟨v11, rfl, en11, b11⟩
      obtain ⟨A11, c11, rfl⟩ : ∃ A c, v11 = .slice A m2 c := by rw [← M2.out]; exact en11.form
      have T11 := Lib.hid (T10.out.next b11)
      have S11 := Lib.hid (S10.out.below b11 S10.out.lta S10.out.ltb)
      have EN11 := Lib.hid en11
      have EW11 := Lib.hid (EN10.out.keep (Kept.of_below b11 Z10.out))
      have q1 : ((m2 : Int) != (m2 : Int)) = false := by simp
      have Z11 := Lib.hid b11.size
      clear en11 b11 CA10
      have hm21 : m2 ≤ 21 := by have := M2.out; have := YL.out; omega
      go_wp2_with fail
      go_loopg [77] m2 (fun gg s77 wr => ∃ j : Nat, j ≤ m2 ∧ m2 - j ≤ gg ∧ s77 = .int .i64 (j : Int) ∧ Hid (Below w11.heap.size w11 wr))
      case atStart => exact ⟨0, Nat.zero_le _, by omega, rfl, Lib.hid (Below.refl _ _)⟩
      case round =>
        obtain ⟨j, hj, hgj, rfl, HB⟩ := hrel
        by_cases hlt : j < m2
        · have j1 : (j : Int) < (m2 : Int) := by omega
          have j2 : decide (j < m2) = true := decide_eq_true hlt
          have j3 : ¬ (j : Int) < 0 := by omega
          obtain ⟨z, hzj⟩ : ∃ z, _[j]? = some z := ⟨_, List.getElem?_eq_getElem (by rw [M2.out]; exact hlt)⟩
          obtain ⟨b2, o2, rfl, g3, g4, c0, c1, c2, c3, c4⟩ := (EN11.out.keep (Kept.of_below HB.out (Nat.le_refl _))).at hzj
          obtain ⟨b3, o3, rfl, g5, g6, d0, d1, d2, d3, d4⟩ := (EW11.out.keep (Kept.of_below HB.out (by have := Z11.out; have := Z10.out; omega))).at hzj
          have n1 := Co.run_neq_en
          have n2 := Co.en_guard
          have n5 : Co.ptB z.id z.ix z.id z.ix = true := Co.ptB_refl _ _
          have n6 : Co.coB z.val z.scr z.ht z.val z.scr z.ht = true := Co.coB_refl _ _ _
          clear hzj
          go_wp2_with fail
          go_quiet (fail)
          go_wp2_with fail
          go_roundg (m2 - (j + 1))
          case measure => omega
          case rel => exact ⟨j + 1, by omega, by omega, by go_num, Lib.hid (below_drewN HB.out _)⟩
        · have k3 : ¬ (j : Int) < (m2 : Int) := by omega
          have k4 : decide (j < m2) = false := decide_eq_false hlt
          have Tr := Lib.hid (T11.out.next HB.out)
          have Sr := Lib.hid (S11.out.below HB.out S11.out.lta S11.out.ltb)
          obtain ⟨⟨z0, z1, z2, z3, z4⟩, _, _⟩ := BXC.out wr Tr.out
          have CT := Lib.hid (Co.take_any a b _ x.id x.ix wr Sr.out XO.out.1)
          rw [YD.out] at CT
          have ltr : w4.heap.size < wr.heap.size := by have := Tr.out.size; have := LW.out; omega
          go_wp2_with fail
          refine CT.out.mono ?_
          rintro e w12 ⟨rfl, s12, k12⟩
          have T12 := Lib.hid (Tr.out.trans (Tn.of_but2 k12))
          have CP := Lib.hid (Co.put_any a b (Co.delL L x.id x.ix) x w12 s12 XO.out)
          rw [put_del GL.out AG.out XM.out] at CP
          clear z0 z1 z2 z3 z4
          obtain ⟨⟨z0, z1, z2, z3, z4⟩, _, _⟩ := BXC.out w12 T12.out
          have ltr2 : w4.heap.size < w12.heap.size := by have := T12.out.size; have := LW.out; omega
          clear s12 k12 CT
          go_wp2_with fail
          refine CP.out.mono ?_
          rintro e w13 ⟨rfl, s13, k13⟩
          have T13 := Lib.hid (T12.out.trans (Tn.of_but2 k13))
          have CR := Lib.hid (RV.out [] L w13 T13.out s13 (fun _ => ⟨Co.Good.nil, Co.Arg.nil, rfl, (less_of_nil L).symm⟩))
          obtain ⟨_, u0, u1⟩ := BXC.out w13 T13.out
          have ltr3 : w3.heap.size < w13.heap.size := by have := T13.out.size; have := LW.out; omega
          clear s13 k13 CP z0 z1 z2 z3 z4
          go_wp2_with fail
          refine CR.out.mono ?_
          rintro e w14 ⟨c, l', rfl, s14, t14, h14⟩
          rcases h14 with ⟨_, _, y, hy, hf⟩ | ⟨rfl, rfl, _⟩
          case inl =>
            rw [(Co.inB_iff GL.out.srt).2 hy] at hf
            cases hf
          have T14 := Lib.hid (T13.out.trans t14)
          have S14 := Lib.hid s14
          have CW := Lib.hid (wakes_any w14 (FW.out w14 T14.out).2)
          clear s14 t14 u0 u1 CR
          go_wp2_with fail
          refine CW.out.mono ?_
          rintro e w15 ⟨rfl, hb15⟩
          have T15 := Lib.hid (T14.out.next hb15)
          have CR := Lib.hid (RV.out [] [] w15 T15.out (S14.out.below hb15 S14.out.lta S14.out.ltb) (fun h => by have := h x XM.out; simp [Co.inB, Co.hasB] at this))
          obtain ⟨_, u0, u1⟩ := BXC.out w15 T15.out
          have ltr4 : w3.heap.size < w15.heap.size := by have := T15.out.size; have := LW.out; omega
          clear hb15 CW
          go_wp2_with fail
          refine CR.out.mono ?_
          rintro e w16 ⟨c, l', rfl, s16, t16, h16⟩
          rcases h16 with ⟨rfl, _, _⟩ | ⟨_, _, hall⟩
          case inr =>
            have := hall x XM.out
            simp [Co.inB, Co.hasB] at this
          have T16 := Lib.hid (T15.out.trans t16)
          have CN := Lib.hid (revert_nil (.slice As' 0 cs') (.slice (some ⟨bx, ox, none⟩) nl cm') w16 ⟨_, _, _, rfl⟩ ⟨_, _, _, rfl⟩)
          clear u0 u1 s16 t16 CR
          obtain ⟨_, u0, u1⟩ := BXC.out w16 T16.out
          have ltr5 : w3.heap.size < w16.heap.size := by have := T16.out.size; have := LW.out; omega
          go_wp2_with fail
          refine CN.out.mono ?_
          rintro e w17 ⟨rfl, hb17⟩
          go_wp2_with fail
          go_ret
          exact ⟨rfl, (FW.out w17 (T16.out.next hb17)).1⟩

end Go.Proofs.YtnmfjnfdnjjngaaGreatDoor
