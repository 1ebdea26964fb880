/-
  BlockRaw: the walk.
-/
import Derived.Test.YtnmfjnfdnjjngaaGreatDoorMBst
import Derived.Deep.CutBlock
namespace Go.Proofs.YtnmfjnfdnjjngaaGreatDoor
open Go.RowKit
set_option maxRecDepth 100000

theorem cut_ok {t : TxD} (h : t.Any) {m : Nat} (hm : m ≤ 512) : (cutTx m t).Ok := by
  obtain ⟨_, _, h3, h4, h5, h6, h7, h8⟩ := h
  refine ⟨by simp [cutTx]; omega, by simp [cutTx]; omega, ?_, ?_, h5, h6, h7, h8⟩
  · intro x hx
    obtain ⟨y, hy, rfl⟩ := List.mem_map.1 hx
    obtain ⟨_, a, b, c, d, _⟩ := h3 y (List.mem_of_mem_take hy)
    refine ⟨Nat.le_trans (cutS_size 40 y.id) (by omega), a, b, c, d, ?_, ?_⟩
    · simp [cutIn]; omega
    · intro s hs
      obtain ⟨r, _, rfl⟩ := List.mem_map.1 hs
      exact Nat.le_trans (cutS_size 90 r) (by omega)
  · intro x hx
    obtain ⟨y, hy, rfl⟩ := List.mem_map.1 hx
    obtain ⟨a, b, _⟩ := h4 y (List.mem_of_mem_take hy)
    exact ⟨a, b, Nat.le_trans (cutS_size 50 y.scr) (by omega)⟩
theorem cut_outs (t : TxD) (m : Nat) : (cutTx m t).outs.length ≤ m := by simp [cutTx]; omega
theorem blkF_zero {h : Int} : ∀ (xs : List TxD) (i : Nat) (l : List Co.EnD), (blkF h xs i l).code = 0 → (blkF h xs i l).at_ = -1 ∧ (blkF h xs i l).inn = -1
  | [], _, _, _ => ⟨rfl, rfl⟩
  | t :: r, i, l, h0 => by
    rw [blkF] at h0 ⊢
    by_cases hz : (oneA l t (i == 0) h).code = 0
    · rw [if_pos hz] at h0 ⊢
      exact blkF_zero r (i + 1) _ h0
    · rw [if_neg hz] at h0
      exact absurd h0 hz
theorem blk_zero {l : List Co.EnD} {xs : List TxD} {h : Int} (h0 : (blkA l xs h).code = 0) : (blkA l xs h).at_ = -1 ∧ (blkA l xs h).inn = -1 := by
  unfold blkA at h0 ⊢
  split
  · rename_i hh
    rw [if_pos hh] at h0
    cases h0
  · rename_i hh
    rw [if_neg hh] at h0
    split
    · rename_i hc
      exact blkF_zero xs 0 l hc
    · rename_i hc
      rw [if_neg hc] at h0
      exact absurd h0 hc
/-- What Apply answers, whether there is an error or not. -/
theorem ApEnd.any {a b : Nat} {l0 : List Co.EnD} {ts : List TxD} {h : Int} {w w' : World} {e : Ending} (k : ApEnd a b l0 (blkA l0 ts h) w e w') :
    ∃ As p1 cs Am p2 cm v, e = .returned (.tuple #[.agg #[.slice As p1 cs, .slice Am p2 cm], v]) ∧ Hid (ErrW w.heap.size w' v (blkA l0 ts h).code (blkA l0 ts h).at_ (blkA l0 ts h).inn) ∧ Hid (Co.SetIs w' a b (blkA l0 ts h).l) ∧ Hid (Tn [a, b] w w') := by
  obtain ⟨hs, ht, hh⟩ := k
  rcases hh with ⟨h0, vs, vm, rfl, e1, e2⟩ | ⟨h0, v, rfl, he⟩
  · obtain ⟨As, cs, rfl⟩ := e1.form
    obtain ⟨Am, cm, rfl⟩ := e2.form
    obtain ⟨q1, q2⟩ := blk_zero h0
    exact ⟨As, _, cs, Am, _, cm, _, rfl, Lib.hid (.inl ⟨h0, q1, q2, rfl⟩), Lib.hid hs, Lib.hid ht⟩
  · exact ⟨none, 0, 0, none, 0, 0, v, rfl, Lib.hid he, Lib.hid hs, Lib.hid ht⟩

set_option maxHeartbeats 4000000 in
theorem raw_law (ts0 : List TxD) (A0 : Option Addr) (c0 : Nat) (h : Int) (w : World) (hd : Dr w) (ht : Txs w 0 w.heap.size (.slice A0 ts0.length c0) ts0) (ok : ∀ t ∈ ts0, t.Any) :
    Calls Tryz.prog 4 #[.slice A0 ts0.length c0, .int .i64 h] w fun e w' => e = .returned (.bool true) ∧ Below w.heap.size w w' := by
  have HD := Lib.hid hd
  have TX := Lib.hid (fun V (hV : Below w.heap.size w V) => ht.keep (Kept.of_below hV (Nat.le_refl _)))
  have OK := Lib.hid ok
  have hcap := ht.cap
  obtain ⟨ns, hns⟩ : ∃ n, ts0.length = n := ⟨_, rfl⟩
  rw [hns] at TX hcap ⊢
  obtain ⟨n, hn⟩ : ∃ n, min ns 4 = n := ⟨_, rfl⟩
  have hmn : ∀ w, (Builtin.min_ #[3, 3] 3 #[.int .i64 (ns : Int), .int .i64 4]).run Tryz.prog w = .ok (.int .i64 (n : Nat)) w := by rw [← hn]; exact fun w => run_min_nat 4 #[3, 3] 3 ns w
  have hn1 : n ≤ ns := by omega
  have hn6 : n ≤ 4 := by omega
  have hnc : n ≤ c0 := by omega
  have z1 : (n : Int) ≤ (c0 : Int) := by omega
  have z2 : ¬ (n : Int) < 0 := by omega
  have HN := Lib.hid hns
  obtain ⟨i51, hi51, y0, y1, y2⟩ := info_parts info51
  clear hd ht ok hns hn
  go_enter Tryz.func4, Tryz.ntmps4
  go_wp2_with fail
  go_loopg [5, 21] n (fun gg s5 s21 wr => ∃ (k : Nat) (ts : List TxD) (cells : List Value), k ≤ n ∧ n - k ≤ gg ∧ s21 = .int .i64 (k : Int) ∧ Hid (PileT wr w.heap.size s5 ts cells) ∧ Hid (ts.length = k ∧ (∀ t ∈ ts, t.Ok) ∧ outsN ts ≤ 4 * k) ∧ Hid (Below w.heap.size w wr))
  case atStart => exact ⟨0, [], [], Nat.zero_le _, by omega, rfl, Lib.hid (PileT.nil _ _), Lib.hid ⟨rfl, by simp, by simp [outsN]⟩, Lib.hid (Below.refl _ _)⟩
  case round =>
    obtain ⟨k, ts, cells, hk, hgk, rfl, HP, HT, HB⟩ := hrel
    obtain ⟨At, ct, hvt⟩ := own_form HP.out.own
    subst hvt
    have zwr := HB.out.size
    obtain ⟨tl, htl⟩ : ∃ x, ts.length = x := ⟨_, rfl⟩
    have HTL := Lib.hid htl
    have htl5 : tl ≤ 4 := by have := HT.out.1; omega
    by_cases hlt : k < n
    · have j1 : (k : Int) < (n : Int) := by omega
      have j2 : decide (k < n) = true := decide_eq_true hlt
      have j3 : ¬ (k : Int) < 0 := by omega
      obtain ⟨t, hx⟩ : ∃ x, ts0[k]? = some x := ⟨_, List.getElem?_eq_getElem (by rw [HN.out]; omega)⟩
      obtain ⟨bz, oz, rfl, _, gz, c0, ⟨vi, vo, c1, c2, htx⟩, c3⟩ := (TX.out wr HB.out).at hx
      have hany := OK.out t (List.mem_of_getElem? hx)
      obtain ⟨A1, m1, rfl⟩ := htx.1.form
      obtain ⟨A2, m2, rfl⟩ := htx.2.form
      obtain ⟨n1, hn1'⟩ : ∃ x, t.ins.length = x := ⟨_, rfl⟩
      obtain ⟨n2, hn2'⟩ : ∃ x, t.outs.length = x := ⟨_, rfl⟩
      obtain ⟨w1, hw1⟩ : ∃ w1, w1 = wr.alloc (.cells #[.int .u32 t.ver, .slice A1 n1 m1, .slice A2 n2 m2, .int .u32 t.lock] 51) := ⟨_, rfl⟩
      have b1 : Below wr.heap.size wr w1 := by rw [hw1]; exact (Below.refl _ _).alloc (Nat.le_refl _) _
      have zw1 : w1.heap.size = wr.heap.size + 1 := by rw [hw1]; simp
      have bx1 : Boxed w1 wr.heap.size (.int .u32 t.ver) (.slice A1 n1 m1) (.slice A2 n2 m2) (.int .u32 t.lock) := by rw [hw1]; exact Boxed.new _ _ _ _ _ _
      have W1 := Lib.hid (show wr.alloc (.cells #[.int .u32 t.ver, .slice A1 n1 m1, .slice A2 n2 m2, .int .u32 t.lock] 51) = w1 from hw1.symm)
      have CC := Lib.hid (show Calls Tryz.prog 21 #[.agg #[.int .u32 t.ver, .slice A1 t.ins.length m1, .slice A2 t.outs.length m2, .int .u32 t.lock], .int .i64 4] w1 _ from cut_any t 4 _ _ w1 w.heap.size (htx.keep (Kept.of_below b1 zwr)) (by omega) (by decide)
        (by have := hany.1; unfold maxLen at this; omega) (by have := hany.2.1; unfold maxLen at this; omega) (fun x hx => by have := (hany.2.2.1 x hx).2.2.2.2.2.1; unfold maxLen at this; omega))
      have KO := Lib.hid (cut_ok (m := 4) hany (by decide))
      have KU := Lib.hid (cut_outs t 4)
      have KV := Lib.hid (show (cutTx 4 t).ver = t.ver ∧ (cutTx 4 t).lock = t.lock from ⟨rfl, rfl⟩)
      obtain ⟨t2, ht2⟩ : ∃ x, cutTx 4 t = x := ⟨_, rfl⟩
      rw [ht2] at CC KO KU KV
      rw [hn1', hn2'] at CC
      rw [hn1'] at c1
      rw [hn2'] at c2
      obtain ⟨d0, d1, d2, d3⟩ := bx1
      have B1 := Lib.hid b1
      have Z1 := Lib.hid zw1
      clear hw1 b1 zw1 htx hx hany hn1' hn2' ht2
      go_upto_region 5 with (fail)
      rw [W1.out]
      clear c0 c1 c2 c3
      rw [htl]
      go_wp2_with fail
      refine CC.out.mono ?_
      rintro e w2 ⟨vi, vo, rfl, ht, hb2⟩
      obtain ⟨A3, m3, rfl⟩ := ht.1.form
      obtain ⟨A4, m4, rfl⟩ := ht.2.form
      obtain ⟨n3, hn3'⟩ : ∃ x, t2.ins.length = x := ⟨_, rfl⟩
      obtain ⟨n4, hn4'⟩ : ∃ x, t2.outs.length = x := ⟨_, rfl⟩
      rw [hn3', hn4'] at ht ⊢
      have T2 := Lib.hid ht
      have F2 := Lib.hid (show Below wr.heap.size wr w2 from B1.out.trans (hb2.mono B1.out.size))
      have HP2 := Lib.hid (HP.out.below F2.out)
      have HOW := Lib.hid HP2.out.own
      have HLT := Lib.hid (show ∀ g, (Value.slice At ts.length ct).ownBlock = some g → g < wr.heap.size from fun g hg => (HP.out.own.lt g hg).2)
      rw [htl] at HOW
      have zz2 : wr.heap.size < w2.heap.size := by have := hb2.size; have := Z1.out; omega
      have hwb : w.heap.size ≤ w2.heap.size := by omega
      have hmax : tl + 1 ≤ maxLen := by unfold maxLen; omega
      have hbytes : (tl + 1) * 64 ≤ 140737488355328 := by omega
      clear ht hb2 hn3' hn4' d0 d1 d2 d3
      go_wp2_with (at_builtin; refine wpList_append_lies _ rfl _ _ 27 rfl w.heap.size 51 i51 _ 4 64 Tryz.underlying27 hi51 y0 y1 y2 rfl (by decide) _ _ _ rfl (HOW.out.alloc _) ⟨w2.heap.size, 0, none⟩ 1 1 [.int .u32 t.ver, .slice A3 n3 m3, .slice A4 n4 m4, .int .u32 t.lock] rfl rfl (four_new _ _ _ _ _ _) (by intro u hu; simp at hu; rcases hu with rfl | rfl | rfl | rfl <;> rfl) (by decide) hmax hbytes (by simp; omega) _ rfl ?_; intro g' cap' w9 hown' hgrow hat hlt')
      go_roundg (n - (k + 1))
      case measure => omega
      case rel =>
        have e1 := HTL.out
        subst e1
        have RP := HP2.out.push (t := t2) T2.out (by have := B1.out.size; omega) (Nat.le_refl _) (fun g hg => .inl (by have := HLT.out g hg; have := Z1.out; omega)) hgrow (by rw [KV.out.1, KV.out.2]; exact hown') (fun g hg => by
          simp [Value.ownBlock] at hg
          subst hg
          rcases hat with e | e
          · exact .inl e
          · exact .inr (by rw [e]; simp))
        exact ⟨k + 1, ts ++ [t2], _, by omega, by omega, by go_num, Lib.hid RP, Lib.hid ⟨by rw [List.length_append, HT.out.1]; rfl, fun x hx => by
          rcases List.mem_append.1 hx with hx | hx
          · exact HT.out.2.1 x hx
          · obtain rfl := List.mem_singleton.1 hx
            exact KO.out, by rw [outs_snoc]; have := HT.out.2.2; have := KU.out; omega⟩, Lib.hid ((HB.out.trans (F2.out.mono zwr)).trans (below_of_own hgrow HP2.out.own hwb))⟩
    · have k3 : ¬ (k : Int) < (n : Int) := by omega
      have k4 : decide (k < n) = false := decide_eq_false hlt
      have TT := Lib.hid HP.out.txs
      have CN := Lib.hid (Co.new_any wr)
      have DW := Lib.hid (HD.out.below HB.out)
      have h3 := DW.out.lt
      have hws := HD.out.lt
      rw [htl]
      go_wp2_with fail
      refine CN.out.mono ?_
      rintro e w1 ⟨rfl, s1, b1, zz1⟩
      have S1 := Lib.hid s1
      have B1 := Lib.hid b1
      have D1 := Lib.hid (DW.out.below b1)
      have CA := Lib.hid (blk_any (wr.heap.size + 1) wr.heap.size [] ts h At ct w1 w.heap.size wr.heap.size s1 Co.Arg.nil (TT.out.keep (Kept.of_below b1 (Nat.le_refl _))) (by omega) (fun i hi => by simp at hi; rcases hi with rfl | rfl <;> exact .inr (by omega)) HT.out.2.1 (by have := HT.out.1; omega) (by have := HT.out.2.2; have := HT.out.1; show 0 + _ ≤ 900; omega) D1.out (by omega) (by omega))
      have CG := Lib.hid (fun e w' (k : ApEnd (wr.heap.size + 1) wr.heap.size [] (blkA [] ts h) w1 e w') => k.any)
      have KP := Lib.hid (blk_keeps (h := h) HT.out.2.1 Co.Good.nil Co.Arg.nil)
      have CR := Lib.hid (fun V (hV : Tn [wr.heap.size + 1, wr.heap.size] w1 V) => rap_any none 0 [] ts h At ct V V.heap.size V.heap.size w.heap.size wr.heap.size (Co.Ents.nil _ _ _) (Nat.le_refl _) (Nat.le_refl _) Co.Good.nil Co.Arg.nil ((TT.out.keep (Kept.of_below b1 (Nat.le_refl _))).keep (hV.kept (fun i hi => by simp at hi; rcases hi with rfl | rfl <;> exact .inr (by omega)) (by omega))) (by have := hV.size; omega) HT.out.2.1 (by have := HT.out.1; omega) (by have := HT.out.2.2; have := HT.out.1; show 0 + _ ≤ 900; omega))
      obtain ⟨B, hB⟩ : ∃ B, blkA [] ts h = B := ⟨_, rfl⟩
      rw [hB] at CA CG KP CR
      rw [htl] at CA CR
      have ZS := Lib.hid zz1
      clear s1 b1 zz1 hB CN
      obtain ⟨a, ha⟩ : ∃ a, a = wr.heap.size + 1 := ⟨_, rfl⟩
      rw [← ha] at CA CG CR S1 ⊢
      have HA := Lib.hid ha
      clear ha
      go_wp2_with fail
      refine CA.out.mono ?_
      intro e w3 hk3
      obtain ⟨As, p1, cs, Am, p2, cm, v, rfl, HE, HS, HTn⟩ := CG.out _ _ hk3
      clear hk3
      obtain ⟨w4, hw4⟩ : ∃ w4, w4 = w3.alloc (.cells #[.slice As p1 cs, .slice Am p2 cm] 31) := ⟨_, rfl⟩
      have b4 : Below w3.heap.size w3 w4 := by rw [hw4]; exact (Below.refl _ _).alloc (Nat.le_refl _) _
      have W4 := Lib.hid (show w3.alloc (.cells #[.slice As p1 cs, .slice Am p2 cm] 31) = w4 from hw4.symm)
      have T4 := Lib.hid (HTn.out.next b4)
      have S4 := Lib.hid (HS.out.below b4 HS.out.lta HS.out.ltb)
      have E4 := Lib.hid (HE.out.below b4)
      have CR4 := Lib.hid (CR.out w4 T4.out)
      clear hw4 b4
      go_upto_region 9 with (fail)
      rw [W4.out]
      go_wp2_with fail
      refine CR4.out.mono ?_
      rintro e w5 ⟨vn, rfl, HE5, HB5⟩
      obtain ⟨A5, c5, rfl⟩ := HE5.form
      have E5 := Lib.hid (E4.out.below HB5)
      have S5 := Lib.hid (S4.out.below HB5 S4.out.lta S4.out.ltb)
      have D5 := Lib.hid ((D1.out.tn T4.out (fun i hi => by simp at hi; have := HA.out; omega)).below HB5)
      have L5 := Lib.hid HE5
      have F5 := Lib.hid (show Below w.heap.size w w5 from Tn.below (HB.out.trans (B1.out.mono zwr)) (T4.out.next HB5) (fun i hi => by simp at hi; have := HA.out; omega) (by have := B1.out.size; omega))
      have CW := Lib.hid (wakes_any w5 D5.out)
      obtain ⟨l5, hl5⟩ : ∃ x, B.l.length = x := ⟨_, rfl⟩
      rw [hl5] at L5 ⊢
      have KL := Lib.hid (show B.l.length ≤ 900 from by have := KP.out.2.2; have := HT.out.2.2; have := HT.out.1; have e : ([] : List Co.EnD).length = 0 := rfl; omega)
      obtain ⟨o1, ho1⟩ : ∃ x, B.code = x := ⟨_, rfl⟩
      obtain ⟨o2, ho2⟩ : ∃ x, B.at_ = x := ⟨_, rfl⟩
      obtain ⟨o3, ho3⟩ : ∃ x, B.inn = x := ⟨_, rfl⟩
      rw [ho1, ho2, ho3] at E5
      rw [ho1, ho2, ho3]
      have q1 : (o1 == o1) = true := by simp
      have q2 : (o2 == o2) = true := by simp
      have q3 : (o3 == o3) = true := by simp
      clear HE5 HB5 ho1 ho2 ho3 hl5
      go_wp2_with fail
      refine CW.out.mono ?_
      rintro e w6 ⟨rfl, hb6⟩
      have CC := Lib.hid (code_errw (E5.out.below hb6) (D5.out.below hb6).err)
      have B6 := Lib.hid hb6
      clear hb6
      go_wp2_with fail
      refine CC.out.mono ?_
      rintro e w7 ⟨rfl, hb7⟩
      have B7 := Lib.hid (below_next B6.out B6.out.size hb7)
      have CP := Lib.hid (place_errw (E5.out.below B7.out) (D5.out.below B7.out).err)
      clear hb7
      go_wp2_with fail
      refine CP.out.mono ?_
      rintro e w8 ⟨rfl, hb8⟩
      have B8 := Lib.hid (below_next B7.out B7.out.size hb8)
      have CI := Lib.hid (inner_errw (E5.out.below B8.out) (D5.out.below B8.out).err)
      clear hb8
      go_wp2_with fail
      refine CI.out.mono ?_
      rintro e w9 ⟨rfl, hb9⟩
      have B9 := Lib.hid (below_next B8.out B8.out.size hb9)
      have CS := Lib.hid (Co.same_any a wr.heap.size B.l A5 l5 c5 w9 _ _ (S5.out.below B9.out S5.out.lta S5.out.ltb) (L5.out.keep (Kept.of_below B9.out (Nat.le_refl _))) B9.out.size KL.out)
      clear hb9
      go_wp2_with fail
      refine CS.out.mono ?_
      rintro e w10 ⟨rfl, hb10⟩
      go_wp2_with fail
      go_ret
      exact ⟨rfl, below_next F5.out F5.out.size (below_next B9.out B9.out.size hb10)⟩

end Go.Proofs.YtnmfjnfdnjjngaaGreatDoor
