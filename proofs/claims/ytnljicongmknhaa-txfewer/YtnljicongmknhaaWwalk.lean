/-
  The statement TxFewer, walked.
-/
import Derived.Test.YtnljicongmknhaaWmem
import Derived.BigRegion
import Derived.Deep.RegionLawGrows
namespace Go.Proofs.Ytnljicongmknhaa
open Go.RowKit

set_option maxHeartbeats 4000000 in
set_option maxRecDepth 100000 in
theorem fewer_law (t : TxD) (vi vo : Value) (n m : Int) (hn : 0 ≤ n ∧ n ≤ 255) (hm : 0 ≤ m ∧ m ≤ 255) (w : World) (ht : TxAt w 0 w.heap.size vi vo t) (hc : t.Came) :
    Calls Try.prog 8 #[.agg #[.int .u32 t.ver, vi, vo, .int .u32 t.lock], .int .u8 n, .int .u8 m] w fun e w' => e = .returned (.bool true) ∧ Below w.heap.size w w' := by
  have HT := Lib.hid ht
  have HC := Lib.hid hc
  clear ht hc
  have B0 := Lib.hid (fun o => (Below.refl w.heap.size w).alloc (Nat.le_refl _) o)
  obtain ⟨i43, hi43, x0, x1, x2⟩ := info_parts info43
  go_enter Try.func8, Try.ntmps8
  go_wp2_with fail
  refine (fit_any t vi vo _ w.heap.size (HT.out.keep (Kept.of_below (B0.out _) (Nat.le_refl _))) (by simp) HC.out).mono ?_
  rintro e w1 ⟨u, Ai, Ao, ci, co, rfl, hok, hn8, hm8, hci, hco, h1, h2, hb1⟩
  have HOK := Lib.hid hok
  have S1 := Lib.hid (TxS.new (show TxAt w1 0 w1.heap.size (.slice Ai u.ins.length ci) (.slice Ao u.outs.length co) u from ⟨(h1.ins hci).wide (Nat.zero_le _) (Nat.le_refl _), (h2.outs hco).wide (Nat.zero_le _) (Nat.le_refl _)⟩))
  have hbw := below_next (B0.out _) (by simp) hb1
  have K1 := Lib.hid (hbw.alloc hbw.size (.cells #[.int .u32 u.ver, .slice Ai u.ins.length ci, .slice Ao u.outs.length co, .int .u32 u.lock] 26))
  clear hok h1 h2 hb1 hbw B0 HT HC hci hco
  go_wp2_with fail
  refine (wakes_any _).mono ?_
  rintro e w2 ⟨rfl, hb2⟩
  have S2 := Lib.hid (S1.out.below hb2)
  have K2 := Lib.hid (below_next K1.out K1.out.size hb2)
  clear hb2
  have z2 := S2.out.lt
  obtain ⟨a0, a1, a2, a3⟩ := S2.out.box
  go_wp2_with fail
  refine (check_any u _ _ w2 0 w2.heap.size S2.out.tx (Nat.le_refl _) HOK.out).mono ?_
  rintro e w3 ⟨rfl, hb3⟩
  have S3 := Lib.hid (S2.out.below hb3)
  have K3 := Lib.hid (below_next K2.out K2.out.size hb3)
  clear hb3 a0 a1 a2 a3 z2
  by_cases hz : checkD u = 0
  case neg =>
    have e1 : (checkD u != 0) = true := by simpa using hz
    go_wp2_with fail
    refine (wakes_any _).mono ?_
    rintro e w4 ⟨rfl, hb4⟩
    go_wp2_with fail
    go_ret
    exact ⟨rfl, below_next K3.out K3.out.size hb4⟩
  have e1 : (checkD u != 0) = false := by simpa using hz
  have z3 := S3.out.lt
  obtain ⟨a0, a1, a2, a3⟩ := S3.out.box
  go_wp2_with fail
  refine (total_any u _ _ w3 0 w3.heap.size S3.out.tx.2 (Nat.le_refl _) HOK.out.2.1).mono ?_
  rintro e w4 ⟨rfl, hb4⟩
  have S4 := Lib.hid (S3.out.below hb4)
  have K4 := Lib.hid (below_next K3.out K3.out.size hb4)
  clear hb4 a0 a1 a2 a3 z3
  have z4 := S4.out.lt
  obtain ⟨a0, a1, a2, a3⟩ := S4.out.box
  go_wp2_with fail
  refine (copy_own u _ _ w4 0 w4.heap.size S4.out.tx (Nat.le_refl _) HOK.out).mono ?_
  rintro e w5 ⟨A, c, B, d, rfl, hco5⟩
  have S5 := Lib.hid (S4.out.below hco5.bel)
  have K5 := Lib.hid (below_next K4.out K4.out.size hco5.bel)
  have T5 := Lib.hid hco5.tx
  clear hco5 a0 a1 a2 a3
  obtain ⟨hcn, _, _, _, htot⟩ := checkD_zero hz
  obtain ⟨⟨l1, l2⟩, ⟨l3, l4⟩, _⟩ := countsB_parts hcn
  have hcap1 := T5.out.1.cap
  have hcap2 := T5.out.2.cap
  obtain ⟨p, hp1, hp2, hp3⟩ : ∃ p : Nat, n.tmod (u.ins.length : Int) = (p : Int) ∧ p < u.ins.length ∧ (p : Int) < (u.ins.length : Int) := by
    refine ⟨(n.tmod (u.ins.length : Int)).toNat, ?_, ?_, ?_⟩
    all_goals have ha := Int.tmod_nonneg (u.ins.length : Int) hn.1
    all_goals have hb := Int.tmod_lt_of_pos n (b := (u.ins.length : Int)) (by omega)
    all_goals omega
  obtain ⟨q, hq1, hq2, hq3⟩ : ∃ q : Nat, m.tmod (u.outs.length : Int) = (q : Int) ∧ q < u.outs.length ∧ (q : Int) < (u.outs.length : Int) := by
    refine ⟨(m.tmod (u.outs.length : Int)).toNat, ?_, ?_, ?_⟩
    all_goals have ha := Int.tmod_nonneg (u.outs.length : Int) hm.1
    all_goals have hb := Int.tmod_lt_of_pos m (b := (u.outs.length : Int)) (by omega)
    all_goals omega
  have nz1 : ¬ (u.ins.length : Int) = 0 := by omega
  have nz2 : ¬ (u.outs.length : Int) = 0 := by omega
  obtain ⟨p1, hpe⟩ : ∃ p1 : Nat, p1 = p + 1 := ⟨_, rfl⟩
  obtain ⟨q1, hqe⟩ : ∃ q1 : Nat, q1 = q + 1 := ⟨_, rfl⟩
  have v1 : IntKind.i64.wrap (1 + (p : Int)) = (p1 : Int) := by rw [IntWalk.i64_in _ (by omega)]; omega
  have v2 : IntKind.i64.wrap (1 + (q : Int)) = (q1 : Int) := by rw [IntWalk.i64_in _ (by omega)]; omega
  have v3 : (p1 : Int) ≤ (c : Int) := by omega
  have v4 : (q1 : Int) ≤ (d : Int) := by omega
  have v5 : p1 ≤ c := by omega
  have v6 : q1 ≤ d := by omega
  have v7 : (0 : Int) ≤ (p1 : Int) := by omega
  have v8 : (0 : Int) ≤ (q1 : Int) := by omega
  have v9 : IntKind.i64.wrap n = n := IntWalk.i64_in _ (by omega)
  have v10 : IntKind.i64.wrap m = m := IntWalk.i64_in _ (by omega)
  obtain ⟨v, hv⟩ : ∃ v : TxD, v = ⟨u.ver, u.ins.take p1, u.outs.take q1, u.lock⟩ := ⟨_, rfl⟩
  have hvc : checkD v = 0 := by rw [hv]; exact check_take hz (by omega) (by omega) (by omega) (by omega)
  have hvt : (totalD v.outs).2 = 0 ∧ (totalD v.outs).1 ≤ (totalD u.outs).1 := by rw [hv]; exact total_take htot q1
  have hvi : v.ins.length = p1 := by rw [hv]; simp; omega
  have hvo : v.outs.length = q1 := by rw [hv]; simp; omega
  have hvk : v.Ok := by
    have hok := HOK.out
    rw [hv]
    exact ⟨by simp; omega, by simp; omega, fun x hx => hok.2.2.1 x (List.mem_of_mem_take hx), fun x hx => hok.2.2.2.1 x (List.mem_of_mem_take hx), hok.2.2.2.2⟩
  have T5v : TxAt w5 0 w5.heap.size (.slice A v.ins.length c) (.slice B v.outs.length d) v := by
    rw [hvi, hvo, hv]
    exact ⟨(T5.out.1.wide (Nat.zero_le _) (Nat.le_refl _)).take (by omega), (T5.out.2.wide (Nat.zero_le _) (Nat.le_refl _)).take (by omega)⟩
  obtain ⟨W6, hW6⟩ : ∃ W6, W6 = (w5.alloc (.cells #[.int .u32 v.ver, .slice A v.ins.length c, .slice B v.outs.length d, .int .u32 v.lock] 26)).drew := ⟨_, rfl⟩
  have hb6 : Below w5.heap.size w5 W6 := by rw [hW6]; exact ((Below.refl _ _).alloc (Nat.le_refl _) _).drew
  have V6 := Lib.hid (show TxS w5.heap.size v (.slice A v.ins.length c) (.slice B v.outs.length d) W6 from by rw [hW6]; exact (TxS.new T5v).drew)
  have S6 := Lib.hid (S5.out.below hb6)
  have K6 := Lib.hid (below_next K5.out K5.out.size hb6)
  have hvv : v.ver = u.ver := by rw [hv]
  have hvl : v.lock = u.lock := by rw [hv]
  have W6E := Lib.hid hW6
  have HZ := Lib.hid hz
  have HVC := Lib.hid hvc
  have HVT := Lib.hid hvt
  have HVK := Lib.hid hvk
  have HVE := Lib.hid (show p1 = p + 1 ∧ q1 = q + 1 ∧ v.ver = u.ver ∧ v.lock = u.lock ∧ v.ins.length = p1 ∧ v.outs.length = q1 from ⟨hpe, hqe, hvv, hvl, hvi, hvo⟩)
  have HTOT := Lib.hid htot
  clear hcn hb6 T5v hW6 hz hvc hvt hvk hv hvv hvl hvi hvo htot
  go_upto_region 6 with (fail)
  go_cut [] (fun wx => W6 = wx)
  case first =>
    go_region
    all_goals go_wp2_with fail
    all_goals go_meet
    all_goals
      obtain ⟨r1, r2, r3, r4, r5, r6⟩ := HVE.out
      rw [W6E.out, r3, r4, r5, r6, r1, r2]
  case rest =>
    obtain rfl := hcut
    have hul : u.ins.length ≤ 8 := hn8
    clear hpe hqe v1 v2 v3 v4 v5 v6 v7 v8 z4 hq1 hq2 hq3 hcap1 hcap2
    have z6 := V6.out.lt
    obtain ⟨a0, a1, a2, a3⟩ := V6.out.box
    go_wp2_with fail
    refine (total_any v _ _ W6 0 W6.heap.size V6.out.tx.2 (Nat.le_refl _) HVK.out.2.1).mono ?_
    rintro e w7 ⟨rfl, hb7⟩
    have V7 := Lib.hid (V6.out.below hb7)
    have S7 := Lib.hid (S6.out.below hb7)
    have K7 := Lib.hid (below_next K6.out K6.out.size hb7)
    clear hb7 a0 a1 a2 a3 z6
    have z7 := S7.out.lt
    obtain ⟨a0, a1, a2, a3⟩ := S7.out.box
    go_wp2_with fail
    refine (copy_own u _ _ w7 0 w7.heap.size S7.out.tx (Nat.le_refl _) HOK.out).mono ?_
    rintro e w8 ⟨A', c', B', d', rfl, hco8⟩
    have hnn : ¬ u.ins = [] := by intro h; rw [h] at l1; simp at l1
    obtain ⟨g, rfl, g1, g2, hown, hall⟩ := hco8.1.owns hnn
    obtain ⟨x, hx⟩ : ∃ x, u.ins[p]? = some x := ⟨_, List.getElem?_eq_getElem hp2⟩
    obtain ⟨c0, c1, c2, bx, c3, hst⟩ := hall p x hx
    obtain ⟨Bx, nx, hbx⟩ := hst.form
    subst hbx
    have HCO := Lib.hid hco8
    have HOWN := Lib.hid hown
    have HALL := Lib.hid hall
    have HST := Lib.hid hst
    have HX := Lib.hid hx
    clear hco8 hown hall hst hx a0 a1 a2 a3 z7
    go_upto_region 9 with (fail)
    go_cut [] (fun wx => ∃ g2 c2, TxS w8.heap.size ⟨u.ver, u.ins ++ [x], u.outs, u.lock⟩ (.slice (some ⟨g2, 0, none⟩) (u.ins.length + 1) c2) (.slice B' u.outs.length d') wx ∧ Below w7.heap.size w7 wx)
    case first =>
      go_region_law (refine step_append_lies _ rfl _ _ 23 rfl (w7.heap.size + 2) 43 i43 _ 4 56 Try.underlying23 hi43 x0 x1 x2 rfl (by decide) _ u.ins.length (cellsAt w8 g 0 (u.ins.length * 4)) rfl (by exact (HOWN.out.alloc _).alloc _) ⟨w8.heap.size + 1, 0, none⟩ 1 1 [.string x.id, .int .u32 x.ix, .int .u32 x.sq, .slice Bx x.wit.length nx] rfl rfl (news4 _ _ (by simp) _ _ _ _ _) (by intro u hu; simp at hu; rcases hu with rfl | rfl | rfl | rfl <;> rfl) (by omega) (by unfold maxLen; omega) (by omega) (by simp; omega) (w8.heap.size + 1 + 1) (by simp) ?_; intro gn cap2 w10 hown2 hgrow hat hlt; have HOWN2 := Lib.hid hown2; have HGR := Lib.hid hgrow; have HAT := Lib.hid hat; have y1 := hgrow.cell_far ⟨w8.heap.size, 1, none⟩ (by simp; omega) (fun e => by have e2 : some w8.heap.size = some g := e; injection e2 with e2; omega); have yf := hgrow.frozen_far ⟨w8.heap.size, 1, none⟩ (by simp; omega) (fun e => by have e2 : some w8.heap.size = some g := e; injection e2 with e2; omega); simp at y1 yf; clear hown2 hgrow hat hlt)
      all_goals go_wp2_with fail
      all_goals go_meet
      all_goals exact ⟨gn, cap2, few_end HCO.out ⟨g1, g2⟩ hnn HALL.out HST.out HGR.out HOWN2.out HAT.out⟩
    case rest =>
      obtain ⟨gn, cap2, hz9, hb9⟩ := hcut
      obtain ⟨z, hze⟩ : ∃ z : TxD, z = ⟨u.ver, u.ins ++ [x], u.outs, u.lock⟩ := ⟨_, rfl⟩
      have hzl : u.ins.length + 1 = z.ins.length := by rw [hze]; simp
      have hzc : checkD z = 7 ∨ (checkD z = 4 ∧ isBase u.ins = true) := by rw [hze]; exact check_more HZ.out (by omega) HX.out
      have hzk : z.Ok := by
        have hok := HOK.out
        rw [hze]
        refine ⟨by simp; omega, by simp; omega, fun y hy => ?_, hok.2.2.2.1, hok.2.2.2.2⟩
        rcases List.mem_append.1 hy with hy | hy
        · exact hok.2.2.1 y hy
        · rw [List.mem_singleton.1 hy]; exact hok.2.2.1 x (List.mem_of_getElem? HX.out)
      have hzo : u.outs.length = z.outs.length := by rw [hze]
      rw [hzl, hzo, ← hze] at hz9
      have Z9 := Lib.hid hz9
      have V9 := Lib.hid (V7.out.below hb9)
      have S9 := Lib.hid (S7.out.below hb9)
      have K9 := Lib.hid (below_next K7.out K7.out.size hb9)
      have HZC := Lib.hid hzc
      have HZK := Lib.hid hzk
      clear hz9 hb9 hzc hzk hze hzl hzo c0 c1 c2 c3
      have z9 := Z9.out.lt
      obtain ⟨a0, a1, a2, a3⟩ := Z9.out.box
      go_wp2_with fail
      refine (check_any z _ _ wc 0 wc.heap.size Z9.out.tx (Nat.le_refl _) HZK.out).mono ?_
      rintro e w10 ⟨rfl, hb10⟩
      have V10 := Lib.hid (V9.out.below hb10)
      have S10 := Lib.hid (S9.out.below hb10)
      have K10 := Lib.hid (below_next K9.out K9.out.size hb10)
      clear hb10 a0 a1 a2 a3 z9
      go_wp2_with fail
      refine (wakes_any _).mono ?_
      rintro e w11 ⟨rfl, hb11⟩
      have V11 := Lib.hid (V10.out.below hb11)
      have S11 := Lib.hid (S10.out.below hb11)
      have K11 := Lib.hid (below_next K10.out K10.out.size hb11)
      clear hb11
      have q1 : ((totalD u.outs).2 == 0) = true := by rw [HTOT.out]; rfl
      have q2 : ((totalD v.outs).2 == 0) = true := by rw [HVT.out.1]; rfl
      have q3 : (totalD v.outs).1 ≤ (totalD u.outs).1 := HVT.out.2
      have z11 := V11.out.lt
      obtain ⟨a0, a1, a2, a3⟩ := V11.out.box
      go_wp2_with fail
      refine (check_any v _ _ w11 0 w11.heap.size V11.out.tx (Nat.le_refl _) HVK.out).mono ?_
      rintro e w12 ⟨rfl, hb12⟩
      have S12 := Lib.hid (S11.out.below hb12)
      have K12 := Lib.hid (below_next K11.out K11.out.size hb12)
      clear hb12 a0 a1 a2 a3 z11
      have q4 : (checkD v == 0) = true := by rw [HVC.out]; rfl
      rcases HZC.out with h7 | ⟨h4, hbase⟩
      · have q5 : (checkD z == 7) = true := by rw [h7]; rfl
        clear h7
        go_wp2_with fail
        go_ret
        exact ⟨rfl, K12.out⟩
      · have q5 : (checkD z == 7) = false := by rw [h4]; rfl
        have q6 : (checkD z == 4) = true := by rw [h4]; rfl
        have HBS := Lib.hid hbase
        clear h4 hbase
        have z12 := S12.out.lt
        obtain ⟨a0, a1, a2, a3⟩ := S12.out.box
        go_wp2_with fail
        have h15 := base_any u (.slice Ai u.ins.length ci) (.slice Ao u.outs.length co) w12 _ _ S12.out.tx.1 (Nat.le_refl _)
        rw [HBS.out] at h15
        refine h15.mono ?_
        rintro e w13 ⟨rfl, hb13⟩
        go_wp2_with fail
        go_ret
        exact ⟨rfl, below_next K12.out K12.out.size hb13⟩

end Go.Proofs.Ytnljicongmknhaa
