/-
  What all Ins spend together: the program's spentTogether.
  The program's Fee.
-/
import Derived.Test.YtnmfjnfdnjjngaaGreatDoorMSpb

namespace Go.Proofs.YtnmfjnfdnjjngaaGreatDoor
open Go.RowKit
set_option maxRecDepth 100000

/-- What spentTogether gives. -/
def SptEnd (l : List Co.EnD) (t : TxD) (h : Int) (w : World) (e : Ending) (w' : World) : Prop :=
  Below w.heap.size w w' ∧
    ((OkTo l t h t.ins.length ∧ e = .returned (.tuple #[.int .i64 (sumV l t.ins), .nilIface])) ∨
     (∃ (k : Nat) (x : InD) (g : Nat), t.ins[k]? = some x ∧ OkTo l t h k ∧ spE l t h x ≠ 0 ∧ e = .returned (.tuple #[.int .i64 0, .iface 92 (.pointer (some ⟨g, 0, none⟩))]) ∧
        w.heap.size ≤ g ∧ g < w'.heap.size ∧ w'.cell? ⟨g, 0, none⟩ = some (.int .i64 (k : Int)) ∧ w'.cell? ⟨g, 1, none⟩ = some (.iface 38 (.int .i64 (spE l t h x)))))

set_option maxHeartbeats 1000000 in
theorem spt_any (a b : Nat) (l : List Co.EnD) (t : TxD) (h : Int) (vi vo : Value) (w : World) (hs : Co.SetIs w a b l) (ht : TxAt w 0 w.heap.size vi vo t) (hok : t.Ok) :
    Calls Tryz.prog 87 #[.iface 23 (.pointer (some ⟨a, 0, none⟩)), .agg #[.int .u32 t.ver, vi, vo, .int .u32 t.lock], .int .i64 h] w (SptEnd l t h w) := by
  obtain ⟨w0, hw0⟩ : ∃ w0, w0 = w.alloc (.cells #[.int .u32 t.ver, vi, vo, .int .u32 t.lock] 51) := ⟨_, rfl⟩
  have z0 : w0.heap.size = w.heap.size + 1 := by rw [hw0]; simp
  have hb0 : Below w.heap.size w w0 := by rw [hw0]; exact (Below.refl _ _).alloc (Nat.le_refl _) _
  have BX := Lib.hid (show Boxed w0 w.heap.size (.int .u32 t.ver) vi vo (.int .u32 t.lock) from by rw [hw0]; exact Boxed.new _ _ _ _ _ _)
  have HT := Lib.hid (ht.keep (Kept.of_below hb0 (Nat.le_refl _)))
  have B0 := Lib.hid hb0
  have HW0 := Lib.hid hw0
  have HS := Lib.hid (hs.below hb0 hs.lta hs.ltb)
  have la := hs.lta
  have lb := hs.ltb
  obtain ⟨Ai, ci, rfl⟩ := ht.1.form
  have hlt : w.heap.size < w0.heap.size := by omega
  have hn := hok.1
  have CB := Lib.hid (fun W (hW : Below w0.heap.size w0 W) (k : Nat) (x : InD) (hx : t.ins[k]? = some x) => spentby_any a b l t k x h _ vo W (HS.out.below hW (by omega) (by omega)) ((HT.out.keep (Kept.of_below hW (by omega))).wide (Nat.le_refl 0) (show w.heap.size ≤ W.heap.size by have := hW.size; omega)) hok hx)
  have SB := Lib.hid (fun k => sumV_bd hs.good (t.ins.take k))
  have VB := Lib.hid (spV_bd hs.good)
  have FIN := Lib.hid (show sumV l (t.ins.take t.ins.length) = sumV l t.ins from by rw [List.take_length])
  obtain ⟨n, hne⟩ : ∃ n, t.ins.length = n := ⟨_, rfl⟩
  have HNE := Lib.hid hne
  rw [hne] at BX HW0 CB FIN hn ⊢
  clear hw0 ht hs hb0 hne
  go_enter Tryz.func87, Tryz.ntmps87
  go_upto_region 1 with (fail)
  rw [show World.alloc w _ = w0 from HW0.out.symm]
  obtain ⟨b0, b1, b2, b3⟩ := BX.out
  go_wp2_with fail
  clear b0 b1 b2 b3
  go_loopg [8, 9, 10, 11, 15] n (fun gg s8 _ _ _ s15 wr => ∃ k : Nat, k ≤ n ∧ n - k ≤ gg ∧ s15 = .int .i64 (k : Int) ∧ s8 = .int .i64 (sumV l (t.ins.take k)) ∧ Hid (OkTo l t h k) ∧ Hid (Below w0.heap.size w0 wr))
  case atStart => exact ⟨0, Nat.zero_le _, by omega, rfl, rfl, OkTo.zero _ _ _, Below.refl _ _⟩
  case round =>
    obtain ⟨k, hk, hg, rfl, rfl, HO, HB⟩ := hrel
    by_cases hlt2 : k < n
    · have hd : decide ((k : Int) < (n : Int)) = true := decide_eq_true (by omega)
      have hd2 : decide (k < n) = true := decide_eq_true hlt2
      obtain ⟨x, hx⟩ : ∃ x, t.ins[k]? = some x := ⟨_, List.getElem?_eq_getElem (by rw [HNE.out]; exact hlt2)⟩
      have CB1 := Lib.hid (CB.out wr HB.out k x hx)
      have HX := Lib.hid hx
      have sb := SB.out k
      have vb := VB.out x
      have hmn : ((t.ins.take k).length : Int) ≤ 512 := by simp; omega
      have sm : (sumV l (t.ins.take k)) ≤ 512 * 2100000000000000 := by omega
      have SS := Lib.hid (sumV_step (l := l) hx)
      obtain ⟨b0, b1, b2, b3⟩ := BX.out.below hlt HB.out
      clear hx hmn
      by_cases he : spE l t h x = 0
      · have A1 := Lib.hid (spA_ok he)
        rw [he, A1.out] at CB1
        have HE := Lib.hid he
        generalize sumV l (t.ins.take k) = sm0 at *
        generalize spV l x = vx at *
        have wr0 : IntKind.i64.wrap (sm0 + vx) = sm0 + vx := by rw [IntWalk.i64_in _ (by omega)]
        clear he A1
        go_wp2_with fail
        refine CB1.out.mono ?_
        rintro e w2 ⟨rfl, hb2⟩
        have L2 := Lib.hid (below_next HB.out HB.out.size hb2)
        go_wp2_with fail
        go_roundg (n - (k + 1))
        case measure => omega
        case rel => exact ⟨k + 1, by omega, by omega, by go_num, congrArg (Value.int .i64) SS.out.symm, Lib.hid (HO.out.step HX.out HE.out), L2⟩
      · have A1 := Lib.hid (spA_no he)
        rw [A1.out] at CB1
        have he' : (spE l t h x == 0) = false := by simp [he]
        have HE := Lib.hid he
        obtain ⟨c, hc⟩ : ∃ c, spE l t h x = c := ⟨_, rfl⟩
        rw [hc] at CB1 he'
        have HC := Lib.hid hc
        clear he A1 hc
        go_wp2_with fail
        refine CB1.out.mono ?_
        rintro e w2 ⟨rfl, hb2⟩
        have L2 := Lib.hid (below_next HB.out HB.out.size hb2)
        go_wp2_with fail
        go_ret2
        refine ⟨(below_next B0.out (by omega) L2.out).alloc (by have := L2.out.size; omega) _, .inr ⟨k, x, w2.heap.size, HX.out, HO.out, HE.out, rfl, by have := L2.out.size; omega, by simp, by simp, by rw [HC.out]; simp⟩⟩
    · have hd : decide ((k : Int) < (n : Int)) = false := decide_eq_false (by omega)
      have hd2 : decide (k < n) = false := decide_eq_false hlt2
      obtain rfl : k = n := by omega
      go_wp2_with fail
      go_ret2
      exact ⟨below_next B0.out (by omega) HB.out, .inl ⟨by rw [HNE.out]; exact HO.out, by rw [← FIN.out]; rfl⟩⟩

end Go.Proofs.YtnmfjnfdnjjngaaGreatDoor

namespace Go.Proofs.YtnmfjnfdnjjngaaGreatDoor
open Go.RowKit
set_option maxRecDepth 100000

theorem view_is (v : Value) (w : World) : (binOp .eql 178 (.iface 23 v) .nilIface).run Tryz.prog w = .ok (.bool false) w := by kernel_rfl
theorem view_nil (w : World) : (binOp .eql 178 .nilIface .nilIface).run Tryz.prog w = .ok (.bool true) w := by kernel_rfl
theorem neq_fault (v : Value) (w : World) : (binOp .neq 33 (.iface 92 v) .nilIface).run Tryz.prog w = .ok (.bool true) w := by kernel_rfl
theorem neq_num (v : Value) (w : World) : (binOp .neq 33 (.iface 38 v) .nilIface).run Tryz.prog w = .ok (.bool true) w := by kernel_rfl
theorem neq_none (w : World) : (binOp .neq 33 .nilIface .nilIface).run Tryz.prog w = .ok (.bool false) w := by kernel_rfl
theorem eql_fault (v : Value) (w : World) : (binOp .eql 33 (.iface 92 v) .nilIface).run Tryz.prog w = .ok (.bool false) w := by kernel_rfl
theorem eql_num (v : Value) (w : World) : (binOp .eql 33 (.iface 38 v) .nilIface).run Tryz.prog w = .ok (.bool false) w := by kernel_rfl
theorem eql_none (w : World) : (binOp .eql 33 .nilIface .nilIface).run Tryz.prog w = .ok (.bool true) w := by kernel_rfl

/-- What Fee gives. -/
def FeeEnd (A : Ans) (w : World) (e : Ending) (w' : World) : Prop :=
  ∃ v, e = .returned (.tuple #[.int .i64 A.fee, v]) ∧ ErrV w.heap.size w' v A.code A.at_ ∧ Below w.heap.size w w'

theorem fe_ret {A : Ans} {n c a : Int} (h : A = ⟨n, c, a⟩) (v : Value) : Ending.returned (.tuple #[.int .i64 n, v]) = .returned (.tuple #[.int .i64 A.fee, v]) := by rw [h]

set_option maxHeartbeats 1000000 in
/-- Fee of no view. -/
theorem fee_nil (t : TxD) (h : Int) (vi vo : Value) (w : World) :
    Calls Tryz.prog 59 #[.nilIface, .agg #[.int .u32 t.ver, vi, vo, .int .u32 t.lock], .int .i64 h] w (FeeEnd ⟨0, 1, -1⟩ w) := by
  have h1 := view_nil
  go_enter Tryz.func59, Tryz.ntmps59
  go_wp2_with fail
  go_ret2
  exact ⟨_, rfl, ErrV.num (by decide), (Below.refl _ _).alloc (Nat.le_refl _) _⟩

set_option maxHeartbeats 1000000 in
theorem fee_any (a b : Nat) (l : List Co.EnD) (t : TxD) (h : Int) (vi vo : Value) (w : World) (hs : Co.SetIs w a b l) (ht : TxAt w 0 w.heap.size vi vo t) (hok : t.Ok) :
    Calls Tryz.prog 59 #[.iface 23 (.pointer (some ⟨a, 0, none⟩)), .agg #[.int .u32 t.ver, vi, vo, .int .u32 t.lock], .int .i64 h] w (FeeEnd (feA l t h) w) := by
  obtain ⟨w0, hw0⟩ : ∃ w0, w0 = w.alloc (.cells #[.int .u32 t.ver, vi, vo, .int .u32 t.lock] 51) := ⟨_, rfl⟩
  have z0 : w0.heap.size = w.heap.size + 1 := by rw [hw0]; simp
  have hb0 : Below w.heap.size w w0 := by rw [hw0]; exact (Below.refl _ _).alloc (Nat.le_refl _) _
  have BX := Lib.hid (show Boxed w0 w.heap.size (.int .u32 t.ver) vi vo (.int .u32 t.lock) from by rw [hw0]; exact Boxed.new _ _ _ _ _ _)
  have HT := Lib.hid (ht.keep (Kept.of_below hb0 (Nat.le_refl _)))
  have B0 := Lib.hid hb0
  have HW0 := Lib.hid hw0
  have HS := Lib.hid (hs.below hb0 hs.lta hs.ltb)
  have la := hs.lta
  have lb := hs.ltb
  have hlt : w.heap.size < w0.heap.size := by omega
  have GT := Lib.hid (fun W (hW : Below w0.heap.size w0 W) => HT.out.keep (Kept.of_below hW (by omega : w.heap.size ≤ w0.heap.size)))
  have CC := Lib.hid (fun W (hW : Below w0.heap.size w0 W) => check_any t vi vo W 0 w.heap.size (GT.out W hW) (by have := hW.size; omega) hok)
  have CB := Lib.hid (fun W (hW : Below w0.heap.size w0 W) => base_any t vi vo W 0 w.heap.size (GT.out W hW).1 (by have := hW.size; omega))
  have CT := Lib.hid (fun W (hW : Below w0.heap.size w0 W) => total_any t vi vo W 0 w.heap.size (GT.out W hW).2 (by have := hW.size; omega) hok.2.1)
  have CS := Lib.hid (fun W (hW : Below w0.heap.size w0 W) => spt_any a b l t h vi vo W (HS.out.below hW (by omega) (by omega)) ((GT.out W hW).wide (Nat.le_refl 0) (by have := hW.size; omega)) hok)
  have SB := Lib.hid (sumV_bd hs.good t.ins)
  have hn := hok.1
  have E1 := Lib.hid (fe_check (l := l) (t := t) (h := h))
  have E2 := Lib.hid (fe_base (l := l) (t := t) (h := h))
  have E3 := Lib.hid (fun k x => fe_bad (l := l) (t := t) (h := h) (k := k) (x := x))
  have E4 := Lib.hid (fe_range (l := l) (t := t) (h := h))
  have E5 := Lib.hid (fe_value (l := l) (t := t) (h := h))
  have E6 := Lib.hid (fe_ok (l := l) (t := t) (h := h))
  have TD := Lib.hid (total_fits t.outs)
  clear hw0 ht hs hb0
  have hv := view_is
  have hf := neq_fault
  have hm := neq_num
  have hz := neq_none
  obtain ⟨A, hA⟩ : ∃ A, feA l t h = A := ⟨_, rfl⟩
  rw [hA] at E1 E2 E3 E4 E5 E6 ⊢
  clear hA
  obtain ⟨b0, b1, b2, b3⟩ := BX.out
  go_enter Tryz.func59, Tryz.ntmps59
  go_upto_region 1 with (fail)
  rw [show World.alloc w _ = w0 from HW0.out.symm]
  go_wp2_with fail
  refine (CC.out w0 (Below.refl _ _)).mono ?_
  rintro e w1 ⟨rfl, hb1⟩
  have L1 := Lib.hid hb1
  clear hb1 b0 b1 b2 b3 CC
  by_cases h1 : checkD t = 0
  · rw [h1]
    have H1 := Lib.hid h1
    clear h1
    obtain ⟨b0, b1, b2, b3⟩ := BX.out.below hlt L1.out
    go_wp2_with fail
    refine (CB.out w1 L1.out).mono ?_
    rintro e w2 ⟨rfl, hb2⟩
    have L2 := Lib.hid (below_next L1.out L1.out.size hb2)
    clear hb2 b0 b1 b2 b3 CB
    cases h2 : isBase t.ins with
    | true =>
      have F := Lib.hid (E2.out H1.out h2)
      have BA := Lib.hid (below_next B0.out (by omega) L2.out)
      go_wp2_with fail
      go_ret2
      exact ⟨_, fe_ret F.out _, by rw [F.out]; exact ErrV.num (by decide), BA.out⟩
    | false =>
      have H2 := Lib.hid h2
      clear h2
      obtain ⟨b0, b1, b2, b3⟩ := BX.out.below hlt L2.out
      go_wp2_with fail
      refine (CS.out w2 L2.out).mono ?_
      rintro e w3 ⟨hb3, hend⟩
      have L3 := Lib.hid (below_next L2.out L2.out.size hb3)
      have BA := Lib.hid (below_next B0.out (by omega) L3.out)
      have z2 := L2.out.size
      clear hb3 b0 b1 b2 b3 CS
      obtain ⟨b0, b1, b2, b3⟩ := BX.out.below hlt L3.out
      rcases hend with ⟨ho, rfl⟩ | ⟨k, x, g, hx, ho, he, rfl, hg1, hg2, d0, d1⟩
      · have HO := Lib.hid ho
        have sb := SB.out
        clear ho
        go_wp2_with fail
        refine (good_any (sumV l t.ins) w3).mono ?_
        rintro e w4 ⟨rfl, rfl⟩
        cases h3 : goodB (sumV l t.ins) with
        | false =>
          have F := Lib.hid (E4.out H1.out H2.out HO.out h3)
          go_wp2_with fail
          go_ret2
          exact ⟨_, fe_ret F.out _, by rw [F.out]; exact ErrV.num (by decide), BA.out⟩
        | true =>
          have H3 := Lib.hid h3
          clear h3
          go_wp2_with fail
          refine (CT.out w3 L3.out).mono ?_
          rintro e w5 ⟨rfl, hb5⟩
          have L5 := Lib.hid (below_next BA.out (by have := L3.out.size; omega) hb5)
          have td := TD.out
          clear hb5 b0 b1 b2 b3 CT
          have E5' := Lib.hid (E5.out H1.out H2.out HO.out H3.out)
          have E6' := Lib.hid (E6.out H1.out H2.out HO.out H3.out)
          clear E1 E2 E3 E4 E5 E6
          generalize sumV l t.ins = s at *
          generalize totalD t.outs = p at *
          obtain ⟨p1, p2⟩ := p
          simp only at E5' E6' td ⊢
          by_cases h4 : s < p1
          · have F := Lib.hid (E5'.out h4)
            go_wp2_with fail
            go_ret2
            exact ⟨_, fe_ret F.out _, by rw [F.out]; exact ErrV.num (by decide), L5.out⟩
          · have F := Lib.hid (E6'.out (by omega))
            have wr0 : IntKind.i64.wrap (s - p1) = s - p1 := by rw [IntWalk.i64_in _ (by omega)]
            go_wp2_with fail
            go_ret2
            exact ⟨_, fe_ret F.out _, by rw [F.out]; exact ErrV.zero, L5.out⟩
      · have F := Lib.hid (E3.out k x H1.out H2.out ho hx he)
        have D := Lib.hid (And.intro d0 d1)
        have HE := Lib.hid he
        clear ho hx he d0 d1
        go_wp2_with fail
        go_ret2
        refine ⟨_, fe_ret F.out _, ?_, BA.out⟩
        rw [F.out]
        exact .inr (.inr ⟨HE.out, Int.natCast_nonneg k, g, rfl, by omega, hg2, D.out.1, D.out.2⟩)
  · have F := Lib.hid (E1.out h1)
    have h1' : (checkD t == 0) = false := by simp [h1]
    have H1 := Lib.hid h1
    have BA := Lib.hid (below_next B0.out (by omega) L1.out)
    clear h1
    generalize checkD t = c at *
    go_wp2_with fail
    go_ret2
    exact ⟨_, fe_ret F.out _, by rw [F.out]; exact ErrV.num H1.out, BA.out⟩

end Go.Proofs.YtnmfjnfdnjjngaaGreatDoor
