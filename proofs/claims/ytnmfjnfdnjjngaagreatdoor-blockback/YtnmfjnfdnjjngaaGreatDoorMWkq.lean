/-
  A transaction's Outs put in, and one transaction of a block: the program's pay and apply.
  One transaction of a block: the program's apply.
  A block's transactions in memory; errors of a block.
  What the statements of layer 12 are given, as plain data, and how it lies in memory.
  Where the statement's Make stands: the transaction that it builds, in memory of the call's own; its texts.
-/
import Derived.Test.YtnmfjnfdnjjngaaGreatDoorMWkp
import Derived.Test.YtnmfjnfdnjjngaaGreatDoorMSpt
import Derived.Test.YtnmfjnfdnjjngaaGreatDoorMRfe
import Derived.Test.YtnmfjnfdnjjngaaGreatDoorMTell
import Derived.Laws.BytesArg
import Derived.Laws.OwnMore

namespace Go.Proofs.YtnmfjnfdnjjngaaGreatDoor
open Go.RowKit
set_option maxRecDepth 100000

set_option maxHeartbeats 4000000 in
theorem pay_any (g a b c : Nat) (h : Int) (l0 l : List Co.EnD) (A : List Co.PtD) (t : TxD) (lo hi : Nat) (vi vo : Value) (w : World) (k : Wk w g a b c h l0 l A) (ht : TxAt w lo hi vi vo t) (hhi : hi ≤ w.heap.size) (hok : t.Ok)
    (hof : ∀ i ∈ [a, b, c], i < lo ∨ hi ≤ i) (h3 : 0 ≤ h) (h4 : h ≤ 1000000) (hck : checkD t = 0) (hd : Dr w) :
    Calls Tryz.prog 58 #[.pointer (some ⟨g, 0, none⟩), .agg #[.int .u32 t.ver, vi, vo, .int .u32 t.lock]] w
      fun e w' => (∃ v, e = .returned v ∧ ErrV w.heap.size w' v (paysL (idD t) h t.outs 0 l).2 (-1)) ∧ (∃ A', Wk w' g a b c h l0 (paysL (idD t) h t.outs 0 l).1 A') ∧ Tn [a, b, c] w w' := by
  obtain ⟨A1, m1, rfl⟩ := ht.2.form
  obtain ⟨w0, hw0⟩ : ∃ w0, w0 = w.alloc (.cells #[.int .u32 t.ver, vi, .slice A1 t.outs.length m1, .int .u32 t.lock] 51) := ⟨_, rfl⟩
  have z0 : w0.heap.size = w.heap.size + 1 := by rw [hw0]; simp
  have hb0 : Below w.heap.size w w0 := by rw [hw0]; exact (Below.refl _ _).alloc (Nat.le_refl _) _
  have BX := Lib.hid (show Boxed w0 w.heap.size (.int .u32 t.ver) vi (.slice A1 t.outs.length m1) (.int .u32 t.lock) from by rw [hw0]; exact Boxed.new _ _ _ _ _ _)
  have K0 := Lib.hid (k.below hb0 (Nat.le_refl _))
  have TX := Lib.hid (fun V (hV : Tn [a, b, c] w0 V) => (ht.2.keep (Kept.of_below hb0 hhi)).keep (hV.kept hof (by omega)))
  have CI := Lib.hid (ident_any t _ _ w0 ((ht.keep (Kept.of_below hb0 hhi)).wide (Nat.zero_le _) (by omega)) hok (hd.below hb0).tab)
  rw [hck, idS_ok hck] at CI
  have OK := Lib.hid hok
  have HW0 := Lib.hid hw0
  have B0 := Lib.hid hb0
  have Z0 := Lib.hid z0
  have HH := Lib.hid hhi
  have H34 := Lib.hid (And.intro h3 h4)
  have hn := hok.2.1
  have hsz := idD_size t
  obtain ⟨id, hid'⟩ : ∃ id, idD t = id := ⟨_, rfl⟩
  rw [hid'] at CI hsz ⊢
  have HSZ := Lib.hid hsz
  obtain ⟨n, hne⟩ : ∃ n, t.outs.length = n := ⟨_, rfl⟩
  have HNE := Lib.hid hne
  rw [hne] at BX HW0 hn TX CI ⊢
  obtain ⟨P, hP⟩ : ∃ P, paysL id h t.outs 0 l = P := ⟨_, rfl⟩
  rw [hP]
  have HP := Lib.hid hP
  clear hne k ht hw0 hb0 hhi hok hof z0 hd hck h3 h4 hsz hid' hP
  obtain ⟨b0, b1, b2, b3⟩ := BX.out
  go_enter Tryz.func58, Tryz.ntmps58
  go_upto_region 1 with (fail)
  rw [show World.alloc w _ = w0 from HW0.out.symm]
  go_wp2_with fail
  refine CI.out.mono ?_
  rintro e w1 ⟨rfl, hb1⟩
  have B1 := Lib.hid hb1
  have K1 := Lib.hid (K0.out.below hb1 (Nat.le_refl _))
  have BX1 := Lib.hid (BX.out.below (by have := Z0.out; omega) hb1)
  clear b0 b1 b2 b3 hb1 CI
  obtain ⟨b0, b1, b2, b3⟩ := BX1.out
  go_wp2_with fail
  clear b0 b1 b2 b3
  go_loopg [19] n (fun gg s19 wr => ∃ (k : Nat) (m : List Co.EnD) (A' : List Co.PtD), k ≤ n ∧ n - k ≤ gg ∧ s19 = .int .i64 (k : Int) ∧ Hid (Wk wr g a b c h l0 m A') ∧ Hid (Tn [a, b, c] w0 wr) ∧ Hid (paysL id h (t.outs.drop k) k m = P))
  case atStart => exact ⟨0, l, A, Nat.zero_le _, by omega, rfl, K1, Lib.hid (Tn.of_below B1.out), by rw [List.drop_zero]; exact HP⟩
  case round =>
    obtain ⟨k, m, A', hk, hgk, rfl, HK, HT, HPK⟩ := hrel
    by_cases hlt : k < n
    · have j1 : (k : Int) < (n : Int) := by omega
      have j2 : decide (k < n) = true := decide_eq_true hlt
      have j3 : ¬ (k : Int) < 0 := by omega
      have v1 : IntKind.u32.wrap (k : Int) = k := by rw [IntWalk.u32_in _ (by omega)]
      obtain ⟨x, hx⟩ : ∃ x, t.outs[k]? = some x := ⟨_, List.getElem?_eq_getElem (by rw [HNE.out]; exact hlt)⟩
      obtain ⟨bi, oi, rfl, g1, g2, c0, c1⟩ := (TX.out wr HT.out).at hx
      have XOK := Lib.hid (outE_ok (h := h) (i := k) HSZ.out (by omega) (OK.out.2.2.2.1 x (List.mem_of_getElem? hx)) H34.out.1 H34.out.2)
      have PG := Lib.hid (pays_go (id := id) (h := h) (l := m) hx)
      have PS := Lib.hid (pays_stop (id := id) (h := h) (l := m) hx)
      have hbw : bi < wr.heap.size := by have := HT.out.size; have := Z0.out; have := HH.out; omega
      obtain ⟨xv, xs⟩ := x
      simp only at c0 c1
      obtain ⟨w8, hw8⟩ : ∃ w8, w8 = (wr.alloc (.cells #[.int .i64 xv, .string xs] 62)).alloc (.cells #[.string id, .int .u32 (k : Int)] 60) := ⟨_, rfl⟩
      have hb8 : Below wr.heap.size wr w8 := by rw [hw8]; exact ((Below.refl _ _).alloc (Nat.le_refl _) _).alloc (by simp) _
      have z8 : w8.heap.size = wr.heap.size + 2 := by rw [hw8]; simp
      have hh6 : w8.heap[wr.heap.size]? = some (.cells #[.int .i64 xv, .string xs] 62 (0, 0)) := by rw [hw8, Below.heap_alloc _ _ _ (by simp)]; exact heap_alloc_new _ _
      have hh7 : w8.heap[wr.heap.size + 1]? = some (.cells #[.string id, .int .u32 (k : Int)] 60 (0, 0)) := by
        rw [hw8, show wr.heap.size + 1 = (wr.alloc (.cells #[.int .i64 xv, .string xs] 62)).heap.size from by simp]; exact heap_alloc_new _ _
      have K8 := Lib.hid (HK.out.below hb8 (Nat.le_refl _))
      have HW8 := Lib.hid hw8
      have B8 := Lib.hid hb8
      have PT := Lib.hid (show Co.PtOk id (k : Int) from ⟨by have := HSZ.out; omega, by omega, by omega⟩)
      have CK := Lib.hid (keep_any g a b c h l0 m A' id (k : Int) w8 K8.out PT.out)
      have y0 : w8.cell? ⟨wr.heap.size + 1, 0, none⟩ = some (.string id) := Co.cell_in hh7 rfl
      have y1 : w8.cell? ⟨wr.heap.size + 1, 1, none⟩ = some (.int .u32 (k : Int)) := Co.cell_in hh7 rfl
      have HHs := Lib.hid (And.intro hh6 hh7)
      clear hw8 hb8 hx hh6 hh7
      go_upto_region 6 with (fail)
      rw [show World.alloc (World.alloc wr _) _ = w8 from HW8.out.symm]
      clear c0 c1
      go_wp2_with fail
      refine CK.out.mono ?_
      rintro e w9 ⟨rfl, hk9, ht9⟩
      have K9 := Lib.hid hk9
      have T9 := Lib.hid ((HT.out.next B8.out).trans (ht9.mono (by simp)))
      have n8 : wr.heap.size ∉ [c] := by have := HK.out.map.lt; simp; omega
      have n9 : wr.heap.size + 1 ∉ [c] := by have := HK.out.map.lt; simp; omega
      have q6 := (ht9.block wr.heap.size (by omega) n8).trans HHs.out.1
      have q7 := (ht9.block (wr.heap.size + 1) (by omega) n9).trans HHs.out.2
      have x0 : w9.cell? ⟨wr.heap.size, 0, none⟩ = some (.int .i64 xv) := Co.cell_in q6 rfl
      have x1 : w9.cell? ⟨wr.heap.size, 1, none⟩ = some (.string xs) := Co.cell_in q6 rfl
      have x2 : w9.cell? ⟨wr.heap.size + 1, 0, none⟩ = some (.string id) := Co.cell_in q7 rfl
      have x3 : w9.cell? ⟨wr.heap.size + 1, 1, none⟩ = some (.int .u32 (k : Int)) := Co.cell_in q7 rfl
      have d0 := hk9.c0
      have d1 := hk9.c1
      clear hk9 ht9 y0 y1 CK q6 q7
      go_upto_region 7 with (fail)
      go_still_tail 11, (by kernel_rfl)
      change wpList _ _ _ _ _ w9.drew
      obtain ⟨wa, hwa⟩ : ∃ wa, w9.drew = wa := ⟨_, rfl⟩
      have hba : Below w9.heap.size w9 wa := by rw [← hwa]; exact (Below.refl _ _).drew
      rw [hwa]
      have KA := Lib.hid (K9.out.below hba (Nat.le_refl _))
      have TA := Lib.hid (T9.out.next hba)
      have CP := Lib.hid (show Calls Tryz.prog 28 #[.pointer (some ⟨a, 0, none⟩), .agg #[.string id, .int .u32 (k : Int)], .agg #[.int .i64 xv, .string xs, .int .i64 h]] wa _ from Co.put_any a b m (outE id h k ⟨xv, xs⟩) wa KA.out.set XOK.out)
      clear x0 x1 x2 x3 d0 d1 hba hwa
      obtain ⟨pe, hpe⟩ : ∃ pe, Co.putE m (outE id h k ⟨xv, xs⟩) = pe := ⟨_, rfl⟩
      rw [hpe] at CP PG PS
      have HPE := Lib.hid hpe
      clear hpe
      go_wp2_with fail
      refine CP.out.mono ?_
      rintro e wb ⟨rfl, hsb, hbb⟩
      have KB := Lib.hid (KA.out.turn hsb hbb (KA.out.kep.put (Co.keep_has A' id (k : Int))))
      have TB := Lib.hid (TA.out.trans ((Tn.of_but2 hbb).mono (by simp)))
      clear hsb hbb CP
      by_cases hz : pe = 0
      · have G := Lib.hid (PG.out hz)
        subst hz
        go_wp2_with fail
        go_roundg (n - (k + 1))
        case measure => omega
        case rel => exact ⟨k + 1, _, _, by omega, by omega, by go_num, KB, TB, Lib.hid (G.out.symm.trans HPK.out)⟩
      · have G := Lib.hid ((PS.out hz).symm.trans HPK.out)
        have e1 : (pe != 0) = true := by simp [hz]
        have HZ := Lib.hid hz
        have KC := Lib.hid (show Wk wb g a b c h l0 m _ from by
          have := KB.out
          unfold Co.putL at this
          rw [if_neg (by rw [HPE.out]; exact hz)] at this
          exact this)
        clear hz
        go_wp2_with fail
        go_ret
        refine ⟨⟨_, rfl, ?_⟩, ?_, (Tn.of_below B0.out).trans TB.out⟩
        · rw [← G.out]
          exact ErrV.num HZ.out
        · rw [← G.out]
          exact ⟨_, KC.out⟩
    · have k2' : decide (k < n) = false := decide_eq_false hlt
      have k3' : decide ((k : Int) < (n : Int)) = false := decide_eq_false (by omega)
      obtain rfl : k = n := by omega
      have G := Lib.hid ((pays_end (id := id) (h := h) (l := m) (xs := t.outs) (k := k) (by rw [HNE.out]; exact Nat.le_refl _)).symm.trans HPK.out)
      go_wp2_with fail
      go_ret
      refine ⟨⟨_, rfl, ?_⟩, ?_, (Tn.of_below B0.out).trans HT.out⟩
      · rw [← G.out]
        exact ErrV.zero
      · rw [← G.out]
        exact ⟨_, HK.out⟩

end Go.Proofs.YtnmfjnfdnjjngaaGreatDoor

namespace Go.Proofs.YtnmfjnfdnjjngaaGreatDoor
open Go.RowKit
set_option maxRecDepth 100000

theorem ErrV.low {lo lo' : Nat} {w : World} {v : Value} {c a : Int} (h : ErrV lo w v c a) (hl : lo' ≤ lo) : ErrV lo' w v c a := by
  rcases h with h | h | ⟨h1, h2, b, rfl, h6, r⟩
  · exact .inl h
  · exact .inr (.inl h)
  · exact .inr (.inr ⟨h1, h2, b, rfl, by omega, r⟩)
theorem neq_errV {T : TypeId} (hT : T = 38 ∨ T = 92) (x : Value) (w : World) : (binOp .neq 33 (.iface T x) .nilIface).run Tryz.prog w = .ok (.bool true) w := by
  rcases hT with rfl | rfl
  · exact neq_num x w
  · exact neq_fault x w

set_option maxHeartbeats 4000000 in
theorem apply_any (g a b c : Nat) (h : Int) (l0 l : List Co.EnD) (A : List Co.PtD) (t : TxD) (first : Bool) (lo hi : Nat) (vi vo : Value) (w : World) (k : Wk w g a b c h l0 l A) (ht : TxAt w lo hi vi vo t) (hhi : hi ≤ w.heap.size) (hok : t.Ok)
    (hof : ∀ i ∈ [a, b, c], i < lo ∨ hi ≤ i) (h3 : 0 ≤ h) (h4 : h ≤ 1000000) (hd : Dr w) (hdo : ∀ i ∈ [a, b, c], 3 ≤ i) :
    Calls Tryz.prog 33 #[.pointer (some ⟨g, 0, none⟩), .agg #[.int .u32 t.ver, vi, vo, .int .u32 t.lock], .bool first] w
      fun e w' => (∃ v, e = .returned v ∧ ErrV w.heap.size w' v (oneA l t first h).code (oneA l t first h).inn) ∧ (∃ A', Wk w' g a b c h l0 (oneA l t first h).l A') ∧ Tn [a, b, c] w w' := by
  obtain ⟨A1, m1, rfl⟩ := ht.1.form
  obtain ⟨A2, m2, rfl⟩ := ht.2.form
  obtain ⟨w0, hw0⟩ : ∃ w0, w0 = w.alloc (.cells #[.int .u32 t.ver, .slice A1 t.ins.length m1, .slice A2 t.outs.length m2, .int .u32 t.lock] 51) := ⟨_, rfl⟩
  have z0 : w0.heap.size = w.heap.size + 1 := by rw [hw0]; simp
  have hb0 : Below w.heap.size w w0 := by rw [hw0]; exact (Below.refl _ _).alloc (Nat.le_refl _) _
  have la := k.set.lta
  have lb := k.set.ltb
  have lc := k.map.lt
  have BX := Lib.hid (show ∀ V, Tn [a, b, c] w0 V → Boxed V w.heap.size (.int .u32 t.ver) (.slice A1 t.ins.length m1) (.slice A2 t.outs.length m2) (.int .u32 t.lock) from fun V hV => by
    obtain ⟨q0, q1, q2, q3⟩ : Boxed w0 w.heap.size (.int .u32 t.ver) (.slice A1 t.ins.length m1) (.slice A2 t.outs.length m2) (.int .u32 t.lock) := by rw [hw0]; exact Boxed.new _ _ _ _ _ _
    have hn : w.heap.size ∉ [a, b, c] := by simp; omega
    exact ⟨(hV.cell (by omega) hn).trans q0, (hV.cell (by omega) hn).trans q1, (hV.cell (by omega) hn).trans q2, (hV.cell (by omega) hn).trans q3⟩)
  have K0 := Lib.hid (k.below hb0 (Nat.le_refl _))
  have TX := Lib.hid (show ∀ V, Tn [a, b, c] w0 V → TxAt V lo hi (.slice A1 t.ins.length m1) (.slice A2 t.outs.length m2) t from fun V hV => (ht.keep (Kept.of_below hb0 hhi)).keep (hV.kept hof (by omega)))
  have OK := Lib.hid hok
  have HW0 := Lib.hid hw0
  have B0 := Lib.hid hb0
  have Z0 := Lib.hid z0
  have HH := Lib.hid hhi
  have HO := Lib.hid hof
  have H34 := Lib.hid (And.intro h3 h4)
  have DR := Lib.hid (show ∀ V, Tn [a, b, c] w0 V → Dr V from fun V hV => (hd.below hb0).tn hV hdo)
  have CB := Lib.hid (base_any t (.slice A1 t.ins.length m1) (.slice A2 t.outs.length m2) w0 lo hi (TX.out w0 (Tn.refl _ _)).1 (by omega))
  have GN := Lib.hid (one_grant_no (l := l) (t := t) (first := first) (h := h))
  have GY := Lib.hid (one_grant (l := l) (t := t) (first := first) (h := h))
  have FN := Lib.hid (one_fee_no (l := l) (t := t) (first := first) (h := h))
  have FY := Lib.hid (one_fee (l := l) (t := t) (first := first) (h := h))
  obtain ⟨O, hO⟩ : ∃ O, oneA l t first h = O := ⟨_, rfl⟩
  rw [hO] at GN GY FN FY ⊢
  obtain ⟨n1, hn1⟩ : ∃ n, t.ins.length = n := ⟨_, rfl⟩
  obtain ⟨n2, hn2⟩ : ∃ n, t.outs.length = n := ⟨_, rfl⟩
  obtain ⟨bs, hbs⟩ : ∃ x, isBase t.ins = x := ⟨_, rfl⟩
  rw [hbs] at CB GN GY FN FY
  have CG := Lib.hid (fun (V : World) (hV : Tn [a, b, c] w0 V) (hc : V.cell? ⟨g, 1, none⟩ = some (.int .i64 h)) => granterr_any g t first h _ _ V hc ((TX.out V hV).wide (Nat.zero_le _) (show hi ≤ V.heap.size by have := hV.size; omega)) OK.out)
  have CP := Lib.hid (fun (V : World) (m : List Co.EnD) (A' : List Co.PtD) (hk : Wk V g a b c h l0 m A') (hV : Tn [a, b, c] w0 V) (hck : checkD t = 0) => pay_any g a b c h l0 m A' t lo hi _ _ V hk (TX.out V hV) (show hi ≤ V.heap.size by have := hV.size; omega) OK.out HO.out H34.out.1 H34.out.2 hck (DR.out V hV))
  have CS := Lib.hid (fun (V : World) (m : List Co.EnD) (A' : List Co.PtD) (hk : Wk V g a b c h l0 m A') (hV : Tn [a, b, c] w0 V) => spend_any g a b c h l0 m A' t lo hi _ _ V hk (TX.out V hV) (show hi ≤ V.heap.size by have := hV.size; omega) OK.out HO.out)
  have CF := Lib.hid (fun (V : World) (m : List Co.EnD) (A' : List Co.PtD) (hk : Wk V g a b c h l0 m A') (hV : Tn [a, b, c] w0 V) => fee_any a b m t h _ _ V hk.set ((TX.out V hV).wide (Nat.zero_le _) (show hi ≤ V.heap.size by have := hV.size; omega)) OK.out)
  rw [hn1, hn2] at BX HW0 CB CG CP CS CF
  rw [hn1] at FY
  rw [hn1, hn2]
  clear hn1 hn2 TX hO k ht hw0 hb0 hhi hok hof z0 hd h3 h4 hdo
  obtain ⟨b0, b1, b2, b3⟩ := BX.out w0 (Tn.refl _ _)
  go_enter Tryz.func33, Tryz.ntmps33
  go_upto_region 1 with (fail)
  rw [show World.alloc w _ = w0 from HW0.out.symm]
  go_wp2_with fail
  refine CB.out.mono ?_
  rintro e w1 ⟨rfl, hb1⟩
  have T1 := Lib.hid (Tn.of_below (s := [a, b, c]) hb1)
  have K1 := Lib.hid (K0.out.below hb1 (Nat.le_refl _))
  clear b0 b1 b2 b3 hb1 CB
  obtain ⟨b0, b1, b2, b3⟩ := BX.out w1 T1.out
  cases bs with
  | true =>
    have CG1 := Lib.hid (CG.out w1 T1.out K1.out.c1)
    obtain ⟨gr, hgr⟩ : ∃ x, grE t first h = x := ⟨_, rfl⟩
    rw [hgr] at CG1 GN GY
    have HGR := Lib.hid hgr
    clear hgr CG FN FY CF CS
    go_wp2_with fail
    refine CG1.out.mono ?_
    rintro e w2 ⟨rfl, hb2⟩
    have T2 := Lib.hid (T1.out.next hb2)
    have K2 := Lib.hid (K1.out.below hb2 (Nat.le_refl _))
    clear b0 b1 b2 b3 hb2 CG1
    by_cases hz : gr = 0
    · have E := Lib.hid (GY.out (by trivial) hz)
      subst hz
      have CP2 := Lib.hid (CP.out w2 l A K2.out T2.out (gr_zero HGR.out))
      clear GN GY CP
      obtain ⟨b0, b1, b2, b3⟩ := BX.out w2 T2.out
      go_wp2_with fail
      refine CP2.out.mono ?_
      rintro e w3 ⟨⟨v, rfl, he⟩, ⟨A', hk⟩, ht3⟩
      have EE := Lib.hid (And.intro he (And.intro hk ht3))
      clear b0 b1 b2 b3 he hk ht3 CP2
      go_wp2_with fail
      go_ret
      obtain ⟨he, hk, ht3⟩ := EE.out
      rw [E.out]
      exact ⟨⟨_, rfl, he.low (by have := T2.out.size; have := Z0.out; omega)⟩, ⟨A', hk⟩, (Tn.of_below B0.out).trans (T2.out.trans ht3)⟩
    · have E := Lib.hid (GN.out (by trivial) hz)
      have e1 : (gr != 0) = true := by simp [hz]
      have HZ := Lib.hid hz
      clear hz GN GY CP
      go_wp2_with fail
      go_ret
      rw [E.out]
      exact ⟨⟨_, rfl, ErrV.num HZ.out⟩, ⟨A, K2.out⟩, (Tn.of_below B0.out).trans T2.out⟩
  | false =>
    have c0 := K1.out.c0
    have c1 := K1.out.c1
    have CF1 := Lib.hid (fun W (hW : Below w1.heap.size w1 W) => CF.out W l A (K1.out.below hW (Nat.le_refl _)) (T1.out.next hW))
    obtain ⟨F, hF⟩ : ∃ F, feA l t h = F := ⟨_, rfl⟩
    rw [hF] at CF1 FN FY
    have HF := Lib.hid hF
    have lg : g < w1.heap.size := K1.out.ltg
    have lx : w.heap.size < w1.heap.size := by have := T1.out.size; have := Z0.out; omega
    clear CF CG GN GY hF
    go_upto_region 6 with (fail)
    go_region_held3 (fun w' => w'.cell? ⟨g, 0, none⟩ = some (.pointer (some ⟨a, 0, none⟩)) ∧ w'.cell? ⟨g, 1, none⟩ = some (.int .i64 h) ∧ w'.cell? ⟨w.heap.size, 0, none⟩ = some (.int .u32 t.ver) ∧ w'.cell? ⟨w.heap.size, 1, none⟩ = some (.slice A1 n1 m1) ∧ w'.cell? ⟨w.heap.size, 2, none⟩ = some (.slice A2 n2 m2) ∧ w'.cell? ⟨w.heap.size, 3, none⟩ = some (.int .u32 t.lock))
      (go_keep)
      (first | (go_at_call 59; refine (CF1.out _ (by repeat (first | exact Below.refl _ _ | refine Below.drew ?_))).mono ?_; rintro e w2 ⟨ve, rfl, he, hb2⟩; have f0 := hb2.cell (p := ⟨g, 0, none⟩) lg; have f1 := hb2.cell (p := ⟨g, 1, none⟩) lg; have f2 := hb2.cell (p := ⟨w.heap.size, 0, none⟩) lx; have f3 := hb2.cell (p := ⟨w.heap.size, 1, none⟩) lx; have f4 := hb2.cell (p := ⟨w.heap.size, 2, none⟩) lx; have f5 := hb2.cell (p := ⟨w.heap.size, 3, none⟩) lx))
    have hb2' : Below w1.heap.size w1 w2 := (Below.refl _ _).drew.trans hb2
    have T2 := Lib.hid (T1.out.next hb2')
    have K2 := Lib.hid (K1.out.below hb2' (Nat.le_refl _))
    have EV := Lib.hid (show ErrV w1.heap.size w2 ve F.code F.at_ from he)
    clear hb2 hb2' he CF1 b0 b1 b2 b3 c0 c1 f0 f1 f2 f3 f4 f5
    by_cases hz : F.code = 0
    · have E := Lib.hid (FY.out (by trivial) hz)
      have CK := Lib.hid (fe_has (l := l) (t := t) (h := h) (by rw [HF.out]; exact hz)).1
      obtain rfl : ve = .nilIface := by have h := EV.out; rw [hz] at h; exact h.none
      have hnn := neq_none
      have CS2 := Lib.hid (CS.out w2 l A K2.out T2.out)
      obtain ⟨b0, b1, b2, b3⟩ := BX.out w2 T2.out
      clear FN FY hz EV CS
      go_wp2_with fail
      refine CS2.out.mono ?_
      rintro e w3 ⟨rfl, ⟨A3, hk3⟩, ht3⟩
      have T3 := Lib.hid (T2.out.trans ht3)
      have CP3 := Lib.hid (CP.out w3 _ A3 hk3 T3.out CK.out)
      clear b0 b1 b2 b3 hk3 ht3 CP CS2
      obtain ⟨b0, b1, b2, b3⟩ := BX.out w3 T3.out
      go_wp2_with fail
      refine CP3.out.mono ?_
      rintro e w4 ⟨⟨v, rfl, he⟩, ⟨A', hk⟩, ht4⟩
      have EE := Lib.hid (And.intro he (And.intro hk ht4))
      clear b0 b1 b2 b3 he hk ht4 CP3
      go_wp2_with fail
      go_ret
      obtain ⟨he, hk, ht4⟩ := EE.out
      rw [E.out]
      exact ⟨⟨_, rfl, he.low (by have := T3.out.size; have := Z0.out; omega)⟩, ⟨A', hk⟩, (Tn.of_below B0.out).trans (T3.out.trans ht4)⟩
    · have E := Lib.hid (FN.out (by trivial) hz)
      obtain ⟨T, xv, rfl, hT⟩ := EV.out.fault hz
      have hne := neq_errV hT
      clear hz FN FY CS CP
      go_wp2_with fail
      go_ret
      rw [E.out]
      exact ⟨⟨_, rfl, EV.out.low (by have := T1.out.size; have := Z0.out; omega)⟩, ⟨A, K2.out⟩, (Tn.of_below B0.out).trans T2.out⟩

end Go.Proofs.YtnmfjnfdnjjngaaGreatDoor

namespace Go.Proofs.YtnmfjnfdnjjngaaGreatDoor
open Go.RowKit
set_option maxRecDepth 100000

/-- The xs lie in the slice v, each of sz cells. -/
def Lst {α : Type} (At : World → Nat → Nat → α → Prop) (sz : Nat) (w : World) (lo hi : Nat) (v : Value) (xs : List α) : Prop :=
  ∃ (A : Option Addr) (c : Nat), v = .slice A xs.length c ∧ xs.length ≤ c ∧ (xs = [] ∨ ∃ b off, A = some ⟨b, off, none⟩ ∧ lo ≤ b ∧ b < hi ∧ ∀ k x, xs[k]? = some x → At w b (off + k * sz) x)
theorem Lst.keep {α : Type} {At : World → Nat → Nat → α → Prop} {sz : Nat} {w w' : World} {lo hi : Nat} {v : Value} {xs : List α} (h : Lst At sz w lo hi v xs) (hk : ∀ b o x, lo ≤ b → b < hi → At w b o x → At w' b o x) : Lst At sz w' lo hi v xs := by
  obtain ⟨A, c, rfl, hc, h⟩ := h
  refine ⟨A, c, rfl, hc, ?_⟩
  rcases h with h | ⟨b, off, rfl, h1, h2, h⟩
  · exact .inl h
  · exact .inr ⟨b, off, rfl, h1, h2, fun k s hs => hk _ _ _ h1 h2 (h k s hs)⟩
theorem Lst.form {α : Type} {At : World → Nat → Nat → α → Prop} {sz : Nat} {w : World} {lo hi : Nat} {v : Value} {xs : List α} (h : Lst At sz w lo hi v xs) : ∃ A c, v = .slice A xs.length c := by
  obtain ⟨A, c, rfl, _⟩ := h
  exact ⟨A, c, rfl⟩
theorem Lst.at {α : Type} {At : World → Nat → Nat → α → Prop} {sz : Nat} {w : World} {lo hi : Nat} {A : Option Addr} {n c : Nat} {xs : List α} (h : Lst At sz w lo hi (.slice A n c) xs) {k : Nat} {x : α} (hx : xs[k]? = some x) :
    ∃ b off, A = some ⟨b, off, none⟩ ∧ lo ≤ b ∧ b < hi ∧ At w b (off + k * sz) x := by
  obtain ⟨A', c', hv, hc, h⟩ := h
  injection hv with hA
  subst hA
  rcases h with rfl | ⟨b, off, rfl, h1, h2, h⟩
  · simp at hx
  · exact ⟨b, off, rfl, h1, h2, h k x hx⟩
theorem Lst.take {α : Type} {At : World → Nat → Nat → α → Prop} {sz : Nat} {w : World} {lo hi : Nat} {A : Option Addr} {n c : Nat} {xs : List α} (h : Lst At sz w lo hi (.slice A n c) xs) {p : Nat} (hp : p ≤ xs.length) : Lst At sz w lo hi (.slice A p c) (xs.take p) := by
  obtain ⟨A', c', hv, hc, h⟩ := h
  injection hv with e1 _ e3
  subst e1 e3
  refine ⟨A, c, by rw [List.length_take, Nat.min_eq_left hp], by rw [List.length_take]; omega, ?_⟩
  rcases h with rfl | ⟨b, off, rfl, h1, h2, h⟩
  · exact .inl (by simp)
  · refine .inr ⟨b, off, rfl, h1, h2, fun k x hx => h k x ?_⟩
    rw [List.getElem?_take] at hx
    split at hx
    · exact hx
    · cases hx
theorem Lst.cap {α : Type} {At : World → Nat → Nat → α → Prop} {sz : Nat} {w : World} {lo hi : Nat} {A : Option Addr} {n c : Nat} {xs : List α} (h : Lst At sz w lo hi (.slice A n c) xs) : xs.length ≤ c := by
  obtain ⟨A', c', hv, hc, h⟩ := h
  injection hv with _ _ e3
  subst e3
  exact hc
theorem Lst.wide {α : Type} {At At' : World → Nat → Nat → α → Prop} {sz : Nat} {w : World} {lo hi lo' hi' : Nat} {v : Value} {xs : List α} (h : Lst At sz w lo hi v xs) (ha : ∀ b o x, At w b o x → At' w b o x) (hl : lo' ≤ lo) (hh : hi ≤ hi') : Lst At' sz w lo' hi' v xs := by
  obtain ⟨A, c, rfl, hc, h⟩ := h
  refine ⟨A, c, rfl, hc, ?_⟩
  rcases h with h | ⟨b, off, rfl, h1, h2, h⟩
  · exact .inl h
  · exact .inr ⟨b, off, rfl, by omega, by omega, fun k s hs => ha _ _ _ (h k s hs)⟩
theorem Lst.nil {α : Type} {At : World → Nat → Nat → α → Prop} {sz : Nat} {w : World} {lo hi : Nat} : Lst At sz w lo hi (.slice none 0 0) [] := ⟨none, 0, rfl, Nat.le_refl _, .inl rfl⟩

/-- The four cells of a transaction. -/
def TxC (lo hi : Nat) (w : World) (b o : Nat) (t : TxD) : Prop :=
  w.cell? ⟨b, o, none⟩ = some (.int .u32 t.ver) ∧ (∃ vi vo, w.cell? ⟨b, o + 1, none⟩ = some vi ∧ w.cell? ⟨b, o + 2, none⟩ = some vo ∧ TxAt w lo hi vi vo t) ∧ w.cell? ⟨b, o + 3, none⟩ = some (.int .u32 t.lock)
theorem TxC.keep {lo hi : Nat} {w w' : World} {b o : Nat} {t : TxD} (h : TxC lo hi w b o t) (h1 : lo ≤ b) (h2 : b < hi) (hk : Kept lo hi w w') : TxC lo hi w' b o t := by
  obtain ⟨c0, ⟨vi, vo, c1, c2, ht⟩, c3⟩ := h
  exact ⟨(hk.cell h1 h2).trans c0, ⟨vi, vo, (hk.cell h1 h2).trans c1, (hk.cell h1 h2).trans c2, ht.keep hk⟩, (hk.cell h1 h2).trans c3⟩
/-- Transactions in a slice. -/
def Txs (w : World) (lo hi : Nat) (v : Value) (ts : List TxD) : Prop := Lst (TxC lo hi) 4 w lo hi v ts
theorem Txs.keep {w w' : World} {lo hi : Nat} {v : Value} {ts : List TxD} (h : Txs w lo hi v ts) (hk : Kept lo hi w w') : Txs w' lo hi v ts := Lst.keep h fun _ _ _ h1 h2 hx => hx.keep h1 h2 hk
theorem Txs.wide {w : World} {lo hi lo' hi' : Nat} {v : Value} {ts : List TxD} (h : Txs w lo hi v ts) (h1 : lo' ≤ lo) (h2 : hi ≤ hi') : Txs w lo' hi' v ts :=
  Lst.wide h (fun _ _ _ ⟨c0, ⟨vi, vo, c1, c2, ht⟩, c3⟩ => ⟨c0, ⟨vi, vo, c1, c2, ht.wide h1 h2⟩, c3⟩) h1 h2

/-- An error of a block: its number, the places of the transaction and of the In. -/
def ErrW (lo : Nat) (w : World) (v : Value) (c a n : Int) : Prop :=
  (c = 0 ∧ a = -1 ∧ n = -1 ∧ v = .nilIface) ∨ (c ≠ 0 ∧ a = -1 ∧ n = -1 ∧ v = .iface 38 (.int .i64 c)) ∨
    (c ≠ 0 ∧ 0 ≤ a ∧ ∃ (b : Nat) (ve : Value), v = .iface 92 (.pointer (some ⟨b, 0, none⟩)) ∧ lo ≤ b ∧ b < w.heap.size ∧ w.cell? ⟨b, 0, none⟩ = some (.int .i64 a) ∧ w.cell? ⟨b, 1, none⟩ = some ve ∧ ErrV lo w ve c n)
theorem ErrW.keep {lo : Nat} {w w' : World} {v : Value} {c a n : Int} (h : ErrW lo w v c a n) (hs : w.heap.size ≤ w'.heap.size) (hk : ∀ b, lo ≤ b → b < w.heap.size → w'.heap[b]? = w.heap[b]?) : ErrW lo w' v c a n := by
  rcases h with h | h | ⟨h1, h2, b, ve, rfl, h6, h3, h4, h5, h7⟩
  · exact .inl h
  · exact .inr (.inl h)
  · exact .inr (.inr ⟨h1, h2, b, ve, rfl, h6, by omega, (World.cell?_of_block (w := w) (hk b h6 h3)).trans h4, (World.cell?_of_block (w := w) (hk b h6 h3)).trans h5, h7.keep hs hk⟩)
theorem ErrW.below {lo : Nat} {w w' : World} {v : Value} {c a n : Int} (h : ErrW lo w v c a n) (hb : Below w.heap.size w w') : ErrW lo w' v c a n := h.keep hb.size fun b _ h => hb.block b h

theorem Tn.drop {s t : List Nat} {w w1 V : World} (h : Below w.heap.size w w1) (k : Tn s w1 V) (hs : ∀ i ∈ s, i < w.heap.size → i ∈ t) : Tn t w V :=
  ⟨k.os.trans h.os, k.tape.trans h.tape, k.output.trans h.output, Nat.le_trans h.size k.size, fun i h1 h2 => (k.block i (Nat.lt_of_lt_of_le h1 h.size) (fun hm => h2 (hs i hm h1))).trans (h.block i h1)⟩

end Go.Proofs.YtnmfjnfdnjjngaaGreatDoor

namespace Go.Proofs.YtnmfjnfdnjjngaaGreatDoor
open Go.RowKit
set_option maxRecDepth 100000

/-- A transaction as it is given. -/
structure SmD where
  sp : List Int
  tag : Int
  fee : Int
  outs : Int
  pays : Int
  del : Int
  ht : Int
  gr : Bool
  odd : Bool
def SmD.Ok (z : SmD) : Prop := z.sp.length ≤ maxLen ∧ (∀ x ∈ z.sp, 0 ≤ x ∧ x ≤ 255) ∧ (0 ≤ z.tag ∧ z.tag ≤ 255) ∧ (0 ≤ z.fee ∧ z.fee ≤ 65535) ∧ (0 ≤ z.outs ∧ z.outs ≤ 65535) ∧ (0 ≤ z.pays ∧ z.pays ≤ 255) ∧ (0 ≤ z.del ∧ z.del ≤ 255) ∧ 0 ≤ z.ht ∧ z.ht ≤ 255
/-- An input of any length. -/
def InD.Any (x : InD) : Prop := x.id.size ≤ maxLen ∧ 0 ≤ x.ix ∧ x.ix ≤ 4294967295 ∧ 0 ≤ x.sq ∧ x.sq ≤ 4294967295 ∧ x.wit.length ≤ maxLen ∧ ∀ s ∈ x.wit, s.size ≤ maxLen
/-- An output of any length. -/
def OutD.Any (x : OutD) : Prop := -9223372036854775808 ≤ x.val ∧ x.val ≤ 9223372036854775807 ∧ x.scr.size ≤ maxLen
/-- A transaction of any length. -/
def TxD.Any (t : TxD) : Prop := t.ins.length ≤ maxLen ∧ t.outs.length ≤ maxLen ∧ (∀ x ∈ t.ins, x.Any) ∧ (∀ x ∈ t.outs, x.Any) ∧ 0 ≤ t.ver ∧ t.ver ≤ 4294967295 ∧ 0 ≤ t.lock ∧ t.lock ≤ 4294967295

/-- Bytes in a slice. -/
def Byts (w : World) (lo hi : Nat) (v : Value) (xs : List Int) : Prop := Lst (fun w b o x => w.cell? ⟨b, o, none⟩ = some (.int .u8 x)) 1 w lo hi v xs
theorem Byts.keep {w w' : World} {lo hi : Nat} {v : Value} {xs : List Int} (h : Byts w lo hi v xs) (hk : Kept lo hi w w') : Byts w' lo hi v xs := Lst.keep h fun _ _ _ h1 h2 hx => (hk.cell h1 h2).trans hx
theorem Byts.wide {w : World} {lo hi lo' hi' : Nat} {v : Value} {xs : List Int} (h : Byts w lo hi v xs) (h1 : lo' ≤ lo) (h2 : hi ≤ hi') : Byts w lo' hi' v xs := Lst.wide h (fun _ _ _ h => h) h1 h2
/-- The nine cells of a transaction as it is given. -/
def SmAt (lo hi : Nat) (w : World) (b o : Nat) (z : SmD) : Prop :=
  (∃ v, w.cell? ⟨b, o, none⟩ = some v ∧ Byts w lo hi v z.sp) ∧ w.cell? ⟨b, o + 1, none⟩ = some (.int .u8 z.tag) ∧ w.cell? ⟨b, o + 2, none⟩ = some (.int .u16 z.fee) ∧ w.cell? ⟨b, o + 3, none⟩ = some (.int .u16 z.outs) ∧ w.cell? ⟨b, o + 4, none⟩ = some (.int .u8 z.pays) ∧
    w.cell? ⟨b, o + 5, none⟩ = some (.int .u8 z.del) ∧ w.cell? ⟨b, o + 6, none⟩ = some (.int .u8 z.ht) ∧ w.cell? ⟨b, o + 7, none⟩ = some (.bool z.gr) ∧ w.cell? ⟨b, o + 8, none⟩ = some (.bool z.odd)
theorem SmAt.keep {lo hi : Nat} {w w' : World} {b o : Nat} {z : SmD} (h : SmAt lo hi w b o z) (h1 : lo ≤ b) (h2 : b < hi) (hk : Kept lo hi w w') : SmAt lo hi w' b o z := by
  obtain ⟨⟨v, c0, hv⟩, c1, c2, c3, c4, c5, c6, c7, c8⟩ := h
  have e := fun i => hk.cell (b := b) (o := i) h1 h2
  exact ⟨⟨v, (e _).trans c0, hv.keep hk⟩, (e _).trans c1, (e _).trans c2, (e _).trans c3, (e _).trans c4, (e _).trans c5, (e _).trans c6, (e _).trans c7, (e _).trans c8⟩
theorem SmAt.wide {lo hi lo' hi' : Nat} {w : World} {b o : Nat} {z : SmD} (h : SmAt lo hi w b o z) (h1 : lo' ≤ lo) (h2 : hi ≤ hi') : SmAt lo' hi' w b o z := by
  obtain ⟨⟨v, c0, hv⟩, r⟩ := h
  exact ⟨⟨v, c0, hv.wide h1 h2⟩, r⟩
/-- A block as it is given. -/
def Sms (w : World) (lo hi : Nat) (v : Value) (zs : List SmD) : Prop := Lst (SmAt lo hi) 9 w lo hi v zs
theorem Sms.keep {w w' : World} {lo hi : Nat} {v : Value} {zs : List SmD} (h : Sms w lo hi v zs) (hk : Kept lo hi w w') : Sms w' lo hi v zs := Lst.keep h fun _ _ _ h1 h2 hx => hx.keep h1 h2 hk
theorem Sms.wide {w : World} {lo hi lo' hi' : Nat} {v : Value} {zs : List SmD} (h : Sms w lo hi v zs) (h1 : lo' ≤ lo) (h2 : hi ≤ hi') : Sms w lo' hi' v zs := Lst.wide h (fun _ _ _ h => h.wide h1 h2) h1 h2
/-- Blocks as they are given. -/
def Bks (w : World) (lo hi : Nat) (v : Value) (zss : List (List SmD)) : Prop := Lst (fun w b o zs => ∃ v, w.cell? ⟨b, o, none⟩ = some v ∧ Sms w lo hi v zs) 1 w lo hi v zss
theorem Bks.keep {w w' : World} {lo hi : Nat} {v : Value} {zss : List (List SmD)} (h : Bks w lo hi v zss) (hk : Kept lo hi w w') : Bks w' lo hi v zss := Lst.keep h fun _ _ _ h1 h2 ⟨v, c, hx⟩ => ⟨v, (hk.cell h1 h2).trans c, hx.keep hk⟩
def SmsOk (zs : List SmD) : Prop := zs.length ≤ maxLen ∧ ∀ z ∈ zs, z.Ok
def BksOk (zss : List (List SmD)) : Prop := zss.length ≤ maxLen ∧ ∀ zs ∈ zss, SmsOk zs

end Go.Proofs.YtnmfjnfdnjjngaaGreatDoor

namespace Go.Proofs.YtnmfjnfdnjjngaaGreatDoor
open Go.RowKit
set_option maxRecDepth 100000

structure MkSt (w : World) (z : SmD) (vs : Value) (ys : List InD) (os : List OutD) (lock : Int) (vI vO : Value) (wr : World) : Prop where
  bz : wr.heap[w.heap.size]? = some (.cells #[vs, .int .u8 z.tag, .int .u16 z.fee, .int .u16 z.outs, .int .u8 z.pays, .int .u8 z.del, .int .u8 z.ht, .bool z.gr, .bool z.odd] 82 (0, 0))
  br : Open wr (w.heap.size + 1) (.int .u32 0) (.slice none 0 0) (.slice none 0 0) (.int .u32 0)
  bu : Open wr (w.heap.size + 1 + 1) (.int .u32 2) vI vO (.int .u32 lock)
  ins : InsOwn wr (w.heap.size + 3) wr.heap.size vI ys
  outs : OutsOwn wr (w.heap.size + 3) wr.heap.size vO os
  bel : Below w.heap.size w wr
  le : w.heap.size + 3 ≤ wr.heap.size

theorem MkSt.start (w : World) (z : SmD) (vs : Value) :
    MkSt w z vs [] [] 0 (.slice none 0 0) (.slice none 0 0) (((w.alloc (.cells #[vs, .int .u8 z.tag, .int .u16 z.fee, .int .u16 z.outs, .int .u8 z.pays, .int .u8 z.del, .int .u8 z.ht, .bool z.gr, .bool z.odd] 82)).alloc (.cells #[.int .u32 0, .slice none 0 0, .slice none 0 0, .int .u32 0] 51)).alloc (.cells #[.int .u32 2, .slice none 0 0, .slice none 0 0, .int .u32 0] 51)) := by
  refine ⟨?_, ?_, ?_, InsOwn.nil _ _ _, OutsOwn.nil _ _ _, (((Below.refl _ _).alloc (Nat.le_refl _) _).alloc (by simp) _).alloc (by simp; omega) _, by simp⟩
  · rw [Below.heap_alloc _ _ _ (by simp; omega), Below.heap_alloc _ _ _ (by simp)]
    exact heap_alloc_new _ _
  · have h := Open.new (w.alloc (.cells #[vs, .int .u8 z.tag, .int .u16 z.fee, .int .u16 z.outs, .int .u8 z.pays, .int .u8 z.del, .int .u8 z.ht, .bool z.gr, .bool z.odd] 82)) (.int .u32 0) (.slice none 0 0) (.slice none 0 0) (.int .u32 0) 51
    simp only [World.size_alloc] at h
    exact h.keep (Below.heap_alloc _ _ _ (by simp))
  · have h := Open.new ((w.alloc (.cells #[vs, .int .u8 z.tag, .int .u16 z.fee, .int .u16 z.outs, .int .u8 z.pays, .int .u8 z.del, .int .u8 z.ht, .bool z.gr, .bool z.odd] 82)).alloc (.cells #[.int .u32 0, .slice none 0 0, .slice none 0 0, .int .u32 0] 51)) (.int .u32 2) (.slice none 0 0) (.slice none 0 0) (.int .u32 0) 51
    simpa using h
theorem MkSt.below {w V wr : World} {z : SmD} {vs vI vO : Value} {ys : List InD} {os : List OutD} {lock : Int} (h : MkSt w z vs ys os lock vI vO wr) (hb : Below wr.heap.size wr V) : MkSt w z vs ys os lock vI vO V := by
  have hle := h.le
  have hs := hb.size
  exact ⟨(hb.block _ (by omega)).trans h.bz, h.br.below hb (by omega), h.bu.below hb (by omega), h.ins.keep (StayE.of_below hb (Nat.le_refl _)) (StayE.of_below hb (Nat.le_refl _)) hs, h.outs.keep (StayE.of_below hb (Nat.le_refl _)) hs,
    h.bel.trans (hb.mono (by omega)), by omega⟩
/-- The cells of what is given. -/
theorem MkSt.cells {w wr : World} {z : SmD} {vs vI vO : Value} {ys : List InD} {os : List OutD} {lock : Int} (h : MkSt w z vs ys os lock vI vO wr) :
    wr.cell? ⟨w.heap.size, 0, none⟩ = some vs ∧ wr.cell? ⟨w.heap.size, 1, none⟩ = some (.int .u8 z.tag) ∧ wr.cell? ⟨w.heap.size, 2, none⟩ = some (.int .u16 z.fee) ∧ wr.cell? ⟨w.heap.size, 3, none⟩ = some (.int .u16 z.outs) ∧ wr.cell? ⟨w.heap.size, 4, none⟩ = some (.int .u8 z.pays) ∧
      wr.cell? ⟨w.heap.size, 5, none⟩ = some (.int .u8 z.del) ∧ wr.cell? ⟨w.heap.size, 6, none⟩ = some (.int .u8 z.ht) ∧ wr.cell? ⟨w.heap.size, 7, none⟩ = some (.bool z.gr) ∧ wr.cell? ⟨w.heap.size, 8, none⟩ = some (.bool z.odd) :=
  ⟨Co.cell_in h.bz rfl, Co.cell_in h.bz rfl, Co.cell_in h.bz rfl, Co.cell_in h.bz rfl, Co.cell_in h.bz rfl, Co.cell_in h.bz rfl, Co.cell_in h.bz rfl, Co.cell_in h.bz rfl, Co.cell_in h.bz rfl⟩

/-- One input more. -/
theorem MkSt.pushIn {w wo wr w1 : World} {z : SmD} {vs vI v' u : Value} {ys : List InD} {lock : Int} {x : InD} {cells : List Value} {o : Obj} (h : MkSt w z vs ys [] lock vI (.slice none 0 0) wo)
    (hb : Below wo.heap.size wo wr) (hu : StrOwn wr (w.heap.size + 3) wr.heap.size u x.wit) (hown : wr.ownsRow (w.heap.size + 3) 107 4 vI ys.length cells)
    (hall : ∀ (j : Nat) (y : InD), ys[j]? = some y → cells[j * 4]? = some (.string y.id) ∧ cells[j * 4 + 1]? = some (.int .u32 y.ix) ∧ cells[j * 4 + 2]? = some (.int .u32 y.sq) ∧ ∃ u, cells[j * 4 + 3]? = some u ∧ StrOwn wr (w.heap.size + 3) wo.heap.size u y.wit)
    (hgrow : (wr.alloc o).grownBy w1 vI.ownBlock) (hown' : w1.ownsRow (w.heap.size + 3) 107 4 v' (ys.length + 1) (cells ++ [.string x.id, .int .u32 x.ix, .int .u32 x.sq, u])) :
    MkSt w z vs (ys ++ [x]) [] lock v' (.slice none 0 0) (w1.setCell ⟨w.heap.size + 1 + 1, 1, none⟩ v') := by
  have hle := h.le
  have hs0 := hb.size
  have hbl : Below (w.heap.size + 3) wr w1 := grown_below hgrow (own_block hown) (by omega)
  have hs1 := hbl.size
  have hb3 : Below (w.heap.size + 3) wo w1 := (hb.mono (by omega)).trans hbl
  have hsz : (w1.setCell ⟨w.heap.size + 1 + 1, 1, none⟩ v').heap.size = w1.heap.size := by simp [World.setCell]
  have hal : ∀ e, StayE (w.heap.size + 3) wr.heap.size e wr (wr.alloc o) := fun e => StayE.alloc o (Nat.le_refl _)
  refine ⟨?_, ?_, ?_, ?_, OutsOwn.nil _ _ _, ?_, by rw [hsz]; omega⟩
  · exact (Below.heap_setCell _ ⟨w.heap.size + 1 + 1, 1, none⟩ _ _ (by show w.heap.size ≠ w.heap.size + 1 + 1; omega)).trans ((hb3.block _ (by omega)).trans h.bz)
  · exact (h.br.below hb3 (by omega)).other (by show w.heap.size + 1 ≠ w.heap.size + 1 + 1; omega) _
  · exact (h.bu.below hb3 (by omega)).set1 v'
  · rw [hsz]
    have hI : InsOwn w1 (w.heap.size + 3) w1.heap.size v' (ys ++ [x]) := by
      refine InsOwn.push (w := wr.alloc o) (cells := cells) (x := x) (u := u) (hown.alloc _) (fun j y hy => ?_) ?_ hgrow hown'
      · obtain ⟨c0, c1, c2, u', c3, hs⟩ := hall j y hy
        exact ⟨c0, c1, c2, u', c3, (OwnAt.keep hs (fun b cur h1 h2 h3 => hal 9 b cur h1 (by omega) h3) (by simp; omega))⟩
      · exact OwnAt.keep hu (StayE.alloc o (Nat.le_refl _)) (by simp)
    exact hI.keep (StayE.setCell (.inl (by show w.heap.size + 1 + 1 < w.heap.size + 3; omega)) _) (StayE.setCell (.inl (by show w.heap.size + 1 + 1 < w.heap.size + 3; omega)) _) (Nat.le_refl _)
  · exact (h.bel.trans (hb3.mono (by omega))).setCell (by show w.heap.size ≤ w.heap.size + 1 + 1; omega) _
theorem MkSt.openIn {w wo wr w1 : World} {z : SmD} {vs vI vO : Value} {ys : List InD} {os : List OutD} {lock : Int} {n : Nat} {cells : List Value} {o : Obj} (h : MkSt w z vs ys os lock vI vO wo) (hb : Below wo.heap.size wo wr)
    (hown : wr.ownsRow (w.heap.size + 3) 107 4 vI n cells) (hgrow : (wr.alloc o).grownBy w1 vI.ownBlock) : Open w1 (w.heap.size + 1 + 1) (.int .u32 2) vI vO (.int .u32 lock) := by
  have hle := h.le
  have hs := hb.size
  exact (h.bu.below hb (by omega)).below (grown_below hgrow (own_block hown) (by omega)) (by omega)

/-- One output more. -/
theorem MkSt.pushOut {w wo wr w1 : World} {z : SmD} {vs vI vO v' : Value} {ys : List InD} {os : List OutD} {lock : Int} {x : OutD} {cells : List Value} {o : Obj} (h : MkSt w z vs ys os lock vI vO wo) (hb : Below wo.heap.size wo wr)
    (hown : wr.ownsRow (w.heap.size + 3) 62 2 vO os.length cells) (hall : ∀ (j : Nat) (y : OutD), os[j]? = some y → cells[j * 2]? = some (.int .i64 y.val) ∧ cells[j * 2 + 1]? = some (.string y.scr))
    (hgrow : (wr.alloc o).grownBy w1 vO.ownBlock) (hown' : w1.ownsRow (w.heap.size + 3) 62 2 v' (os.length + 1) (cells ++ [.int .i64 x.val, .string x.scr])) :
    MkSt w z vs ys (os ++ [x]) lock vI v' (w1.setCell ⟨w.heap.size + 1 + 1, 2, none⟩ v') := by
  have hle := h.le
  have hs0 := hb.size
  have hbl : Below (w.heap.size + 3) wr w1 := grown_below hgrow (own_block hown) (by omega)
  have hs1 := hbl.size
  have hb3 : Below (w.heap.size + 3) wo w1 := (hb.mono (by omega)).trans hbl
  have hsz : (w1.setCell ⟨w.heap.size + 1 + 1, 2, none⟩ v').heap.size = w1.heap.size := by simp [World.setCell]
  have hst : ∀ e, e ≠ 62 → StayE (w.heap.size + 3) wo.heap.size e wo (w1.setCell ⟨w.heap.size + 1 + 1, 2, none⟩ v') := fun e he =>
    (((StayE.of_below hb (Nat.le_refl _)).trans (StayE.alloc o hs0)).trans (StayE.grown (hown.alloc o) hgrow (by simp; omega) he)).trans (StayE.setCell (.inl (by show w.heap.size + 1 + 1 < w.heap.size + 3; omega)) _)
  refine ⟨?_, ?_, ?_, ?_, ?_, ?_, by rw [hsz]; omega⟩
  · exact (Below.heap_setCell _ ⟨w.heap.size + 1 + 1, 2, none⟩ _ _ (by show w.heap.size ≠ w.heap.size + 1 + 1; omega)).trans ((hb3.block _ (by omega)).trans h.bz)
  · exact (h.br.below hb3 (by omega)).other (by show w.heap.size + 1 ≠ w.heap.size + 1 + 1; omega) _
  · exact (h.bu.below hb3 (by omega)).set2 v'
  · rw [hsz]
    exact h.ins.keep (hst 107 (by decide)) (hst 9 (by decide)) (by omega)
  · rw [hsz]
    have hO : OutsOwn w1 (w.heap.size + 3) w1.heap.size v' (os ++ [x]) := OutsOwn.push (x := x) hown.1 hall hown'
    exact hO.keep (StayE.setCell (.inl (by show w.heap.size + 1 + 1 < w.heap.size + 3; omega)) _) (Nat.le_refl _)
  · exact (h.bel.trans (hb3.mono (by omega))).setCell (by show w.heap.size ≤ w.heap.size + 1 + 1; omega) _
theorem MkSt.openOut {w wo wr w1 : World} {z : SmD} {vs vI vO : Value} {ys : List InD} {os : List OutD} {lock : Int} {n : Nat} {cells : List Value} {o : Obj} (h : MkSt w z vs ys os lock vI vO wo) (hb : Below wo.heap.size wo wr)
    (hown : wr.ownsRow (w.heap.size + 3) 62 2 vO n cells) (hgrow : (wr.alloc o).grownBy w1 vO.ownBlock) : Open w1 (w.heap.size + 1 + 1) (.int .u32 2) vI vO (.int .u32 lock) := by
  have hle := h.le
  have hs := hb.size
  exact (h.bu.below hb (by omega)).below (grown_below hgrow (own_block hown) (by omega)) (by omega)
/-- Another lock. -/
theorem MkSt.setLock {w wr : World} {z : SmD} {vs vI vO : Value} {ys : List InD} {os : List OutD} {lock : Int} (h : MkSt w z vs ys os lock vI vO wr) (k : Int) : MkSt w z vs ys os k vI vO (wr.setCell ⟨w.heap.size + 1 + 1, 3, none⟩ (.int .u32 k)) := by
  have hle := h.le
  have hsz : (wr.setCell ⟨w.heap.size + 1 + 1, 3, none⟩ (.int .u32 k)).heap.size = wr.heap.size := by simp [World.setCell]
  have hst : ∀ e, StayE (w.heap.size + 3) wr.heap.size e wr (wr.setCell ⟨w.heap.size + 1 + 1, 3, none⟩ (.int .u32 k)) := fun e => StayE.setCell (.inl (by show w.heap.size + 1 + 1 < w.heap.size + 3; omega)) _
  refine ⟨?_, ?_, h.bu.set3 _, ?_, ?_, h.bel.setCell (by show w.heap.size ≤ w.heap.size + 1 + 1; omega) _, by rw [hsz]; exact hle⟩
  · exact (Below.heap_setCell _ ⟨w.heap.size + 1 + 1, 3, none⟩ _ _ (by show w.heap.size ≠ w.heap.size + 1 + 1; omega)).trans h.bz
  · exact h.br.other (by show w.heap.size + 1 ≠ w.heap.size + 1 + 1; omega) _
  · rw [hsz]; exact h.ins.keep (hst 107) (hst 9) (Nat.le_refl _)
  · rw [hsz]; exact h.outs.keep (hst 62) (Nat.le_refl _)
theorem InsOwn.one (w : World) (base : Nat) (hb : base ≤ w.heap.size) (a : ByteArray) (i s : Int) : InsOwn (w.alloc (.cells #[.string a, .int .u32 i, .int .u32 s, .slice none 0 0] 107)) base (w.heap.size + 1) (.slice (some ⟨w.heap.size, 0, none⟩) 1 1) [⟨a, i, s, []⟩] := by
  have h := World.ownsRow_lit (base := base) (e := 107) (size := 4) w #[.string a, .int .u32 i, .int .u32 s, .slice none 0 0] 1 hb (by unfold maxLen; omega) rfl
  refine ⟨[.string a, .int .u32 i, .int .u32 s, .slice none 0 0], ⟨h, fun g hg => by simp [Value.ownBlock] at hg; omega⟩, fun j x hx => ?_⟩
  match j, hx with
  | 0, hx =>
    simp at hx
    subst hx
    exact ⟨rfl, rfl, rfl, _, rfl, ⟨World.ownsRow_nil _ _ 9 1, fun g h => by simp [Value.ownBlock] at h⟩⟩
/-- It grants. -/
theorem MkSt.grant {w wr : World} {z : SmD} {vs vI vO : Value} {ys : List InD} {os : List OutD} {lock : Int} (h : MkSt w z vs ys os lock vI vO wr) (a : ByteArray) (i s : Int) :
    MkSt w z vs [⟨a, i, s, []⟩] os lock (.slice (some ⟨wr.heap.size, 0, none⟩) 1 1) vO ((wr.alloc (.cells #[.string a, .int .u32 i, .int .u32 s, .slice none 0 0] 107)).setCell ⟨w.heap.size + 1 + 1, 1, none⟩ (.slice (some ⟨wr.heap.size, 0, none⟩) 1 1)) := by
  have hle := h.le
  obtain ⟨W, hW⟩ : ∃ W, W = wr.alloc (.cells #[.string a, .int .u32 i, .int .u32 s, .slice none 0 0] 107) := ⟨_, rfl⟩
  have hb : Below wr.heap.size wr W := by rw [hW]; exact (Below.refl _ _).alloc (Nat.le_refl _) _
  have hz : W.heap.size = wr.heap.size + 1 := by rw [hW]; simp
  have I1 : InsOwn W (w.heap.size + 3) W.heap.size (.slice (some ⟨wr.heap.size, 0, none⟩) 1 1) [⟨a, i, s, []⟩] := by rw [hz, hW]; exact InsOwn.one wr _ hle a i s
  have k := h.below hb
  rw [← hW]
  have hsz : (W.setCell ⟨w.heap.size + 1 + 1, 1, none⟩ (.slice (some ⟨wr.heap.size, 0, none⟩) 1 1)).heap.size = W.heap.size := by simp [World.setCell]
  have hst : ∀ e, StayE (w.heap.size + 3) W.heap.size e W (W.setCell ⟨w.heap.size + 1 + 1, 1, none⟩ (.slice (some ⟨wr.heap.size, 0, none⟩) 1 1)) := fun e => StayE.setCell (.inl (by show w.heap.size + 1 + 1 < w.heap.size + 3; omega)) _
  refine ⟨?_, ?_, k.bu.set1 _, ?_, ?_, k.bel.setCell (by show w.heap.size ≤ w.heap.size + 1 + 1; omega) _, by rw [hsz]; exact k.le⟩
  · exact (Below.heap_setCell _ ⟨w.heap.size + 1 + 1, 1, none⟩ _ _ (by show w.heap.size ≠ w.heap.size + 1 + 1; omega)).trans k.bz
  · exact k.br.other (by show w.heap.size + 1 ≠ w.heap.size + 1 + 1; omega) _
  · rw [hsz]; exact I1.keep (hst 107) (hst 9) (Nat.le_refl _)
  · rw [hsz]; exact k.outs.keep (hst 62) (Nat.le_refl _)
theorem MkSt.ends {w wr : World} {z : SmD} {vs vI vO : Value} {ys : List InD} {os : List OutD} {lock : Int} (h : MkSt w z vs ys os lock vI vO wr) (v0 v1 v2 v3 : Value) :
    TxAt (put4 wr (w.heap.size + 1) v0 v1 v2 v3) w.heap.size (put4 wr (w.heap.size + 1) v0 v1 v2 v3).heap.size vI vO ⟨2, ys, os, lock⟩ ∧ Below w.heap.size w (put4 wr (w.heap.size + 1) v0 v1 v2 v3) := by
  have hsz := put4_size wr (w.heap.size + 1) v0 v1 v2 v3
  have hst : ∀ e, StayE (w.heap.size + 3) wr.heap.size e wr (put4 wr (w.heap.size + 1) v0 v1 v2 v3) := fun e => StayE.put4 (.inl (by omega)) _ _ _ _
  refine ⟨⟨?_, ?_⟩, put4_below h.bel (by omega) _ _ _ _⟩
  · exact (h.ins.keep (hst 107) (hst 9) (Nat.le_of_eq hsz.symm)).ins.wide (by omega) (Nat.le_refl _)
  · exact (h.outs.keep (hst 62) (Nat.le_of_eq hsz.symm)).outs.wide (by omega) (Nat.le_refl _)

/-! ### Texts out of bytes -/

theorem text3 : ∀ (W : World) (b : Nat) (x y t : Int), W.cell? ⟨b, 0, none⟩ = some (.int .u8 x) → W.cell? ⟨b, 1, none⟩ = some (.int .u8 y) → W.cell? ⟨b, 2, none⟩ = some (.int .u8 t) → (convert 79 9 (.slice (some ⟨b, 0, none⟩) 3 3)).run Tryz.prog W = .ok (.string (strOfNums [x, y, t])) W := fun W b x y t h0 h1 h2 => by
  refine run_convert_bytes_arg W 79 5 Tryz.underlying79 Tryz.underlying5 b 0 3 3 [x, y, t] rfl (fun i hi => ?_) 9 Tryz.underlying9
  match i, hi with
  | 0, _ => exact h0
  | 1, _ => exact h1
  | 2, _ => exact h2
theorem text8 : ∀ (W : World) (b : Nat) (x0 x1 x2 x3 x4 x5 x6 x7 : Int), W.cell? ⟨b, 0, none⟩ = some (.int .u8 x0) → W.cell? ⟨b, 1, none⟩ = some (.int .u8 x1) → W.cell? ⟨b, 2, none⟩ = some (.int .u8 x2) → W.cell? ⟨b, 3, none⟩ = some (.int .u8 x3) → W.cell? ⟨b, 4, none⟩ = some (.int .u8 x4) → W.cell? ⟨b, 5, none⟩ = some (.int .u8 x5) → W.cell? ⟨b, 6, none⟩ = some (.int .u8 x6) → W.cell? ⟨b, 7, none⟩ = some (.int .u8 x7) →
    (convert 79 9 (.slice (some ⟨b, 0, none⟩) 8 8)).run Tryz.prog W = .ok (.string (strOfNums [x0, x1, x2, x3, x4, x5, x6, x7])) W := fun W b x0 x1 x2 x3 x4 x5 x6 x7 h0 h1 h2 h3 h4 h5 h6 h7 => by
  refine run_convert_bytes_arg W 79 5 Tryz.underlying79 Tryz.underlying5 b 0 8 8 [x0, x1, x2, x3, x4, x5, x6, x7] rfl (fun i hi => ?_) 9 Tryz.underlying9
  match i, hi with
  | 0, _ => exact h0
  | 1, _ => exact h1
  | 2, _ => exact h2
  | 3, _ => exact h3
  | 4, _ => exact h4
  | 5, _ => exact h5
  | 6, _ => exact h6
  | 7, _ => exact h7
theorem StrOwn.one (w : World) (base : Nat) (hb : base ≤ w.heap.size) (s : ByteArray) : StrOwn (w.alloc (.cells #[.string s] 9)) base (w.heap.size + 1) (.slice (some ⟨w.heap.size, 0, none⟩) 1 1) [s] := by
  have h := World.ownsRow_lit (base := base) (e := 9) (size := 1) w #[.string s] 1 hb (by unfold maxLen; omega) rfl
  exact ⟨h, fun g hg => by simp [Value.ownBlock] at hg; omega⟩

end Go.Proofs.YtnmfjnfdnjjngaaGreatDoor
