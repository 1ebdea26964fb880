/-
  The document's Ins, all of whose Witnesses are nil.
-/
import Derived.Test.YtkdkkndccjddnaaRout

namespace Go.Proofs.Ytkdkkndccjddnaa
open Go.RowKit

/-- Inputs in a row of the call's own, whose Witnesses are nil. -/
def InsNil (w : World) (base top : Nat) (v : Value) (ys : List InD) : Prop :=
  ∃ cells : List Value, OwnAt w base top 47 4 v ys.length cells ∧ ∀ (j : Nat) (x : InD), ys[j]? = some x → cells[j * 4]? = some (.string x.id) ∧ cells[j * 4 + 1]? = some (.int .u32 x.ix) ∧ cells[j * 4 + 2]? = some (.int .u32 x.sq) ∧ cells[j * 4 + 3]? = some (.slice none 0 0)
theorem InsNil.keep {w w' : World} {base top top' : Nat} {v : Value} {ys : List InD} (h : InsNil w base top v ys) (h43 : StayE base top 47 w w') (ht : top ≤ top') : InsNil w' base top' v ys := by
  obtain ⟨cells, hown, hall⟩ := h
  exact ⟨cells, hown.keep h43 ht, hall⟩
theorem InsNil.nil (w : World) (base top : Nat) : InsNil w base top (.slice none 0 0) [] := ⟨[], ⟨World.ownsRow_nil w base 47 4, fun g h => by simp [Value.ownBlock] at h⟩, fun j x hx => by simp at hx⟩
theorem InsNil.base {w : World} {base base' top : Nat} {v : Value} {ys : List InD} (h : InsNil w base top v ys) (hb : base' ≤ base) : InsNil w base' top v ys := by
  obtain ⟨cells, hown, hall⟩ := h
  exact ⟨cells, hown.base hb, hall⟩
theorem InsNil.push {w w1 : World} {base : Nat} {v v' : Value} {ys : List InD} {cells : List Value} {x : InD} (hown : w.ownsRow base 47 4 v ys.length cells)
    (hall : ∀ (j : Nat) (x : InD), ys[j]? = some x → cells[j * 4]? = some (.string x.id) ∧ cells[j * 4 + 1]? = some (.int .u32 x.ix) ∧ cells[j * 4 + 2]? = some (.int .u32 x.sq) ∧ cells[j * 4 + 3]? = some (.slice none 0 0))
    (hown' : w1.ownsRow base 47 4 v' (ys.length + 1) (cells ++ [.string x.id, .int .u32 x.ix, .int .u32 x.sq, .slice none 0 0])) : InsNil w1 base w1.heap.size v' (ys ++ [x]) := by
  have hlen : cells.length = ys.length * 4 := hown.1
  refine ⟨_, by simpa using OwnAt.of_own hown', fun j y hy => ?_⟩
  by_cases hj : j < ys.length
  · rw [List.getElem?_append_left hj] at hy
    obtain ⟨c0, c1, c2, c3⟩ := hall j y hy
    refine ⟨?_, ?_, ?_, ?_⟩
    · rw [List.getElem?_append_left (by omega)]; exact c0
    · rw [List.getElem?_append_left (by omega)]; exact c1
    · rw [List.getElem?_append_left (by omega)]; exact c2
    · rw [List.getElem?_append_left (by omega)]; exact c3
  · have hj2 : j = ys.length := by
      have := (List.getElem?_eq_some_iff.1 hy).1
      simp at this; omega
    subst hj2
    simp at hy
    subst hy
    refine ⟨?_, ?_, ?_, ?_⟩
    · rw [List.getElem?_append_right (by omega), hlen]; simp
    · rw [List.getElem?_append_right (by omega), hlen]; simp
    · rw [List.getElem?_append_right (by omega), hlen]; simp
    · rw [List.getElem?_append_right (by omega), hlen]; simp

/-- Where the document's ins stands: its state, its list. -/
structure RizS (w : World) (z : St) (ys : List InD) (v : Value) (wr : World) : Prop where
  tb : Two2 wr w.heap.size (.int .i64 z.a) (.int .i64 z.e)
  rb : Two2 wr (w.heap.size + 1) (.int .i64 0) (.int .i64 0)
  ow : InsNil wr (w.heap.size + 2) wr.heap.size v ys
  le : w.heap.size + 2 ≤ wr.heap.size
  bel : Below w.heap.size w wr
theorem RizS.step {w : World} {z : St} {ys : List InD} {v : Value} {wr wx : World} (h : RizS w z ys v wr) (hb : Below wr.heap.size wr wx) (z' : St) : RizS w z' ys v ((wx.setCell ⟨w.heap.size, 0, none⟩ (.int .i64 z'.a)).setCell ⟨w.heap.size, 1, none⟩ (.int .i64 z'.e)) := by
  have hl := h.le
  have hs := hb.size
  have st : ∀ e, StayE (w.heap.size + 2) wr.heap.size e wr ((wx.setCell ⟨w.heap.size, 0, none⟩ (.int .i64 z'.a)).setCell ⟨w.heap.size, 1, none⟩ (.int .i64 z'.e)) := fun e => (StayE.of_below hb (Nat.le_refl _)).trans ((StayE.setCell (.inl (by show w.heap.size < w.heap.size + 2; omega)) _).trans (StayE.setCell (.inl (by show w.heap.size < w.heap.size + 2; omega)) _))
  refine ⟨(h.tb.keep (hb.block _ (by omega))).put _ _, (h.rb.keep (hb.block _ (by omega))).keep ?_, ?_, ?_, ((below_next h.bel (by omega) hb).setCell (Nat.le_refl _) _).setCell (Nat.le_refl _) _⟩
  · exact (Below.heap_setCell _ _ _ _ (by show w.heap.size + 1 ≠ w.heap.size; omega)).trans (Below.heap_setCell _ _ _ _ (by show w.heap.size + 1 ≠ w.heap.size; omega))
  · refine h.ow.keep (st 47) ?_
    rw [World.size_setCell, World.size_setCell]
    exact hs
  · rw [World.size_setCell, World.size_setCell]
    omega
theorem RizS.done {w wr : World} {y : St} {ys : List InD} {v : Value} (h : RizS w y ys v wr) : InsNil ((wr.setCell ⟨w.heap.size + 1, 0, none⟩ (.int .i64 y.a)).setCell ⟨w.heap.size + 1, 1, none⟩ (.int .i64 y.e)) (w.heap.size + 2) ((wr.setCell ⟨w.heap.size + 1, 0, none⟩ (.int .i64 y.a)).setCell ⟨w.heap.size + 1, 1, none⟩ (.int .i64 y.e)).heap.size v ys := by
  have st : ∀ e, StayE (w.heap.size + 2) wr.heap.size e wr ((wr.setCell ⟨w.heap.size + 1, 0, none⟩ (.int .i64 y.a)).setCell ⟨w.heap.size + 1, 1, none⟩ (.int .i64 y.e)) := fun e => (StayE.setCell (.inl (by show w.heap.size + 1 < w.heap.size + 2; omega)) _).trans (StayE.setCell (.inl (by show w.heap.size + 1 < w.heap.size + 2; omega)) _)
  refine h.ow.keep (st 47) ?_
  rw [World.size_setCell, World.size_setCell]
  exact Nat.le_refl _
theorem RizS.more {w wr w1 : World} {z : St} {ys : List InD} {v v' : Value} {cells : List Value} {id : ByteArray} {ix sq : Int} {o : Obj} (h : RizS w z ys v wr)
    (hown : wr.ownsRow (w.heap.size + 2) 47 4 v ys.length cells) (hall : ∀ (j : Nat) (x : InD), ys[j]? = some x → cells[j * 4]? = some (.string x.id) ∧ cells[j * 4 + 1]? = some (.int .u32 x.ix) ∧ cells[j * 4 + 2]? = some (.int .u32 x.sq) ∧ cells[j * 4 + 3]? = some (.slice none 0 0))
    (hgrow : (wr.alloc o).grownBy w1 v.ownBlock) (hown' : w1.ownsRow (w.heap.size + 2) 47 4 v' (ys.length + 1) (cells ++ [.string id, .int .u32 ix, .int .u32 sq, .slice none 0 0])) : RizS w z (ys ++ [⟨id, ix, sq, []⟩]) v' w1 := by
  have hle := h.le
  have hbl : Below (w.heap.size + 2) wr w1 := ((Below.refl (w.heap.size + 2) wr).alloc hle o).grown hgrow (by simp; omega) (own_block hown)
  have hs := hbl.size
  have hin : InsNil w1 (w.heap.size + 2) w1.heap.size v' (ys ++ [⟨id, ix, sq, []⟩]) := by
    exact InsNil.push (x := ⟨id, ix, sq, []⟩) (hown.alloc o) hall hown'
  exact ⟨h.tb.keep (hbl.block _ (by omega)), h.rb.keep (hbl.block _ (by omega)), hin, by omega, ⟨hbl.os.trans h.bel.os, hbl.tape.trans h.bel.tape, hbl.output.trans h.bel.output, Nat.le_trans h.bel.size hbl.size, fun c hc => (hbl.block c (by omega)).trans (h.bel.block c hc)⟩⟩

set_option maxHeartbeats 4000000 in
set_option maxRecDepth 100000 in
theorem rinz_st (s : ByteArray) (z : St) (w : World) (hs : s.size ≤ 140737488355328) (hz : z.a ≤ s.size) :
    Calls Try.prog 32 #[.string s, .agg #[.int .i64 z.a, .int .i64 z.e]] w fun x w' => ∃ (v : Value) (k : Nat), k ≤ isN s z ∧ ((isSt s z).e = 0 → k = isN s z) ∧ x = .returned (.tuple #[.agg #[.int .i64 (isSt s z).a, .int .i64 (isSt s z).e], v]) ∧
      InsNil w' (w.heap.size + 2) w'.heap.size v ((List.range k).map (isV s z)) ∧ Below w.heap.size w w' := by
  obtain ⟨i43, hi43, y0, y1, y2⟩ := info_parts info43
  obtain ⟨W, hW⟩ : ∃ W, W = (w.alloc (.cells #[.int .i64 z.a, .int .i64 z.e] 69)).alloc (.cells #[.int .i64 0, .int .i64 0] 69) := ⟨_, rfl⟩
  have hws : W.heap.size = w.heap.size + 2 := by rw [hW]; simp
  have R0 := Lib.hid (show RizS w z [] (.slice none 0 0) W from by
    refine ⟨?_, ?_, InsNil.nil _ _ _, by omega, ?_⟩
    · rw [hW]; exact (Two2.new w _ _ 69).keep (Below.heap_alloc _ _ _ (by simp))
    · have q := Two2.new (w.alloc (.cells #[.int .i64 z.a, .int .i64 z.e] 69)) (.int .i64 0) (.int .i64 0) 69
      rw [World.size_alloc] at q
      rw [hW]
      exact q
    · rw [hW]; exact ((Below.refl _ _).alloc (Nat.le_refl _) _).alloc (by simp) _)
  have HW := Lib.hid hW
  have HSZ := Lib.hid hs
  have C34 := Lib.hid (rcount_st s z 1 256 6 W hs hz (by omega) (by omega) (by omega))
  obtain ⟨z1, hz1⟩ : ∃ z1, cntSt s 1 256 6 z = z1 := ⟨_, rfl⟩
  have hv := cntV_in (s := s) (z := z) (lo := 1) (hi := 256) (out := 6) (by omega) (by omega) (by omega)
  obtain ⟨n, hn⟩ : ∃ n : Nat, isN s z = n := ⟨_, rfl⟩
  have hcn : cntV s 1 256 6 z = (n : Int) := by rw [← hn]; unfold isN; omega
  have hn256 : n ≤ 256 := by omega
  rw [hcn, hz1] at C34
  have HZ1 := Lib.hid (show z1.a ≤ s.size from by rw [← hz1]; exact cntSt_in _ _ _ hz)
  have HIT := Lib.hid (fun k => iter_in (s := s) (z := z1) (f := inSt s) (fun y hy => inSt_in hy) HZ1.out k)
  have EO := Lib.hid (show isSt s z = iter (inSt s) n z1 ∧ ∀ j, isV s z j = inV s (iter (inSt s) j z1) from by
    refine ⟨?_, fun j => ?_⟩
    · unfold isSt; rw [hn, hz1]
    · unfold isV; rw [hz1])
  rw [hn]
  clear hW hs hz hv hcn hn hz1 hws
  go_enter Try.func32, Try.ntmps32
  go_upto_region 1 with (fail)
  rw [show World.alloc (World.alloc w _) _ = W from HW.out.symm]
  obtain ⟨a0, a1, fa⟩ := R0.out.tb
  go_wp2_with fail
  refine C34.out.mono ?_
  rintro x w1 ⟨rfl, hb1⟩
  obtain ⟨d0, d1, fd⟩ := R0.out.tb.keep (hb1.block w.heap.size (by have := R0.out.le; omega))
  have g0 := fd 0
  have g1 := fd 1
  obtain ⟨w2, hw2⟩ : ∃ w2, w2 = (w1.setCell ⟨w.heap.size, 0, none⟩ (.int .i64 z1.a)).setCell ⟨w.heap.size, 1, none⟩ (.int .i64 z1.e) := ⟨_, rfl⟩
  have R1 := Lib.hid (show RizS w z1 [] (.slice none 0 0) w2 from by rw [hw2]; exact R0.out.step hb1 z1)
  go_upto_region 3 with (fail)
  rw [← hw2]
  clear hw2 hb1 d0 d1 fd g0 g1 a0 a1 fa R0 C34 HW
  go_wp2_with fail
  go_loopg [6, 8, 9, 10, 11] n (fun gg l i _ _ _ wr => ∃ (k : Nat), k ≤ n ∧ n - k ≤ gg ∧ i = .int .i64 k ∧ Hid (RizS w (iter (inSt s) k z1) ((List.range k).map (isV s z)) l wr))
  case atStart => exact ⟨0, Nat.zero_le _, by omega, rfl, R1⟩
  case round =>
    obtain ⟨k, hk, hgk, rfl, HR⟩ := hrel
    obtain ⟨y, hy⟩ : ∃ y, iter (inSt s) k z1 = y := ⟨_, rfl⟩
    have HYI := Lib.hid (show y.a ≤ s.size from by rw [← hy]; exact HIT.out k)
    rw [hy] at HR
    have HY := Lib.hid hy
    clear hy R1
    have hle := HR.out.le
    obtain ⟨a0, a1, fa⟩ := HR.out.tb
    by_cases hkn : k < n
    · have k1 : (k : Int) < (n : Int) := by omega
      by_cases he : y.e = 0
      · have he1 : (y.e == 0) = true := by simpa using he
        obtain ⟨p, hp⟩ : ∃ p, bytV s 32 y = p := ⟨_, rfl⟩
        have hps : p.size ≤ 32 := by
          rw [← hp]
          unfold bytV bytS
          split
          · rw [ByteArray.size_extract]; omega
          · exact Nat.zero_le _
        have C35 := Lib.hid (show Calls Try.prog 35 #[.string s, .agg #[.int .i64 y.a, .int .i64 y.e], .int .i64 32] wr (DcGives wr (.string (bytV s 32 y)) (inA s y)) from rtext_st s y 32 wr HSZ.out HYI.out (by omega))
        obtain ⟨yA, hyA⟩ : ∃ yA, inA s y = yA := ⟨_, rfl⟩
        rw [hyA, hp] at C35
        have HA := Lib.hid (show yA.a ≤ s.size from by rw [← hyA]; exact bytSt_in _ HYI.out)
        obtain ⟨yB, hyB⟩ : ∃ yB, wdSt s yA = yB := ⟨_, rfl⟩
        have HB := Lib.hid (show yB.a ≤ s.size from by rw [← hyB]; exact numSt_in _ _ _ _ HA.out)
        obtain ⟨ix, hix⟩ : ∃ ix, wdV s yA = ix := ⟨_, rfl⟩
        have hixb := wdV_in s yA
        rw [hix] at hixb
        obtain ⟨yC, hyC⟩ : ∃ yC, cntSt s 0 0 4 yB = yC := ⟨_, rfl⟩
        have HC := Lib.hid (show yC.a ≤ s.size from by rw [← hyC]; exact cntSt_in _ _ _ HB.out)
        obtain ⟨cv, hcv⟩ : ∃ cv, cntV s 0 0 4 yB = cv := ⟨_, rfl⟩
        obtain ⟨yE, hyE⟩ : ∃ yE, wdSt s yC = yE := ⟨_, rfl⟩
        obtain ⟨sq, hsq⟩ : ∃ sq, wdV s yC = sq := ⟨_, rfl⟩
        have hsqb := wdV_in s yC
        rw [hsq] at hsqb
        have EY := Lib.hid (show iter (inSt s) (k + 1) z1 = yE ∧ isV s z k = ⟨p, ix, sq, []⟩ from by
          have q3 : inC s y = yC := by unfold inC inB'; rw [hyA, hyB, hyC]
          refine ⟨?_, ?_⟩
          · show inSt s (iter (inSt s) k z1) = yE
            rw [HY.out]
            unfold inSt
            rw [q3, hyE]
          · rw [EO.out.2 k, HY.out]
            unfold inV
            rw [hp, hyA, hix, q3, hsq])
        have C31 := Lib.hid (fun W => rword_st s yA W HSZ.out HA.out)
        rw [hix, hyB] at C31
        have C34 := Lib.hid (fun W => rcount_st s yB 0 0 4 W HSZ.out HB.out (by omega) (by omega) (by omega))
        rw [hcv, hyC] at C34
        have D31 := Lib.hid (fun W => rword_st s yC W HSZ.out HC.out)
        rw [hsq, hyE] at D31
        clear hyA hyB hyC hyE hix hsq hcv hp he
        go_wp2_with fail
        refine (C35.out).mono ?_
        rintro x w3 ⟨rfl, hb3⟩
        obtain ⟨d0, d1, fd⟩ := HR.out.tb.keep (hb3.block w.heap.size (by omega))
        have g0 := fd 0
        have g1 := fd 1
        obtain ⟨w4, hw4⟩ : ∃ w4, w4 = (w3.setCell ⟨w.heap.size, 0, none⟩ (.int .i64 yA.a)).setCell ⟨w.heap.size, 1, none⟩ (.int .i64 yA.e) := ⟨_, rfl⟩
        have R4 := Lib.hid (show RizS w yA ((List.range k).map (isV s z)) u6 w4 from by rw [hw4]; exact HR.out.step hb3 yA)
        go_upto_region 9 with (fail)
        rw [← hw4]
        clear hw4 hb3 d0 d1 fd g0 g1 a0 a1 fa hle HR C35
        have hle := R4.out.le
        obtain ⟨a0, a1, fa⟩ := R4.out.tb
        go_wp2_with fail
        refine (C31.out w4).mono ?_
        rintro x w5 ⟨rfl, hb3⟩
        obtain ⟨d0, d1, fd⟩ := R4.out.tb.keep (hb3.block w.heap.size (by omega))
        have g0 := fd 0
        have g1 := fd 1
        obtain ⟨w6, hw4⟩ : ∃ w6, w6 = (w5.setCell ⟨w.heap.size, 0, none⟩ (.int .i64 yB.a)).setCell ⟨w.heap.size, 1, none⟩ (.int .i64 yB.e) := ⟨_, rfl⟩
        have R6 := Lib.hid (show RizS w yB ((List.range k).map (isV s z)) u6 w6 from by rw [hw4]; exact R4.out.step hb3 yB)
        go_upto_region 10 with (fail)
        rw [← hw4]
        clear hw4 hb3 d0 d1 fd g0 g1 a0 a1 fa hle R4 C31
        have hle := R6.out.le
        obtain ⟨a0, a1, fa⟩ := R6.out.tb
        go_wp2_with fail
        refine (C34.out w6).mono ?_
        rintro x w7 ⟨rfl, hb3⟩
        obtain ⟨d0, d1, fd⟩ := R6.out.tb.keep (hb3.block w.heap.size (by omega))
        have g0 := fd 0
        have g1 := fd 1
        obtain ⟨w9, hw4⟩ : ∃ w9, w9 = (w7.setCell ⟨w.heap.size, 0, none⟩ (.int .i64 yC.a)).setCell ⟨w.heap.size, 1, none⟩ (.int .i64 yC.e) := ⟨_, rfl⟩
        have R7 := Lib.hid (show RizS w yC ((List.range k).map (isV s z)) u6 w9 from by rw [hw4]; exact R6.out.step hb3 yC)
        go_upto_region 11 with (fail)
        rw [← hw4]
        clear hw4 hb3 d0 d1 fd g0 g1 a0 a1 fa hle R6 C34
        have hle := R7.out.le
        obtain ⟨a0, a1, fa⟩ := R7.out.tb
        go_wp2_with fail
        refine (D31.out w9).mono ?_
        rintro x wa ⟨rfl, hb3⟩
        obtain ⟨d0, d1, fd⟩ := R7.out.tb.keep (hb3.block w.heap.size (by omega))
        have g0 := fd 0
        have g1 := fd 1
        obtain ⟨w8, hw4⟩ : ∃ w8, w8 = (wa.setCell ⟨w.heap.size, 0, none⟩ (.int .i64 yE.a)).setCell ⟨w.heap.size, 1, none⟩ (.int .i64 yE.e) := ⟨_, rfl⟩
        have R8 := Lib.hid (show RizS w yE ((List.range k).map (isV s z)) u6 w8 from by rw [hw4]; exact R7.out.step hb3 yE)
        go_upto_region 12 with (fail)
        rw [← hw4]
        clear hw4 hb3 d0 d1 fd g0 g1 a0 a1 fa hle R7 D31
        have hle := R8.out.le
        obtain ⟨cells, hown, hall⟩ := R8.out.ow
        have HAL := Lib.hid hall
        have hlen : ((List.range k).map (isV s z)).length = k := by rw [List.length_map, List.length_range]
        have HOL := Lib.hid hown.1
        have hown1 := hown.1
        rw [hlen] at hown1
        have HOW := Lib.hid hown1
        obtain ⟨A, c, rfl⟩ := own_form hown1
        have HLEN := Lib.hid hlen
        clear hown hall hown1 hlen
        have v1 : IntKind.u32.wrap ix = ix := by rw [IntKind.wrap_u32]; exact Int.emod_eq_of_lt hixb.1 (by omega)
        have v2 : IntKind.u32.wrap sq = sq := by rw [IntKind.wrap_u32]; exact Int.emod_eq_of_lt hsqb.1 (by omega)
        go_wp2_with (at_builtin; refine wpList_append_own _ rfl _ _ 23 rfl (w.heap.size + 2) 47 i43 _ 4 56 Try.underlying23 hi43 y0 y1 y2 rfl (by decide) _ _ _ rfl (HOW.out.alloc _) ⟨w8.heap.size, 0, none⟩ 1 1 [.string p, .int .u32 ix, .int .u32 sq, .slice none 0 0] rfl rfl (four_new _ _ _ _ _ _) (by intro u hu; simp at hu; rcases hu with rfl | rfl | rfl | rfl <;> rfl) (by unfold maxLen; omega) (by omega) (by simp; omega) ?_; intro v' wb hown' hgrow _; obtain ⟨A', c', rfl⟩ := own_form hown')
        go_roundg (n - (k + 1))
        case measure => omega
        case rel =>
          refine ⟨k + 1, by omega, by omega, by go_num, ?_⟩
          rw [EY.out.1, range_snoc, EY.out.2]
          exact Lib.hid (R8.out.more HOL.out HAL.out hgrow (by rw [HLEN.out]; exact hown'))
      · have he1 : (y.e == 0) = false := by simpa using he
        have HX := Lib.hid (show isSt s z = y ∧ (y.e = 0 → k = n) from ⟨by rw [EO.out.1, ← HY.out]; exact iter_oldI (by rw [HY.out]; exact he) n hk, fun h => absurd h he⟩)
        clear he
        obtain ⟨r0, r1, fr⟩ := HR.out.rb
        have f0 := fr 0
        have f1 := fr 1
        have HF := Lib.hid HR.out.done
        have HB := Lib.hid ((HR.out.bel.setCell (p := ⟨w.heap.size + 1, 0, none⟩) (by show w.heap.size ≤ w.heap.size + 1; omega) (.int .i64 y.a)).setCell (p := ⟨w.heap.size + 1, 1, none⟩) (by show w.heap.size ≤ w.heap.size + 1; omega) (.int .i64 y.e))
        go_wp2_with fail
        refine bodyPost_ret (v := .tuple #[.agg #[.int .i64 y.a, .int .i64 y.e], u6]) (by simp [results, Try.results32, go_sem, r0, r1]) rfl ?_
        rw [HX.out.1]
        exact ⟨u6, k, hk, HX.out.2, rfl, HF.out, HB.out⟩
    · have k1 : ¬ (k : Int) < (n : Int) := by omega
      have HX := Lib.hid (show isSt s z = y ∧ (y.e = 0 → k = n) from ⟨by rw [EO.out.1, ← HY.out]; rw [show k = n from by omega], fun _ => by omega⟩)
      obtain ⟨r0, r1, fr⟩ := HR.out.rb
      have f0 := fr 0
      have f1 := fr 1
      have HF := Lib.hid HR.out.done
      have HB := Lib.hid ((HR.out.bel.setCell (p := ⟨w.heap.size + 1, 0, none⟩) (by show w.heap.size ≤ w.heap.size + 1; omega) (.int .i64 y.a)).setCell (p := ⟨w.heap.size + 1, 1, none⟩) (by show w.heap.size ≤ w.heap.size + 1; omega) (.int .i64 y.e))
      go_wp2_with fail
      refine bodyPost_ret (v := .tuple #[.agg #[.int .i64 y.a, .int .i64 y.e], u6]) (by simp [results, Try.results32, go_sem, r0, r1]) rfl ?_
      rw [HX.out.1]
      exact ⟨u6, k, hk, HX.out.2, rfl, HF.out, HB.out⟩

end Go.Proofs.Ytkdkkndccjddnaa
