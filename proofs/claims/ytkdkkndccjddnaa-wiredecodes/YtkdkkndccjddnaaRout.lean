/-
  The document's reading: the Outs.
  The document's reading: the Outs, walked.
  The document's reading: the Ins.
  The document's reading: the Ins, walked.
-/
import Derived.Test.YtkdkkndccjddnaaRnum
import Derived.Test.YtkdkkndccjddnaaRdn
import Derived.Test.YtkdkkndccjddnaaCut

namespace Go.Proofs.Ytkdkkndccjddnaa
open Go.RowKit

theorem Two2.put {W : World} {b : Nat} {u v : Value} (h : Two2 W b u v) (x y : Value) : Two2 ((W.setCell ⟨b, 0, none⟩ x).setCell ⟨b, 1, none⟩ y) b x y :=
  ⟨(World.cell?_setCell_other _ _ _ _ (by simp)).trans (World.cell?_setCell_same _ _ _ h.1), World.cell?_setCell_same _ _ _ ((World.cell?_setCell_other _ _ _ _ (by simp)).trans h.2.1), fun o => (frozen_setCell _ _ _ _).trans ((frozen_setCell _ _ _ _).trans (h.2.2 o))⟩

/-- Where the document's outs stands: its state, its list. -/
structure RoS (w : World) (z : St) (ys : List OutD) (v : Value) (wr : World) : Prop where
  tb : Two2 wr w.heap.size (.int .i64 z.a) (.int .i64 z.e)
  rb : Two2 wr (w.heap.size + 1) (.int .i64 0) (.int .i64 0)
  ow : OutsOwn wr (w.heap.size + 2) wr.heap.size v ys
  le : w.heap.size + 2 ≤ wr.heap.size
  bel : Below w.heap.size w wr
theorem RoS.step {w : World} {z : St} {ys : List OutD} {v : Value} {wr wx : World} (h : RoS w z ys v wr) (hb : Below wr.heap.size wr wx) (z' : St) : RoS w z' ys v ((wx.setCell ⟨w.heap.size, 0, none⟩ (.int .i64 z'.a)).setCell ⟨w.heap.size, 1, none⟩ (.int .i64 z'.e)) := by
  have hl := h.le
  have hs := hb.size
  refine ⟨(h.tb.keep (hb.block _ (by omega))).put _ _, (h.rb.keep (hb.block _ (by omega))).keep ?_, ?_, ?_, ((below_next h.bel (by omega) hb).setCell (Nat.le_refl _) _).setCell (Nat.le_refl _) _⟩
  · exact (Below.heap_setCell _ _ _ _ (by show w.heap.size + 1 ≠ w.heap.size; omega)).trans (Below.heap_setCell _ _ _ _ (by show w.heap.size + 1 ≠ w.heap.size; omega))
  · refine h.ow.keep ((StayE.of_below hb (Nat.le_refl _)).trans ((StayE.setCell (.inl (by show w.heap.size < w.heap.size + 2; omega)) _).trans (StayE.setCell (.inl (by show w.heap.size < w.heap.size + 2; omega)) _))) ?_
    rw [World.size_setCell, World.size_setCell]
    exact hs
  · rw [World.size_setCell, World.size_setCell]
    omega

theorem ouSt_old {s : ByteArray} {z : St} (he : ¬ z.e = 0) : ouSt s z = z := by
  have h1 : ouA s z = z := by unfold ouA numSt; rw [numE_old he, if_neg he]
  have h2 : cntSt s 0 40 20 (ouA s z) = z := by rw [h1]; unfold cntSt; rw [cntE_old he, if_neg he]
  unfold ouSt
  rw [h2]
  unfold bytSt
  rw [bytE_old he, if_neg he]
theorem iter_old {s : ByteArray} {z : St} {k : Nat} (he : ¬ (iter (ouSt s) k z).e = 0) : ∀ n, k ≤ n → iter (ouSt s) n z = iter (ouSt s) k z := by
  intro n
  induction n with
  | zero => intro h; have : k = 0 := by omega
            subst this; rfl
  | succ m ih =>
    intro h
    rcases Nat.lt_or_ge m k with h1 | h1
    · have : k = m + 1 := by omega
      subst this; rfl
    · show ouSt s (iter (ouSt s) m z) = _
      rw [ih h1, ouSt_old he]

theorem numSt_in {s : ByteArray} {z : St} (k : Nat) (lo hi out : Int) (h : z.a ≤ s.size) : (numSt s k lo hi out z).a ≤ s.size := by
  unfold numSt
  by_cases hX : numE s z.a z.e k lo hi out = 0
  · simp only [if_pos hX]
    have := okB_le (numE_ok hX)
    omega
  · simp only [if_neg hX]
    exact h
theorem cntSt_in {s : ByteArray} {z : St} (lo hi out : Int) (h : z.a ≤ s.size) : (cntSt s lo hi out z).a ≤ s.size := by
  unfold cntSt
  by_cases hX : cntE s z.a z.e lo hi out = 0
  · simp only [if_pos hX]
    have := gotT_le h (cntE_ok hX)
    omega
  · simp only [if_neg hX]
    exact h
theorem bytSt_in {s : ByteArray} {z : St} (n : Nat) (h : z.a ≤ s.size) : (bytSt s n z).a ≤ s.size := by
  unfold bytSt
  by_cases hX : bytE s z.a z.e n = 0
  · simp only [if_pos hX]
    unfold bytE at hX
    split at hX
    · exact absurd hX (refD_no (by omega))
    · omega
  · simp only [if_neg hX]
    exact h
theorem ouSt_in {s : ByteArray} {z : St} (h : z.a ≤ s.size) : (ouSt s z).a ≤ s.size := bytSt_in _ (cntSt_in _ _ _ (numSt_in _ _ _ _ h))
theorem iter_in {s : ByteArray} {z : St} {f : St → St} (hf : ∀ y : St, y.a ≤ s.size → (f y).a ≤ s.size) (h : z.a ≤ s.size) : ∀ k, (iter f k z).a ≤ s.size
  | 0 => h
  | k + 1 => hf _ (iter_in hf h k)

theorem RoS.more {w wr w1 : World} {z : St} {ys : List OutD} {v v' : Value} {cells : List Value} {x : OutD} {o : Obj} (h : RoS w z ys v wr)
    (hown : wr.ownsRow (w.heap.size + 2) 51 2 v ys.length cells) (hall : ∀ (j : Nat) (y : OutD), ys[j]? = some y → cells[j * 2]? = some (.int .i64 y.val) ∧ cells[j * 2 + 1]? = some (.string y.scr))
    (hgrow : (wr.alloc o).grownBy w1 v.ownBlock) (hown' : w1.ownsRow (w.heap.size + 2) 51 2 v' (ys.length + 1) (cells ++ [.int .i64 x.val, .string x.scr])) : RoS w z (ys ++ [x]) v' w1 := by
  have hle := h.le
  have hbl : Below (w.heap.size + 2) wr w1 := ((Below.refl (w.heap.size + 2) wr).alloc hle o).grown hgrow (by simp; omega) (own_block hown)
  have hs := hbl.size
  exact ⟨h.tb.keep (hbl.block _ (by omega)), h.rb.keep (hbl.block _ (by omega)), OutsOwn.push hown.1 hall hown', by omega, ⟨hbl.os.trans h.bel.os, hbl.tape.trans h.bel.tape, hbl.output.trans h.bel.output, Nat.le_trans h.bel.size hbl.size, fun c hc => (hbl.block c (by omega)).trans (h.bel.block c hc)⟩⟩

end Go.Proofs.Ytkdkkndccjddnaa

namespace Go.Proofs.Ytkdkkndccjddnaa
open Go.RowKit

theorem getN_pos (s : ByteArray) (a k : Int) : 0 ≤ Vi.getN s a k := by
  unfold Vi.getN
  split
  · exact (Vi.num_bd _ (Vi.part_bd s a.toNat k.toNat)).1
  · exact Int.le_refl _
theorem range_snoc {α : Type} (f : Nat → α) (k : Nat) : (List.range (k + 1)).map f = (List.range k).map f ++ [f k] := by
  rw [List.range_succ, List.map_append]
  rfl

theorem RoS.done {w wr : World} {y : St} {ys : List OutD} {v : Value} (h : RoS w y ys v wr) : OutsOwn ((wr.setCell ⟨w.heap.size + 1, 0, none⟩ (.int .i64 y.a)).setCell ⟨w.heap.size + 1, 1, none⟩ (.int .i64 y.e)) (w.heap.size + 2) ((wr.setCell ⟨w.heap.size + 1, 0, none⟩ (.int .i64 y.a)).setCell ⟨w.heap.size + 1, 1, none⟩ (.int .i64 y.e)).heap.size v ys := by
  refine h.ow.keep ((StayE.setCell (.inl (by show w.heap.size + 1 < w.heap.size + 2; omega)) _).trans (StayE.setCell (.inl (by show w.heap.size + 1 < w.heap.size + 2; omega)) _)) ?_
  rw [World.size_setCell, World.size_setCell]
  exact Nat.le_refl _

set_option maxHeartbeats 4000000 in
set_option maxRecDepth 100000 in
theorem routs_st (s : ByteArray) (z : St) (w : World) (hs : s.size ≤ 140737488355328) (hz : z.a ≤ s.size) :
    Calls Try.prog 33 #[.string s, .agg #[.int .i64 z.a, .int .i64 z.e]] w fun x w' => ∃ (v : Value) (k : Nat), k ≤ osN s z ∧ ((osSt s z).e = 0 → k = osN s z) ∧ x = .returned (.tuple #[.agg #[.int .i64 (osSt s z).a, .int .i64 (osSt s z).e], v]) ∧
      OutsOwn w' (w.heap.size + 2) w'.heap.size v ((List.range k).map (osV s z)) ∧ Below w.heap.size w w' := by
  obtain ⟨i52, hi52, y0, y1, y2⟩ := info_parts info52
  obtain ⟨W, hW⟩ : ∃ W, W = (w.alloc (.cells #[.int .i64 z.a, .int .i64 z.e] 69)).alloc (.cells #[.int .i64 0, .int .i64 0] 69) := ⟨_, rfl⟩
  have hws : W.heap.size = w.heap.size + 2 := by rw [hW]; simp
  have R0 := Lib.hid (show RoS w z [] (.slice none 0 0) W from by
    refine ⟨?_, ?_, OutsOwn.nil _ _ _, by omega, ?_⟩
    · rw [hW]; exact (Two2.new w _ _ 69).keep (Below.heap_alloc _ _ _ (by simp))
    · have q := Two2.new (w.alloc (.cells #[.int .i64 z.a, .int .i64 z.e] 69)) (.int .i64 0) (.int .i64 0) 69
      rw [World.size_alloc] at q
      rw [hW]
      exact q
    · rw [hW]; exact ((Below.refl _ _).alloc (Nat.le_refl _) _).alloc (by simp) _)
  have HW := Lib.hid hW
  have HSZ := Lib.hid hs
  have C34 := Lib.hid (rcount_st s z 1 256 6 W hs hz (by omega) (by omega) (by omega))
  obtain ⟨z1, hz1⟩ : ∃ z1, cntSt s 1 256 6 z = z1 := ⟨_, rfl⟩
  have hv := cntV_in (s := s) (z := z) (lo := 1) (hi := 256) (out := 6) (by omega) (by omega) (by omega)
  obtain ⟨n, hn⟩ : ∃ n : Nat, osN s z = n := ⟨_, rfl⟩
  have hcn : cntV s 1 256 6 z = (n : Int) := by rw [← hn]; unfold osN; omega
  have hn256 : n ≤ 256 := by omega
  rw [hcn, hz1] at C34
  have HZ1 := Lib.hid (show z1.a ≤ s.size from by rw [← hz1]; exact cntSt_in _ _ _ hz)
  have HIT := Lib.hid (fun k => iter_in (s := s) (z := z1) (f := ouSt s) (fun y hy => ouSt_in hy) HZ1.out k)
  have EO := Lib.hid (show osSt s z = iter (ouSt s) n z1 ∧ ∀ j, osV s z j = ouV s (iter (ouSt s) j z1) from by
    refine ⟨?_, fun j => ?_⟩
    · unfold osSt; rw [hn, hz1]
    · unfold osV; rw [hz1])
  rw [hn]
  clear hW hs hz hv hcn hn hz1 hws
  go_enter Try.func33, Try.ntmps33
  go_upto_region 1 with (fail)
  rw [show World.alloc (World.alloc w _) _ = W from HW.out.symm]
  obtain ⟨a0, a1, fa⟩ := R0.out.tb
  go_wp2_with fail
  refine C34.out.mono ?_
  rintro x w1 ⟨rfl, hb1⟩
  obtain ⟨d0, d1, fd⟩ := R0.out.tb.keep (hb1.block w.heap.size (by have := R0.out.le; omega))
  have g0 := fd 0
  have g1 := fd 1
  obtain ⟨w2, hw2⟩ : ∃ w2, w2 = (w1.setCell ⟨w.heap.size, 0, none⟩ (.int .i64 z1.a)).setCell ⟨w.heap.size, 1, none⟩ (.int .i64 z1.e) := ⟨_, rfl⟩
  have R1 := Lib.hid (show RoS w z1 [] (.slice none 0 0) w2 from by rw [hw2]; exact R0.out.step hb1 z1)
  go_upto_region 3 with (fail)
  rw [← hw2]
  clear hw2 hb1 d0 d1 fd g0 g1 a0 a1 fa R0 C34 HW
  go_wp2_with fail
  go_loopg [6, 8, 9, 10, 11] n (fun gg l i _ _ _ wr => ∃ (k : Nat), k ≤ n ∧ n - k ≤ gg ∧ i = .int .i64 k ∧ Hid (RoS w (iter (ouSt s) k z1) ((List.range k).map (osV s z)) l wr))
  case atStart => exact ⟨0, Nat.zero_le _, by omega, rfl, R1⟩
  case round =>
    obtain ⟨k, hk, hgk, rfl, HR⟩ := hrel
    obtain ⟨y, hy⟩ : ∃ y, iter (ouSt s) k z1 = y := ⟨_, rfl⟩
    have HYI := Lib.hid (show y.a ≤ s.size from by rw [← hy]; exact HIT.out k)
    rw [hy] at HR
    have HY := Lib.hid hy
    clear hy R1
    have hle := HR.out.le
    obtain ⟨a0, a1, fa⟩ := HR.out.tb
    by_cases hkn : k < n
    · have k1 : (k : Int) < (n : Int) := by omega
      by_cases he : y.e = 0
      · have he1 : (y.e == 0) = true := by simpa using he
        have C31 := Lib.hid (show Calls Try.prog 31 #[.string s, .agg #[.int .i64 y.a, .int .i64 y.e], .int .i64 8, .int .u64 2100000000000000, .int .i64 3] wr (DcGives wr (.int .u64 (numV s 8 0 2100000000000000 3 y)) (ouA s y)) from rnumber_st s y 8 2100000000000000 3 wr HSZ.out HYI.out (by omega) (by omega) (by omega) (getN_pos _ _ _))
        obtain ⟨nv, hnv⟩ : ∃ nv, numV s 8 0 2100000000000000 3 y = nv := ⟨_, rfl⟩
        have hnb := numV_in (s := s) (k := 8) (lo := 0) (hi := 2100000000000000) (out := 3) (z := y) (by omega) (by omega) (by omega)
        rw [hnv] at C31 hnb
        obtain ⟨yA, hyA⟩ : ∃ yA, ouA s y = yA := ⟨_, rfl⟩
        rw [hyA] at C31
        have HA := Lib.hid (show yA.a ≤ s.size from by rw [← hyA]; exact numSt_in _ _ _ _ HYI.out)
        obtain ⟨yC, hyC⟩ : ∃ yC, cntSt s 0 40 20 yA = yC := ⟨_, rfl⟩
        have HC := Lib.hid (show yC.a ≤ s.size from by rw [← hyC]; exact cntSt_in _ _ _ HA.out)
        obtain ⟨m, hm⟩ : ∃ m, ouN s y = m := ⟨_, rfl⟩
        have hcm := cntV_in (s := s) (z := yA) (lo := 0) (hi := 40) (out := 20) (by omega) (by omega) (by omega)
        have hcv : cntV s 0 40 20 yA = (m : Int) := by rw [← hm]; unfold ouN; rw [hyA]; omega
        have hm40 : m ≤ 40 := by omega
        obtain ⟨p, hp⟩ : ∃ p, bytV s m yC = p := ⟨_, rfl⟩
        have hps : p.size ≤ 40 := by
          rw [← hp]
          unfold bytV bytS
          split
          · rw [ByteArray.size_extract]; omega
          · exact Nat.zero_le _
        obtain ⟨yE, hyE⟩ : ∃ yE, bytSt s m yC = yE := ⟨_, rfl⟩
        have EY := Lib.hid (show iter (ouSt s) (k + 1) z1 = yE ∧ osV s z k = ⟨nv, p⟩ from by
          refine ⟨?_, ?_⟩
          · show ouSt s (iter (ouSt s) k z1) = yE
            rw [HY.out]
            unfold ouSt
            rw [hm, hyA, hyC, hyE]
          · rw [EO.out.2 k, HY.out]
            unfold ouV
            rw [hnv, hm, hyA, hyC, hp])
        clear hnv hyA hm hcm he
        go_wp2_with fail
        refine C31.out.mono ?_
        rintro x w3 ⟨rfl, hb3⟩
        obtain ⟨d0, d1, fd⟩ := HR.out.tb.keep (hb3.block w.heap.size (by omega))
        have g0 := fd 0
        have g1 := fd 1
        obtain ⟨w4, hw4⟩ : ∃ w4, w4 = (w3.setCell ⟨w.heap.size, 0, none⟩ (.int .i64 yA.a)).setCell ⟨w.heap.size, 1, none⟩ (.int .i64 yA.e) := ⟨_, rfl⟩
        have R4 := Lib.hid (show RoS w yA ((List.range k).map (osV s z)) u6 w4 from by rw [hw4]; exact HR.out.step hb3 yA)
        go_upto_region 10 with (fail)
        rw [← hw4]
        clear hw4 hb3 d0 d1 fd g0 g1 a0 a1 fa hle C31
        have C34 := Lib.hid (rcount_st s yA 0 40 20 w4 HSZ.out HA.out (by omega) (by omega) (by omega))
        rw [hcv, hyC] at C34
        have hle := R4.out.le
        obtain ⟨a0, a1, fa⟩ := R4.out.tb
        go_wp2_with fail
        refine C34.out.mono ?_
        rintro x w5 ⟨rfl, hb5⟩
        obtain ⟨d0, d1, fd⟩ := R4.out.tb.keep (hb5.block w.heap.size (by omega))
        have g0 := fd 0
        have g1 := fd 1
        obtain ⟨w6, hw6⟩ : ∃ w6, w6 = (w5.setCell ⟨w.heap.size, 0, none⟩ (.int .i64 yC.a)).setCell ⟨w.heap.size, 1, none⟩ (.int .i64 yC.e) := ⟨_, rfl⟩
        have R6 := Lib.hid (show RoS w yC ((List.range k).map (osV s z)) u6 w6 from by rw [hw6]; exact R4.out.step hb5 yC)
        go_upto_region 11 with (fail)
        rw [← hw6]
        clear hw6 hb5 d0 d1 fd g0 g1 a0 a1 fa hle C34 R4
        have C35 := Lib.hid (rtext_st s yC m w6 HSZ.out HC.out (by omega))
        rw [hp, hyE] at C35
        have hle := R6.out.le
        obtain ⟨a0, a1, fa⟩ := R6.out.tb
        go_wp2_with fail
        refine C35.out.mono ?_
        rintro x w7 ⟨rfl, hb7⟩
        obtain ⟨d0, d1, fd⟩ := R6.out.tb.keep (hb7.block w.heap.size (by omega))
        have g0 := fd 0
        have g1 := fd 1
        obtain ⟨w8, hw8⟩ : ∃ w8, w8 = (w7.setCell ⟨w.heap.size, 0, none⟩ (.int .i64 yE.a)).setCell ⟨w.heap.size, 1, none⟩ (.int .i64 yE.e) := ⟨_, rfl⟩
        have R8 := Lib.hid (show RoS w yE ((List.range k).map (osV s z)) u6 w8 from by rw [hw8]; exact R6.out.step hb7 yE)
        go_upto_region 12 with (fail)
        rw [← hw8]
        clear hw8 hb7 d0 d1 fd g0 g1 a0 a1 fa hle C35 R6 HR hyC hyE hp
        have hle := R8.out.le
        obtain ⟨cells, hown, hall⟩ := R8.out.ow
        have HAL := Lib.hid hall
        have hlen : ((List.range k).map (osV s z)).length = k := by rw [List.length_map, List.length_range]
        have HOL := Lib.hid hown.1
        have hown1 := hown.1
        rw [hlen] at hown1
        have HOW := Lib.hid hown1
        obtain ⟨A, c, rfl⟩ := own_form hown1
        have HLEN := Lib.hid hlen
        clear hown hall hown1 hlen
        have vn : IntKind.i64.wrap nv = nv := IntWalk.i64_in _ (by omega)
        go_wp2_with (at_builtin; refine wpList_append_own _ rfl _ _ 24 rfl (w.heap.size + 2) 51 i52 _ 2 24 Try.underlying24 hi52 y0 y1 y2 rfl (by decide) _ _ _ rfl (HOW.out.alloc _) ⟨w8.heap.size, 0, none⟩ 1 1 [.int .i64 nv, .string p] rfl rfl (two_new' _ _ _ _ _ rfl) (by intro u hu; simp at hu; rcases hu with rfl | rfl <;> rfl) (by unfold maxLen; omega) (by omega) (by simp; omega) ?_; intro v' w9 hown' hgrow _; obtain ⟨A', c', rfl⟩ := own_form hown')
        go_roundg (n - (k + 1))
        case measure => omega
        case rel =>
          refine ⟨k + 1, by omega, by omega, by go_num, ?_⟩
          rw [EY.out.1, range_snoc, EY.out.2]
          exact Lib.hid (R8.out.more HOL.out HAL.out hgrow (by rw [HLEN.out]; exact hown'))
      · have he1 : (y.e == 0) = false := by simpa using he
        have HX := Lib.hid (show osSt s z = y ∧ (y.e = 0 → k = n) from ⟨by rw [EO.out.1, ← HY.out]; exact iter_old (by rw [HY.out]; exact he) n hk, fun h => absurd h he⟩)
        clear he
        obtain ⟨r0, r1, fr⟩ := HR.out.rb
        have f0 := fr 0
        have f1 := fr 1
        have HF := Lib.hid HR.out.done
        have HB := Lib.hid ((HR.out.bel.setCell (p := ⟨w.heap.size + 1, 0, none⟩) (by show w.heap.size ≤ w.heap.size + 1; omega) (.int .i64 y.a)).setCell (p := ⟨w.heap.size + 1, 1, none⟩) (by show w.heap.size ≤ w.heap.size + 1; omega) (.int .i64 y.e))
        go_wp2_with fail
        refine bodyPost_ret (v := .tuple #[.agg #[.int .i64 y.a, .int .i64 y.e], u6]) (by simp [results, Try.results33, go_sem, r0, r1]) rfl ?_
        rw [HX.out.1]
        exact ⟨u6, k, hk, HX.out.2, rfl, HF.out, HB.out⟩
    · have k1 : ¬ (k : Int) < (n : Int) := by omega
      have HX := Lib.hid (show osSt s z = y ∧ (y.e = 0 → k = n) from ⟨by rw [EO.out.1, ← HY.out]; rw [show k = n from by omega], fun _ => by omega⟩)
      obtain ⟨r0, r1, fr⟩ := HR.out.rb
      have f0 := fr 0
      have f1 := fr 1
      have HF := Lib.hid HR.out.done
      have HB := Lib.hid ((HR.out.bel.setCell (p := ⟨w.heap.size + 1, 0, none⟩) (by show w.heap.size ≤ w.heap.size + 1; omega) (.int .i64 y.a)).setCell (p := ⟨w.heap.size + 1, 1, none⟩) (by show w.heap.size ≤ w.heap.size + 1; omega) (.int .i64 y.e))
      go_wp2_with fail
      refine bodyPost_ret (v := .tuple #[.agg #[.int .i64 y.a, .int .i64 y.e], u6]) (by simp [results, Try.results33, go_sem, r0, r1]) rfl ?_
      rw [HX.out.1]
      exact ⟨u6, k, hk, HX.out.2, rfl, HF.out, HB.out⟩

end Go.Proofs.Ytkdkkndccjddnaa

namespace Go.Proofs.Ytkdkkndccjddnaa
open Go.RowKit

/-- Where the document's ins stands: its state, its list. -/
structure RiS (w : World) (z : St) (ys : List InD) (v : Value) (wr : World) : Prop where
  tb : Two2 wr w.heap.size (.int .i64 z.a) (.int .i64 z.e)
  rb : Two2 wr (w.heap.size + 1) (.int .i64 0) (.int .i64 0)
  ow : InsOwn wr (w.heap.size + 2) wr.heap.size v ys
  le : w.heap.size + 2 ≤ wr.heap.size
  bel : Below w.heap.size w wr
theorem RiS.step {w : World} {z : St} {ys : List InD} {v : Value} {wr wx : World} (h : RiS w z ys v wr) (hb : Below wr.heap.size wr wx) (z' : St) : RiS w z' ys v ((wx.setCell ⟨w.heap.size, 0, none⟩ (.int .i64 z'.a)).setCell ⟨w.heap.size, 1, none⟩ (.int .i64 z'.e)) := by
  have hl := h.le
  have hs := hb.size
  have st : ∀ e, StayE (w.heap.size + 2) wr.heap.size e wr ((wx.setCell ⟨w.heap.size, 0, none⟩ (.int .i64 z'.a)).setCell ⟨w.heap.size, 1, none⟩ (.int .i64 z'.e)) := fun e => (StayE.of_below hb (Nat.le_refl _)).trans ((StayE.setCell (.inl (by show w.heap.size < w.heap.size + 2; omega)) _).trans (StayE.setCell (.inl (by show w.heap.size < w.heap.size + 2; omega)) _))
  refine ⟨(h.tb.keep (hb.block _ (by omega))).put _ _, (h.rb.keep (hb.block _ (by omega))).keep ?_, ?_, ?_, ((below_next h.bel (by omega) hb).setCell (Nat.le_refl _) _).setCell (Nat.le_refl _) _⟩
  · exact (Below.heap_setCell _ _ _ _ (by show w.heap.size + 1 ≠ w.heap.size; omega)).trans (Below.heap_setCell _ _ _ _ (by show w.heap.size + 1 ≠ w.heap.size; omega))
  · refine h.ow.keep (st 47) (st 9) ?_
    rw [World.size_setCell, World.size_setCell]
    exact hs
  · rw [World.size_setCell, World.size_setCell]
    omega
theorem RiS.done {w wr : World} {y : St} {ys : List InD} {v : Value} (h : RiS w y ys v wr) : InsOwn ((wr.setCell ⟨w.heap.size + 1, 0, none⟩ (.int .i64 y.a)).setCell ⟨w.heap.size + 1, 1, none⟩ (.int .i64 y.e)) (w.heap.size + 2) ((wr.setCell ⟨w.heap.size + 1, 0, none⟩ (.int .i64 y.a)).setCell ⟨w.heap.size + 1, 1, none⟩ (.int .i64 y.e)).heap.size v ys := by
  have st : ∀ e, StayE (w.heap.size + 2) wr.heap.size e wr ((wr.setCell ⟨w.heap.size + 1, 0, none⟩ (.int .i64 y.a)).setCell ⟨w.heap.size + 1, 1, none⟩ (.int .i64 y.e)) := fun e => (StayE.setCell (.inl (by show w.heap.size + 1 < w.heap.size + 2; omega)) _).trans (StayE.setCell (.inl (by show w.heap.size + 1 < w.heap.size + 2; omega)) _)
  refine h.ow.keep (st 47) (st 9) ?_
  rw [World.size_setCell, World.size_setCell]
  exact Nat.le_refl _
theorem RiS.more {w wr w1 : World} {z : St} {ys : List InD} {v v' : Value} {cells : List Value} {id : ByteArray} {ix sq : Int} {o : Obj} (h : RiS w z ys v wr)
    (hown : wr.ownsRow (w.heap.size + 2) 47 4 v ys.length cells) (hall : ∀ (j : Nat) (x : InD), ys[j]? = some x → cells[j * 4]? = some (.string x.id) ∧ cells[j * 4 + 1]? = some (.int .u32 x.ix) ∧ cells[j * 4 + 2]? = some (.int .u32 x.sq) ∧ ∃ u, cells[j * 4 + 3]? = some u ∧ StrOwn wr (w.heap.size + 2) wr.heap.size u x.wit)
    (hgrow : (wr.alloc o).grownBy w1 v.ownBlock) (hown' : w1.ownsRow (w.heap.size + 2) 47 4 v' (ys.length + 1) (cells ++ [.string id, .int .u32 ix, .int .u32 sq, .slice none 0 0])) : RiS w z (ys ++ [⟨id, ix, sq, []⟩]) v' w1 := by
  have hle := h.le
  have hbl : Below (w.heap.size + 2) wr w1 := ((Below.refl (w.heap.size + 2) wr).alloc hle o).grown hgrow (by simp; omega) (own_block hown)
  have hs := hbl.size
  have hin : InsOwn w1 (w.heap.size + 2) w1.heap.size v' (ys ++ [⟨id, ix, sq, []⟩]) := by
    refine InsOwn.push (x := ⟨id, ix, sq, []⟩) (u := .slice none 0 0) (hown.alloc o) ?_ ⟨World.ownsRow_nil _ _ 9 1, fun g h => by simp [Value.ownBlock] at h⟩ hgrow hown'
    intro j x hx
    obtain ⟨c0, c1, c2, u, c3, hu⟩ := hall j x hx
    exact ⟨c0, c1, c2, u, c3, OwnAt.keep hu (StayE.alloc o (Nat.le_refl _)) (by simp)⟩
  exact ⟨h.tb.keep (hbl.block _ (by omega)), h.rb.keep (hbl.block _ (by omega)), hin, by omega, ⟨hbl.os.trans h.bel.os, hbl.tape.trans h.bel.tape, hbl.output.trans h.bel.output, Nat.le_trans h.bel.size hbl.size, fun c hc => (hbl.block c (by omega)).trans (h.bel.block c hc)⟩⟩

theorem numE_word (s : ByteArray) (a e : Int) : numE s a e 4 0 4294967295 3 = numE s a e 4 0 4294967295 0 := by
  have h := getN_four s a
  have hn : ¬ (Vi.getN s a 4 < 0 ∨ 4294967295 < Vi.getN s a 4) := by omega
  unfold numE spanE
  rw [if_neg hn, if_neg hn]
theorem wd_three (s : ByteArray) (z : St) : numSt s 4 0 4294967295 3 z = wdSt s z ∧ numV s 4 0 4294967295 3 z = wdV s z := by
  have h := numE_word s z.a z.e
  refine ⟨?_, ?_⟩
  · show St.mk (if numE s z.a z.e 4 0 4294967295 3 = 0 then _ else _) (numE s z.a z.e 4 0 4294967295 3) = St.mk (if numE s z.a z.e 4 0 4294967295 0 = 0 then _ else _) (numE s z.a z.e 4 0 4294967295 0)
    rw [h]
  · show okN (numE s z.a z.e 4 0 4294967295 3) _ = okN (numE s z.a z.e 4 0 4294967295 0) _
    rw [h]
theorem rword_st (s : ByteArray) (z : St) (w : World) (hs : s.size ≤ 140737488355328) (hz : z.a ≤ s.size) :
    Calls Try.prog 31 #[.string s, .agg #[.int .i64 z.a, .int .i64 z.e], .int .i64 4, .int .u64 4294967295, .int .i64 3] w (DcGives w (.int .u64 (wdV s z)) (wdSt s z)) := by
  have q : Calls Try.prog 31 #[.string s, .agg #[.int .i64 z.a, .int .i64 z.e], .int .i64 4, .int .u64 4294967295, .int .i64 3] w (DcGives w (.int .u64 (numV s 4 0 4294967295 3 z)) (numSt s 4 0 4294967295 3 z)) := rnumber_st s z 4 4294967295 3 w hs hz (by omega) (by omega) (by omega) (getN_pos _ _ _)
  rw [(wd_three s z).1, (wd_three s z).2] at q
  exact q

theorem wdSt_old {s : ByteArray} {z : St} (he : ¬ z.e = 0) : wdSt s z = z := by unfold wdSt numSt; rw [numE_old he, if_neg he]
theorem inSt_old {s : ByteArray} {z : St} (he : ¬ z.e = 0) : inSt s z = z := by
  have h1 : inA s z = z := by unfold inA bytSt; rw [bytE_old he, if_neg he]
  have h2 : inB' s z = z := by unfold inB'; rw [h1, wdSt_old he]
  have h3 : inC s z = z := by unfold inC; rw [h2]; unfold cntSt; rw [cntE_old he, if_neg he]
  unfold inSt
  rw [h3, wdSt_old he]
theorem iter_oldI {s : ByteArray} {z : St} {k : Nat} (he : ¬ (iter (inSt s) k z).e = 0) : ∀ n, k ≤ n → iter (inSt s) n z = iter (inSt s) k z := by
  intro n
  induction n with
  | zero => intro h; have : k = 0 := by omega
            subst this; rfl
  | succ m ih =>
    intro h
    rcases Nat.lt_or_ge m k with h1 | h1
    · have : k = m + 1 := by omega
      subst this; rfl
    · show inSt s (iter (inSt s) m z) = _
      rw [ih h1, inSt_old he]
theorem inSt_in {s : ByteArray} {z : St} (h : z.a ≤ s.size) : (inSt s z).a ≤ s.size := numSt_in _ _ _ _ (cntSt_in _ _ _ (numSt_in _ _ _ _ (bytSt_in _ h)))

end Go.Proofs.Ytkdkkndccjddnaa

namespace Go.Proofs.Ytkdkkndccjddnaa
open Go.RowKit

set_option maxHeartbeats 4000000 in
set_option maxRecDepth 100000 in
theorem rins_st (s : ByteArray) (z : St) (w : World) (hs : s.size ≤ 140737488355328) (hz : z.a ≤ s.size) :
    Calls Try.prog 32 #[.string s, .agg #[.int .i64 z.a, .int .i64 z.e]] w fun x w' => ∃ (v : Value) (k : Nat), k ≤ isN s z ∧ ((isSt s z).e = 0 → k = isN s z) ∧ x = .returned (.tuple #[.agg #[.int .i64 (isSt s z).a, .int .i64 (isSt s z).e], v]) ∧
      InsOwn w' (w.heap.size + 2) w'.heap.size v ((List.range k).map (isV s z)) ∧ Below w.heap.size w w' := by
  obtain ⟨i43, hi43, y0, y1, y2⟩ := info_parts info43
  obtain ⟨W, hW⟩ : ∃ W, W = (w.alloc (.cells #[.int .i64 z.a, .int .i64 z.e] 69)).alloc (.cells #[.int .i64 0, .int .i64 0] 69) := ⟨_, rfl⟩
  have hws : W.heap.size = w.heap.size + 2 := by rw [hW]; simp
  have R0 := Lib.hid (show RiS w z [] (.slice none 0 0) W from by
    refine ⟨?_, ?_, InsOwn.nil _ _ _, by omega, ?_⟩
    · rw [hW]; exact (Two2.new w _ _ 69).keep (Below.heap_alloc _ _ _ (by simp))
    · have q := Two2.new (w.alloc (.cells #[.int .i64 z.a, .int .i64 z.e] 69)) (.int .i64 0) (.int .i64 0) 69
      rw [World.size_alloc] at q
      rw [hW]
      exact q
    · rw [hW]; exact ((Below.refl _ _).alloc (Nat.le_refl _) _).alloc (by simp) _)
  have HW := Lib.hid hW
  have HSZ := Lib.hid hs
  have C34 := Lib.hid (rcount_st s z 1 256 6 W hs hz (by omega) (by omega) (by omega))
  obtain ⟨z1, hz1⟩ : ∃ z1, cntSt s 1 256 6 z = z1 := ⟨_, rfl⟩
  have hv := cntV_in (s := s) (z := z) (lo := 1) (hi := 256) (out := 6) (by omega) (by omega) (by omega)
  obtain ⟨n, hn⟩ : ∃ n : Nat, isN s z = n := ⟨_, rfl⟩
  have hcn : cntV s 1 256 6 z = (n : Int) := by rw [← hn]; unfold isN; omega
  have hn256 : n ≤ 256 := by omega
  rw [hcn, hz1] at C34
  have HZ1 := Lib.hid (show z1.a ≤ s.size from by rw [← hz1]; exact cntSt_in _ _ _ hz)
  have HIT := Lib.hid (fun k => iter_in (s := s) (z := z1) (f := inSt s) (fun y hy => inSt_in hy) HZ1.out k)
  have EO := Lib.hid (show isSt s z = iter (inSt s) n z1 ∧ ∀ j, isV s z j = inV s (iter (inSt s) j z1) from by
    refine ⟨?_, fun j => ?_⟩
    · unfold isSt; rw [hn, hz1]
    · unfold isV; rw [hz1])
  rw [hn]
  clear hW hs hz hv hcn hn hz1 hws
  go_enter Try.func32, Try.ntmps32
  go_upto_region 1 with (fail)
  rw [show World.alloc (World.alloc w _) _ = W from HW.out.symm]
  obtain ⟨a0, a1, fa⟩ := R0.out.tb
  go_wp2_with fail
  refine C34.out.mono ?_
  rintro x w1 ⟨rfl, hb1⟩
  obtain ⟨d0, d1, fd⟩ := R0.out.tb.keep (hb1.block w.heap.size (by have := R0.out.le; omega))
  have g0 := fd 0
  have g1 := fd 1
  obtain ⟨w2, hw2⟩ : ∃ w2, w2 = (w1.setCell ⟨w.heap.size, 0, none⟩ (.int .i64 z1.a)).setCell ⟨w.heap.size, 1, none⟩ (.int .i64 z1.e) := ⟨_, rfl⟩
  have R1 := Lib.hid (show RiS w z1 [] (.slice none 0 0) w2 from by rw [hw2]; exact R0.out.step hb1 z1)
  go_upto_region 3 with (fail)
  rw [← hw2]
  clear hw2 hb1 d0 d1 fd g0 g1 a0 a1 fa R0 C34 HW
  go_wp2_with fail
  go_loopg [6, 8, 9, 10, 11] n (fun gg l i _ _ _ wr => ∃ (k : Nat), k ≤ n ∧ n - k ≤ gg ∧ i = .int .i64 k ∧ Hid (RiS w (iter (inSt s) k z1) ((List.range k).map (isV s z)) l wr))
  case atStart => exact ⟨0, Nat.zero_le _, by omega, rfl, R1⟩
  case round =>
    obtain ⟨k, hk, hgk, rfl, HR⟩ := hrel
    obtain ⟨y, hy⟩ : ∃ y, iter (inSt s) k z1 = y := ⟨_, rfl⟩
    have HYI := Lib.hid (show y.a ≤ s.size from by rw [← hy]; exact HIT.out k)
    rw [hy] at HR
    have HY := Lib.hid hy
    clear hy R1
    have hle := HR.out.le
    obtain ⟨a0, a1, fa⟩ := HR.out.tb
    by_cases hkn : k < n
    · have k1 : (k : Int) < (n : Int) := by omega
      by_cases he : y.e = 0
      · have he1 : (y.e == 0) = true := by simpa using he
        obtain ⟨p, hp⟩ : ∃ p, bytV s 32 y = p := ⟨_, rfl⟩
        have hps : p.size ≤ 32 := by
          rw [← hp]
          unfold bytV bytS
          split
          · rw [ByteArray.size_extract]; omega
          · exact Nat.zero_le _
        have C35 := Lib.hid (show Calls Try.prog 35 #[.string s, .agg #[.int .i64 y.a, .int .i64 y.e], .int .i64 32] wr (DcGives wr (.string (bytV s 32 y)) (inA s y)) from rtext_st s y 32 wr HSZ.out HYI.out (by omega))
        obtain ⟨yA, hyA⟩ : ∃ yA, inA s y = yA := ⟨_, rfl⟩
        rw [hyA, hp] at C35
        have HA := Lib.hid (show yA.a ≤ s.size from by rw [← hyA]; exact bytSt_in _ HYI.out)
        obtain ⟨yB, hyB⟩ : ∃ yB, wdSt s yA = yB := ⟨_, rfl⟩
        have HB := Lib.hid (show yB.a ≤ s.size from by rw [← hyB]; exact numSt_in _ _ _ _ HA.out)
        obtain ⟨ix, hix⟩ : ∃ ix, wdV s yA = ix := ⟨_, rfl⟩
        have hixb := wdV_in s yA
        rw [hix] at hixb
        obtain ⟨yC, hyC⟩ : ∃ yC, cntSt s 0 0 4 yB = yC := ⟨_, rfl⟩
        have HC := Lib.hid (show yC.a ≤ s.size from by rw [← hyC]; exact cntSt_in _ _ _ HB.out)
        obtain ⟨cv, hcv⟩ : ∃ cv, cntV s 0 0 4 yB = cv := ⟨_, rfl⟩
        obtain ⟨yE, hyE⟩ : ∃ yE, wdSt s yC = yE := ⟨_, rfl⟩
        obtain ⟨sq, hsq⟩ : ∃ sq, wdV s yC = sq := ⟨_, rfl⟩
        have hsqb := wdV_in s yC
        rw [hsq] at hsqb
        have EY := Lib.hid (show iter (inSt s) (k + 1) z1 = yE ∧ isV s z k = ⟨p, ix, sq, []⟩ from by
          have q3 : inC s y = yC := by unfold inC inB'; rw [hyA, hyB, hyC]
          refine ⟨?_, ?_⟩
          · show inSt s (iter (inSt s) k z1) = yE
            rw [HY.out]
            unfold inSt
            rw [q3, hyE]
          · rw [EO.out.2 k, HY.out]
            unfold inV
            rw [hp, hyA, hix, q3, hsq])
        have C31 := Lib.hid (fun W => rword_st s yA W HSZ.out HA.out)
        rw [hix, hyB] at C31
        have C34 := Lib.hid (fun W => rcount_st s yB 0 0 4 W HSZ.out HB.out (by omega) (by omega) (by omega))
        rw [hcv, hyC] at C34
        have D31 := Lib.hid (fun W => rword_st s yC W HSZ.out HC.out)
        rw [hsq, hyE] at D31
        clear hyA hyB hyC hyE hix hsq hcv hp he
        go_wp2_with fail
        refine (C35.out).mono ?_
        rintro x w3 ⟨rfl, hb3⟩
        obtain ⟨d0, d1, fd⟩ := HR.out.tb.keep (hb3.block w.heap.size (by omega))
        have g0 := fd 0
        have g1 := fd 1
        obtain ⟨w4, hw4⟩ : ∃ w4, w4 = (w3.setCell ⟨w.heap.size, 0, none⟩ (.int .i64 yA.a)).setCell ⟨w.heap.size, 1, none⟩ (.int .i64 yA.e) := ⟨_, rfl⟩
        have R4 := Lib.hid (show RiS w yA ((List.range k).map (isV s z)) u6 w4 from by rw [hw4]; exact HR.out.step hb3 yA)
        go_upto_region 9 with (fail)
        rw [← hw4]
        clear hw4 hb3 d0 d1 fd g0 g1 a0 a1 fa hle HR C35
        have hle := R4.out.le
        obtain ⟨a0, a1, fa⟩ := R4.out.tb
        go_wp2_with fail
        refine (C31.out w4).mono ?_
        rintro x w5 ⟨rfl, hb3⟩
        obtain ⟨d0, d1, fd⟩ := R4.out.tb.keep (hb3.block w.heap.size (by omega))
        have g0 := fd 0
        have g1 := fd 1
        obtain ⟨w6, hw4⟩ : ∃ w6, w6 = (w5.setCell ⟨w.heap.size, 0, none⟩ (.int .i64 yB.a)).setCell ⟨w.heap.size, 1, none⟩ (.int .i64 yB.e) := ⟨_, rfl⟩
        have R6 := Lib.hid (show RiS w yB ((List.range k).map (isV s z)) u6 w6 from by rw [hw4]; exact R4.out.step hb3 yB)
        go_upto_region 10 with (fail)
        rw [← hw4]
        clear hw4 hb3 d0 d1 fd g0 g1 a0 a1 fa hle R4 C31
        have hle := R6.out.le
        obtain ⟨a0, a1, fa⟩ := R6.out.tb
        go_wp2_with fail
        refine (C34.out w6).mono ?_
        rintro x w7 ⟨rfl, hb3⟩
        obtain ⟨d0, d1, fd⟩ := R6.out.tb.keep (hb3.block w.heap.size (by omega))
        have g0 := fd 0
        have g1 := fd 1
        obtain ⟨w9, hw4⟩ : ∃ w9, w9 = (w7.setCell ⟨w.heap.size, 0, none⟩ (.int .i64 yC.a)).setCell ⟨w.heap.size, 1, none⟩ (.int .i64 yC.e) := ⟨_, rfl⟩
        have R7 := Lib.hid (show RiS w yC ((List.range k).map (isV s z)) u6 w9 from by rw [hw4]; exact R6.out.step hb3 yC)
        go_upto_region 11 with (fail)
        rw [← hw4]
        clear hw4 hb3 d0 d1 fd g0 g1 a0 a1 fa hle R6 C34
        have hle := R7.out.le
        obtain ⟨a0, a1, fa⟩ := R7.out.tb
        go_wp2_with fail
        refine (D31.out w9).mono ?_
        rintro x wa ⟨rfl, hb3⟩
        obtain ⟨d0, d1, fd⟩ := R7.out.tb.keep (hb3.block w.heap.size (by omega))
        have g0 := fd 0
        have g1 := fd 1
        obtain ⟨w8, hw4⟩ : ∃ w8, w8 = (wa.setCell ⟨w.heap.size, 0, none⟩ (.int .i64 yE.a)).setCell ⟨w.heap.size, 1, none⟩ (.int .i64 yE.e) := ⟨_, rfl⟩
        have R8 := Lib.hid (show RiS w yE ((List.range k).map (isV s z)) u6 w8 from by rw [hw4]; exact R7.out.step hb3 yE)
        go_upto_region 12 with (fail)
        rw [← hw4]
        clear hw4 hb3 d0 d1 fd g0 g1 a0 a1 fa hle R7 D31
        have hle := R8.out.le
        obtain ⟨cells, hown, hall⟩ := R8.out.ow
        have HAL := Lib.hid hall
        have hlen : ((List.range k).map (isV s z)).length = k := by rw [List.length_map, List.length_range]
        have HOL := Lib.hid hown.1
        have hown1 := hown.1
        rw [hlen] at hown1
        have HOW := Lib.hid hown1
        obtain ⟨A, c, rfl⟩ := own_form hown1
        have HLEN := Lib.hid hlen
        clear hown hall hown1 hlen
        have v1 : IntKind.u32.wrap ix = ix := by rw [IntKind.wrap_u32]; exact Int.emod_eq_of_lt hixb.1 (by omega)
        have v2 : IntKind.u32.wrap sq = sq := by rw [IntKind.wrap_u32]; exact Int.emod_eq_of_lt hsqb.1 (by omega)
        go_wp2_with (at_builtin; refine wpList_append_own _ rfl _ _ 23 rfl (w.heap.size + 2) 47 i43 _ 4 56 Try.underlying23 hi43 y0 y1 y2 rfl (by decide) _ _ _ rfl (HOW.out.alloc _) ⟨w8.heap.size, 0, none⟩ 1 1 [.string p, .int .u32 ix, .int .u32 sq, .slice none 0 0] rfl rfl (four_new _ _ _ _ _ _) (by intro u hu; simp at hu; rcases hu with rfl | rfl | rfl | rfl <;> rfl) (by unfold maxLen; omega) (by omega) (by simp; omega) ?_; intro v' wb hown' hgrow _; obtain ⟨A', c', rfl⟩ := own_form hown')
        go_roundg (n - (k + 1))
        case measure => omega
        case rel =>
          refine ⟨k + 1, by omega, by omega, by go_num, ?_⟩
          rw [EY.out.1, range_snoc, EY.out.2]
          exact Lib.hid (R8.out.more HOL.out HAL.out hgrow (by rw [HLEN.out]; exact hown'))
      · have he1 : (y.e == 0) = false := by simpa using he
        have HX := Lib.hid (show isSt s z = y ∧ (y.e = 0 → k = n) from ⟨by rw [EO.out.1, ← HY.out]; exact iter_oldI (by rw [HY.out]; exact he) n hk, fun h => absurd h he⟩)
        clear he
        obtain ⟨r0, r1, fr⟩ := HR.out.rb
        have f0 := fr 0
        have f1 := fr 1
        have HF := Lib.hid HR.out.done
        have HB := Lib.hid ((HR.out.bel.setCell (p := ⟨w.heap.size + 1, 0, none⟩) (by show w.heap.size ≤ w.heap.size + 1; omega) (.int .i64 y.a)).setCell (p := ⟨w.heap.size + 1, 1, none⟩) (by show w.heap.size ≤ w.heap.size + 1; omega) (.int .i64 y.e))
        go_wp2_with fail
        refine bodyPost_ret (v := .tuple #[.agg #[.int .i64 y.a, .int .i64 y.e], u6]) (by simp [results, Try.results32, go_sem, r0, r1]) rfl ?_
        rw [HX.out.1]
        exact ⟨u6, k, hk, HX.out.2, rfl, HF.out, HB.out⟩
    · have k1 : ¬ (k : Int) < (n : Int) := by omega
      have HX := Lib.hid (show isSt s z = y ∧ (y.e = 0 → k = n) from ⟨by rw [EO.out.1, ← HY.out]; rw [show k = n from by omega], fun _ => by omega⟩)
      obtain ⟨r0, r1, fr⟩ := HR.out.rb
      have f0 := fr 0
      have f1 := fr 1
      have HF := Lib.hid HR.out.done
      have HB := Lib.hid ((HR.out.bel.setCell (p := ⟨w.heap.size + 1, 0, none⟩) (by show w.heap.size ≤ w.heap.size + 1; omega) (.int .i64 y.a)).setCell (p := ⟨w.heap.size + 1, 1, none⟩) (by show w.heap.size ≤ w.heap.size + 1; omega) (.int .i64 y.e))
      go_wp2_with fail
      refine bodyPost_ret (v := .tuple #[.agg #[.int .i64 y.a, .int .i64 y.e], u6]) (by simp [results, Try.results32, go_sem, r0, r1]) rfl ?_
      rw [HX.out.1]
      exact ⟨u6, k, hk, HX.out.2, rfl, HF.out, HB.out⟩

end Go.Proofs.Ytkdkkndccjddnaa
