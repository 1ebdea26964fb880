/-
  The coins that a statement holds: a set of the program's, and the document's list.
-/
import Derived.Test.YtjclklppnkoehaaGreatDoorJob
import Derived.Test.YtjclklppnkoehaaGreatDoorAll
import Derived.Test.YtjclklppnkoehaaGreatDoorCid
import Derived.Test.YtjclklppnkoehaaGreatDoorSpb
namespace Go.Proofs.YtjclklppnkoehaaGreatDoor
open Go.RowKit
set_option maxRecDepth 100000

/-- A point in a box. -/
def PtBox (w : World) (g : Nat) (s : ByteArray) (i : Int) : Prop := w.cell? ⟨g, 0, none⟩ = some (.string s) ∧ w.cell? ⟨g, 1, none⟩ = some (.int .u32 i)
theorem PtBox.below {w w' : World} {g : Nat} {s : ByteArray} {i : Int} (h : PtBox w g s i) (hg : g < w.heap.size) (hb : Below w.heap.size w w') : PtBox w' g s i :=
  ⟨(hb.cell (p := ⟨g, 0, none⟩) hg).trans h.1, (hb.cell (p := ⟨g, 1, none⟩) hg).trans h.2⟩
/-- A coin as it is given, in a box. -/
def CnBox (w : World) (g : Nat) (x : CnD) (vb : Value) : Prop :=
  w.cell? ⟨g, 0, none⟩ = some (.int .u8 x.id8) ∧ w.cell? ⟨g, 1, none⟩ = some (.int .u8 x.ix8) ∧ w.cell? ⟨g, 2, none⟩ = some (.int .i64 x.val) ∧ w.cell? ⟨g, 3, none⟩ = some (.int .i64 x.ht) ∧ w.cell? ⟨g, 4, none⟩ = some vb ∧ w.cell? ⟨g, 5, none⟩ = some (.string x.scr) ∧ w.cell? ⟨g, 6, none⟩ = some (.bool x.raw)
theorem CnBox.new (w : World) (x : CnD) (vb : Value) (t : TypeId) : CnBox (w.alloc (.cells #[.int .u8 x.id8, .int .u8 x.ix8, .int .i64 x.val, .int .i64 x.ht, vb, .string x.scr, .bool x.raw] t)) w.heap.size x vb := by
  have hn := heap_alloc_new w (.cells #[.int .u8 x.id8, .int .u8 x.ix8, .int .i64 x.val, .int .i64 x.ht, vb, .string x.scr, .bool x.raw] t)
  exact ⟨Co.cell_in (o := 0) hn rfl, Co.cell_in (o := 1) hn rfl, Co.cell_in (o := 2) hn rfl, Co.cell_in (o := 3) hn rfl, Co.cell_in (o := 4) hn rfl, Co.cell_in (o := 5) hn rfl, Co.cell_in (o := 6) hn rfl⟩
theorem CnBox.below {w w' : World} {g : Nat} {x : CnD} {vb : Value} (h : CnBox w g x vb) (hg : g < w.heap.size) (hb : Below w.heap.size w w') : CnBox w' g x vb :=
  ⟨(hb.cell (p := ⟨g, 0, none⟩) hg).trans h.1, (hb.cell (p := ⟨g, 1, none⟩) hg).trans h.2.1, (hb.cell (p := ⟨g, 2, none⟩) hg).trans h.2.2.1, (hb.cell (p := ⟨g, 3, none⟩) hg).trans h.2.2.2.1, (hb.cell (p := ⟨g, 4, none⟩) hg).trans h.2.2.2.2.1, (hb.cell (p := ⟨g, 5, none⟩) hg).trans h.2.2.2.2.2.1, (hb.cell (p := ⟨g, 6, none⟩) hg).trans h.2.2.2.2.2.2⟩
/-- The box of no point, made ahead of a call that leaves it. -/
theorem pt_kept {V w' : World} (hb : Below V.heap.size V w') {m : Nat} (hh : V.heap[m]? = some (.cells #[.string ⟨#[]⟩, .int .u32 0] 55 (0, 0))) :
    w'.cell? ⟨m, 0, none⟩ = some (.string ⟨#[]⟩) ∧ w'.cell? ⟨m, 1, none⟩ = some (.int .u32 0) ∧ (∀ k, w'.frozen? ⟨m, k, none⟩ = false) ∧ m < w'.heap.size := by
  have hm : m < V.heap.size := by
    rcases Nat.lt_or_ge m V.heap.size with h | h
    · exact h
    · rw [Array.getElem?_eq_none h] at hh; cases hh
  have hh : w'.heap[m]? = some (.cells #[.string ⟨#[]⟩, .int .u32 0] 55 (0, 0)) := (hb.block _ hm).trans hh
  exact ⟨Co.cell_in (o := 0) hh rfl, Co.cell_in (o := 1) hh rfl, fun k => Lib.frozen_of_heap hh k, by have := hb.size; omega⟩
/-- A point made of a coin as it is given: in a box. -/
def PtMid (w0 : World) (s : ByteArray) (i : Int) (v : Value) (wx : World) : Prop :=
  ∃ g, v = .pointer (some ⟨g, 0, none⟩) ∧ w0.heap.size ≤ g ∧ g < wx.heap.size ∧ Hid (PtBox wx g s i) ∧ Hid (Below w0.heap.size w0 wx)
theorem pt_mid1 {w0 V w1 : World} (hV : Below w0.heap.size w0 V) (hB : Below V.heap.size V w1) (s : ByteArray) (i : Int) :
    PtMid w0 s i (.pointer (some ⟨w1.heap.size, 0, none⟩)) (w1.alloc (.cells #[.string s, .int .u32 i] 55)) := by
  have h1 := below_next hV hV.size hB
  exact ⟨_, rfl, h1.size, by simp, Lib.hid ⟨by simp, by simp⟩, Lib.hid (h1.alloc h1.size _)⟩
theorem pt_mid2 {w0 V w1 : World} (hV : Below w0.heap.size w0 V) (hB : Below V.heap.size V w1) {m : Nat} (hm : w0.heap.size ≤ m) {x0 x1 : Value} (s : ByteArray) (i : Int)
    (h0 : w1.cell? ⟨m, 0, none⟩ = some x0) (h1 : w1.cell? ⟨m, 1, none⟩ = some x1) (hs : m < w1.heap.size) :
    PtMid w0 s i (.pointer (some ⟨m, 0, none⟩)) ((w1.setCell ⟨m, 0, none⟩ (.string s)).setCell ⟨m, 1, none⟩ (.int .u32 i)) := by
  have hb := below_next hV hV.size hB
  exact ⟨m, rfl, hm, by simp; exact hs, Lib.hid ⟨(World.cell?_setCell_other _ _ _ _ (by simp)).trans (World.cell?_setCell_same _ _ _ h0), World.cell?_setCell_same _ _ _ ((World.cell?_setCell_other _ _ _ _ (by simp)).trans h1)⟩, Lib.hid ((hb.setCell hm _).setCell hm _)⟩

/-- What held gives: a set and a list of the same coins, in blocks of their own. -/
def HeldEnd (w : World) (e : Ending) (w' : World) : Prop :=
  ∃ (l : List Co.EnD) (v : Value), e = .returned (.tuple #[.pointer (some ⟨w.heap.size + 2, 0, none⟩), v]) ∧ Co.SetIs w' (w.heap.size + 2) (w.heap.size + 1) l ∧ Co.Ents w' (w.heap.size + 3) w'.heap.size v l ∧ l.length ≤ 8 ∧ Below w.heap.size w w'

set_option maxHeartbeats 2000000 in
theorem held_any (z : JobD) (vc vs vo : Value) (w : World) (hz : JobAt w w.heap.size vc vs vo z) (hok : z.Ok) : Calls Tryz.prog 4 #[jobV z vc vs vo] w (HeldEnd w) := by
  obtain ⟨w0, hw0⟩ : ∃ w0, w0 = w.alloc (.cells #[vc, vs, vo, .int .u32 z.ver, .int .u32 z.lock, .int .i64 z.ht] 27) := ⟨_, rfl⟩
  have z0 : w0.heap.size = w.heap.size + 1 := by rw [hw0]; simp
  have hb0 : Below w.heap.size w w0 := by rw [hw0]; exact (Below.refl _ _).alloc (Nat.le_refl _) _
  obtain ⟨A, c, rfl⟩ := hz.cns.form
  have hcap := Lst.cap hz.cns
  have hq0 : w0.cell? ⟨w.heap.size, 0, none⟩ = some (.slice A z.cns.length c) := by rw [hw0]; simp
  obtain ⟨n, hn⟩ : ∃ n, min z.cns.length 8 = n := ⟨_, rfl⟩
  have hmn : ∀ w, (Builtin.min_ #[3, 3] 3 #[.int .i64 (z.cns.length : Int), .int .i64 8]).run Tryz.prog w = .ok (.int .i64 (n : Nat)) w := by rw [← hn]; exact fun w => run_min_nat 8 #[3, 3] 3 z.cns.length w
  have n1 : n ≤ c := by omega
  have n2 : (n : Int) ≤ (c : Int) := by omega
  have n3 : (0 : Int) ≤ (n : Int) := by omega
  have n4 : n ≤ 8 := by omega
  have hl' : z.cns.length ≤ 9223372036854775807 := by have := hok.lc; unfold maxLen at this; omega
  obtain ⟨ys, hys⟩ : ∃ ys, z.cns.take n = ys := ⟨_, rfl⟩
  have hyl : ys.length = n := by rw [← hys, List.length_take]; omega
  have HX := Lib.hid (show Cns w 0 w.heap.size (.slice A n c) ys from by rw [← hys]; exact Lst.take hz.cns (by omega))
  have HO := Lib.hid (show ∀ x ∈ ys, x.Ok from by rw [← hys]; exact fun x hx => hok.cns x (List.mem_of_mem_take hx))
  have B0 := Lib.hid hb0
  have HW0 := Lib.hid hw0
  have CN := Lib.hid (Co.new_any w0)
  rw [z0] at CN
  unfold jobV
  generalize z.cns.length = nn at hmn HW0 hq0 hl' ⊢
  clear hz hok hcap hn hys hw0 hb0
  go_enter Tryz.func4, Tryz.ntmps4
  go_upto_region 1 with (fail)
  rw [show World.alloc w _ = w0 from HW0.out.symm]
  go_wp2_with fail
  refine CN.out.mono ?_
  rintro e w1 ⟨rfl, hs1, hb1, hz1⟩
  have S1 := Lib.hid hs1
  have B1 := Lib.hid (below_next B0.out (by omega) (show Below w0.heap.size w0 w1 from by rw [z0]; exact hb1))
  have q0 := (hb1.cell (p := ⟨w.heap.size, 0, none⟩) (by show w.heap.size < _; omega)).trans hq0
  clear hs1 hb1 CN hq0
  go_wp2_with fail
  have hz1' : w1.heap.size = w.heap.size + 3 := by omega
  go_loopg [5, 21] n (fun gg s5 s21 wr => ∃ (k : Nat) (l : List Co.EnD), k ≤ n ∧ n - k ≤ gg ∧ s21 = .int .i64 k ∧ l.length ≤ k ∧ w1.heap.size ≤ wr.heap.size ∧ Hid (Co.SetIs wr (w.heap.size + 2) (w.heap.size + 1) l) ∧ Hid (Co.Ents wr (w.heap.size + 3) wr.heap.size s5 l) ∧ Hid (Below w.heap.size w wr))
  case atStart => exact ⟨0, [], Nat.zero_le _, by omega, rfl, Nat.le_refl _, Nat.le_refl _, S1, Lib.hid (Co.Ents.nil _ _ _), B1⟩
  case round =>
    clear hmn
    obtain ⟨k, l, hk, hgg, rfl, hll, hzr, HS, HE, HB⟩ := hrel
    obtain ⟨EA, ec, rfl⟩ := HE.out.form
    by_cases hlt : k < n
    · have k1 : (k : Int) < (n : Int) := by omega
      have k2 : decide (k < n) = true := decide_eq_true hlt
      obtain ⟨x, hxk⟩ : ∃ x, ys[k]? = some x := ⟨_, List.getElem?_eq_getElem (by omega)⟩
      obtain ⟨b, off, rfl, h1, h2, c0, c1, c2, c3, ⟨vb, c4, hbr⟩, c5, c6⟩ := Lst.at (HX.out.keep (Kept.of_below HB.out (Nat.le_refl _))) hxk
      obtain ⟨Ab, cb, rfl⟩ := hbr.form
      obtain ⟨o1, o2, o3, o4, o5, o6, o7, o8, o9, o10, o11⟩ := HO.out x (List.mem_of_getElem? hxk)
      have hcb := hbr.cap
      obtain ⟨W, hW⟩ : ∃ W, W = wr.alloc (.cells #[.int .u8 x.id8, .int .u8 x.ix8, .int .i64 x.val, .int .i64 x.ht, .slice Ab x.brs.length cb, .string x.scr, .bool x.raw] 52) := ⟨_, rfl⟩
      have hzW : W.heap.size = wr.heap.size + 1 := by rw [hW]; simp
      have hbW : Below wr.heap.size wr W := by rw [hW]; exact (Below.refl _ _).alloc (Nat.le_refl _) _
      have CX := Lib.hid (show CnBox W wr.heap.size x (.slice Ab x.brs.length cb) from by rw [hW]; exact CnBox.new wr x _ 52)
      have BW := Lib.hid (below_next HB.out (by omega) hbW)
      have la := HS.out.lta
      have lb := HS.out.ltb
      have SW := Lib.hid (HS.out.below hbW la lb)
      have EW := Lib.hid (HE.out.keep (Kept.of_below hbW (Nat.le_refl _)))
      obtain ⟨nb, hnb⟩ : ∃ m, min x.brs.length 3 = m := ⟨_, rfl⟩
      have hm3 : ∀ w, (Builtin.min_ #[3, 3] 3 #[.int .i64 (x.brs.length : Int), .int .i64 3]).run Tryz.prog w = .ok (.int .i64 (nb : Nat)) w := by rw [← hnb]; exact fun w => run_min_nat 3 #[3, 3] 3 x.brs.length w
      obtain ⟨ns, hns⟩ : ∃ m, min x.scr.size 30 = m := ⟨_, rfl⟩
      have hm30 : ∀ w, (Builtin.min_ #[3, 3] 3 #[.int .i64 (x.scr.size : Int), .int .i64 30]).run Tryz.prog w = .ok (.int .i64 (ns : Nat)) w := by rw [← hns]; exact fun w => run_min_nat 30 #[3, 3] 3 x.scr.size w
      have t1 : nb ≤ cb := by omega
      have t2 : (nb : Int) ≤ (cb : Int) := by omega
      have t3 : ns ≤ x.scr.size := by omega
      have t4 : (ns : Int) ≤ (x.scr.size : Int) := by omega
      have t5 : x.brs.length ≤ 9223372036854775807 := by unfold maxLen at o10; omega
      have t6 : x.scr.size ≤ 9223372036854775807 := by unfold maxLen at o11; omega
      have ht3 : x.brs.take nb = x.brs.take 3 := by rw [← hnb, ← List.take_take, List.take_of_length_le (by rw [List.length_take]; omega)]
      have BR := Lib.hid (show Brs W 0 w.heap.size (.slice Ab nb cb) (x.brs.take 3) from by rw [← ht3]; exact (hbr.take (by omega)).keep (Kept.of_below hbW (by have := HB.out.size; omega)))
      have CP := Lib.hid (fun V (hV : Below W.heap.size W V) => rlput_any (x.brs.take 3) _ V 0 w.heap.size (BR.out.keep (Kept.of_below hV (by have := HB.out.size; omega))) (by have := hV.size; have := HB.out.size; omega) (by rw [List.length_take]; omega) (fun y hy => o9 y (List.mem_of_mem_take hy)))
      have PS := Lib.hid (ptS_size (xs := x.brs.take 3))
      have SE := Lib.hid (show (x.scr.extract 0 ns).size ≤ 64 from by rw [ByteArray.size_extract]; omega)
      have HXO := Lib.hid (And.intro (And.intro o5 o6) (And.intro o7 o8))
      have HW := Lib.hid hW
      generalize ptE (x.brs.take 3) = pe at CP
      generalize ptS (x.brs.take 3) = ps at CP PS
      generalize x.brs.length = nbr at hm3 t5 CX HW c4
      obtain ⟨i8, x8, xv, xh, xb, xs, xr⟩ := x
      simp only at *
      obtain ⟨i5, hi5⟩ : ∃ i, i8 % 5 = i := ⟨_, rfl⟩
      obtain ⟨j2, hj2⟩ : ∃ j, x8 % 2 = j := ⟨_, rfl⟩
      have r1 : ¬ (5 : Int) = 0 := by decide
      have r2 : ¬ (2 : Int) = 0 := by decide
      have r3 : i8.tmod 5 = i5 := by rw [← hi5]; exact Int.tmod_eq_emod_of_nonneg o1
      have r4 : x8.tmod 2 = j2 := by rw [← hj2]; exact Int.tmod_eq_emod_of_nonneg o3
      have r5 : IntKind.u8.wrap i5 = i5 := IntWalk.u8_in _ (by omega)
      have r6 : IntKind.u8.wrap j2 = j2 := IntWalk.u8_in _ (by omega)
      have r7 : IntKind.i64.wrap i5 = i5 := IntWalk.i64_in _ (by omega)
      have r8 : IntKind.u32.wrap j2 = j2 := IntWalk.u32_in _ (by omega)
      have rj : 0 ≤ j2 ∧ j2 ≤ 1 := by omega
      have CI := Lib.hid (fun V => Co.id_det i5 V)
      have IS := Lib.hid (Co.idT_size i5 32)
      generalize Co.idT i5 32 = pid at CI IS
      clear hW hbW hnb hns ht3 hxk hbr hi5 hj2 o1 o2 o3 o4 o5 o6 o7 o8 o9 o10 o11 HX HO BR
      go_upto_region 6 with (fail)
      rw [show World.alloc wr _ = W from HW.out.symm]
      clear c0 c1 c2 c3 c4 c5 c6
      obtain ⟨a0, a1, a2, a3, a4, a5, a6⟩ := CX.out
      have m1 : ¬ W.heap.size = wr.heap.size := by omega
      have ZW := Lib.hid hzW
      clear hzW
      go_cut [8] (fun s8 wx => PtMid W pid j2 s8 wx)
      case first =>
        go_region_held3 (fun w' => w'.cell? ⟨wr.heap.size, 0, none⟩ = some (.int .u8 i8) ∧ w'.cell? ⟨wr.heap.size, 1, none⟩ = some (.int .u8 x8))
          (go_keep)
          (first | (go_at_call 13; refine (CI.out _).mono ?_; rintro e w3 ⟨rfl, hB1⟩; have n3 : ¬ w3.heap.size = wr.heap.size := (by have := hB1.size; have := ZW.out; simp at *; omega); have e1 := hB1.cell (p := ⟨wr.heap.size, 0, none⟩) (by have := ZW.out; simp; omega); have e2 := hB1.cell (p := ⟨wr.heap.size, 1, none⟩) (by have := ZW.out; simp; omega); first | (have hz := pt_kept hB1 (heap_alloc_new W (.cells #[.string ⟨#[]⟩, .int .u32 0] 55)); obtain ⟨q0, q1, qf, qs⟩ := hz) | skip))
        all_goals go_wp2_with fail
        all_goals go_meet
        · exact pt_mid1 (Below.refl _ _).drew hB1 pid j2
        · first | exact pt_mid2 ((Below.refl _ _).drew.alloc (by simp) _) hB1 (Nat.le_refl _) pid j2 q0 q1 qs | exact pt_mid2 ((Below.refl _ _).alloc (by simp) _).drew hB1 (Nat.le_refl _) pid j2 q0 q1 qs
      case rest =>
        obtain ⟨g, rfl, hg1, hg2, hpb, hbc⟩ := hcut
        have hgz : wr.heap.size < W.heap.size := by have := ZW.out; omega
        clear a0 a1 a2 a3 a4 a5 a6 CI
        obtain ⟨a0, a1, a2, a3, a4, a5, a6⟩ := CX.out.below hgz hbc.out
        have CP1 := Lib.hid (CP.out wc hbc.out)
        go_wp2_with fail
        refine CP1.out.mono ?_
        rintro e w4 ⟨rfl, hb4⟩
        have zc := hbc.out.size
        have z4 := hb4.size
        have L4 := Lib.hid (below_next hbc.out hbc.out.size hb4)
        have P4 := Lib.hid (hpb.out.below hg2 hb4)
        clear hb4 a0 a1 a2 a3 a4 a5 a6 CP1 CP
        obtain ⟨a0, a1, a2, a3, a4, a5, a6⟩ := CX.out.below hgz L4.out
        go_upto_region 8 with (fail)
        go_cut [51] (fun s51 wx => ∃ q, s51 = .bool q ∧ wx = w4)
        case first =>
          cases xr with
          | true =>
            go_wp2_with fail
            go_meet
            exact ⟨_, rfl, rfl⟩
          | false =>
            by_cases hp : pe = 0
            · have p1 : (pe != 0) = false := by simp [hp]
              clear hp
              go_wp2_with fail
              go_meet
              exact ⟨_, rfl, rfl⟩
            · have p1 : (pe != 0) = true := by simp [hp]
              clear hp
              go_wp2_with fail
              go_meet
              exact ⟨_, rfl, rfl⟩
        case rest =>
        obtain ⟨q, rfl, rfl⟩ := hcut
        obtain ⟨wq, hwq⟩ : ∃ wq, wq = wc := ⟨_, rfl⟩
        rw [← hwq] at L4 P4 a0 a1 a2 a3 a4 a5 a6 z4 ⊢
        clear hwq
        go_upto_if 51 with (fail)
        go_cut [9] (fun s9 wx => ∃ s, s9 = .string s ∧ Hid (s.size ≤ 64) ∧ wx = wq)
        case first =>
          cases q with
          | true =>
            go_wp2_with fail
            go_meet
            exact ⟨_, rfl, SE, rfl⟩
          | false =>
            go_wp2_with fail
            go_meet
            exact ⟨_, rfl, PS, rfl⟩
        case rest =>
          obtain ⟨sc, rfl, hsc, rfl⟩ := hcut
          obtain ⟨w5, hw5⟩ : ∃ w5, w5 = wc.alloc (.cells #[.int .i64 xv, .string sc, .int .i64 xh] 61) := ⟨_, rfl⟩
          have hb5 : Below wc.heap.size wc w5 := by rw [hw5]; exact (Below.refl _ _).alloc (Nat.le_refl _) _
          have z5 : w5.heap.size = wc.heap.size + 1 := by rw [hw5]; simp
          have y0 : w5.cell? ⟨wc.heap.size, 0, none⟩ = some (.int .i64 xv) := by rw [hw5]; simp
          have y1 : w5.cell? ⟨wc.heap.size, 1, none⟩ = some (.string sc) := by rw [hw5]; simp
          have y2 : w5.cell? ⟨wc.heap.size, 2, none⟩ = some (.int .i64 xh) := by rw [hw5]; simp
          have L5 := Lib.hid (below_next L4.out L4.out.size hb5)
          have S5 := Lib.hid (SW.out.below L5.out (by omega) (by omega))
          have HE5 := Lib.hid (EW.out.keep (Kept.of_below L5.out (by have := ZW.out; omega)))
          have EO : Co.EnD.Ok ⟨pid, j2, xv, sc, xh⟩ := ⟨⟨by show pid.size ≤ 64; rw [IS.out]; decide, rj.1, by show j2 ≤ 4294967295; omega⟩, HXO.out.1.1, HXO.out.1.2, hsc.out, HXO.out.2.1, HXO.out.2.2⟩
          have CU := Lib.hid (Co.put_any _ _ l ⟨pid, j2, xv, sc, xh⟩ w5 S5.out EO)
          obtain ⟨p0, p1⟩ := P4.out
          have p0' := (hb5.cell (p := ⟨g, 0, none⟩) (by show g < _; omega)).trans p0
          have p1' := (hb5.cell (p := ⟨g, 1, none⟩) (by show g < _; omega)).trans p1
          have HW5 := Lib.hid hw5
          clear hw5
          go_upto_region 11 with (fail)
          rw [show World.alloc wc _ = w5 from HW5.out.symm]
          go_wp2_with fail
          refine CU.out.mono ?_
          rintro e w6 ⟨rfl, hs6, hk6⟩
          have z6 := hk6.size
          have S6 := Lib.hid hs6
          have HE6 := Lib.hid (HE5.out.keep (hk6.kept (.inl (by omega)) (.inl (by omega)) (by omega)))
          have B6 := Lib.hid (Co.But2.below (below_next BW.out (by omega) L5.out) hk6 (by omega) (by omega) (by omega))
          have p0 := (World.cell?_of_block (a := ⟨g, 0, none⟩) (hk6.block g (by omega) (by omega) (by omega))).trans p0'
          have p1 := (World.cell?_of_block (a := ⟨g, 1, none⟩) (hk6.block g (by omega) (by omega) (by omega))).trans p1'
          have x0 := (World.cell?_of_block (a := ⟨wc.heap.size, 0, none⟩) (hk6.block wc.heap.size (by omega) (by omega) (by omega))).trans y0
          have x1 := (World.cell?_of_block (a := ⟨wc.heap.size, 1, none⟩) (hk6.block wc.heap.size (by omega) (by omega) (by omega))).trans y1
          have x2 := (World.cell?_of_block (a := ⟨wc.heap.size, 2, none⟩) (hk6.block wc.heap.size (by omega) (by omega) (by omega))).trans y2
          have CV := Lib.hid (Co.rput_any EA l.length ec l ⟨pid, j2, xv, sc, xh⟩ w6 (w.heap.size + 3) wr.heap.size HE6.out (by omega) (by omega) HS.out.good (by omega))
          have pl := Co.putL_len l ⟨pid, j2, xv, sc, xh⟩
          clear hs6 hk6 CU p0' p1' y0 y1 y2 a0 a1 a2 a3 a4 a5 a6
          go_wp2_with fail
          refine CV.out.mono ?_
          rintro e w7 ⟨v', rfl, he7, hb7⟩
          have S7 := Lib.hid (S6.out.below hb7 (by omega) (by omega))
          have E7 := Lib.hid he7
          have B7 := Lib.hid (below_next B6.out (by omega) hb7)
          have z7 := hb7.size
          clear he7 hb7 p0 p1 x0 x1 x2
          go_wp2_with fail
          go_roundg (n - (k + 1))
          case measure => omega
          case rel => exact ⟨k + 1, _, by omega, by omega, by go_num, by omega, by omega, S7, E7, B7⟩
    · have k2 : decide (k < n) = false := decide_eq_false hlt
      have k3 : decide ((k : Int) < (n : Int)) = false := decide_eq_false (by omega)
      go_wp2_with fail
      go_ret2
      exact ⟨l, _, rfl, HS.out, HE.out, by omega, HB.out⟩

end Go.Proofs.YtjclklppnkoehaaGreatDoor
