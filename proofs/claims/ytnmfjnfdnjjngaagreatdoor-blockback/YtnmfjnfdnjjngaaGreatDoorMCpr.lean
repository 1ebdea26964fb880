/-
  The statements' own comparisons: a set, a list of entries against some entries; what of one list isn't the same in another one.
-/
import Derived.Test.YtnmfjnfdnjjngaaGreatDoorMRtk
import Derived.Test.YtnmfjnfdnjjngaaGreatDoorMEqs
import Derived.Test.YtnmfjnfdnjjngaaGreatDoorMBls
import Derived.Test.YtnmfjnfdnjjngaaGreatDoorMAll
import Derived.Deep.CutBlock
import Derived.BigQuiet
namespace Go.Proofs.YtnmfjnfdnjjngaaGreatDoor.Co
open Go.RowKit
set_option maxRecDepth 100000

theorem ptB_refl (a : ByteArray) (i : Int) : ptB a i a i = true := ptB_iff.2 ⟨rfl, rfl⟩

set_option maxHeartbeats 4000000 in
/-- A set against its entries. -/
theorem same_any (a b : Nat) (l : List EnD) (A : Option Addr) (n c : Nat) (w : World) (lo hi : Nat) (h : SetIs w a b l) (hx : Ents w lo hi (.slice A n c) l) (hhi : hi ≤ w.heap.size) (hl : l.length ≤ 900) :
    Calls Tryz.prog 16 #[.pointer (some ⟨a, 0, none⟩), .slice A n c] w fun e w' => e = .returned (.bool true) ∧ Below w.heap.size w w' := by
  obtain rfl : n = l.length := by obtain ⟨_, _, hv, _⟩ := hx; injection hv
  have HX := Lib.hid hx
  have CA := Lib.hid (all_any _ _ l w h (by omega))
  clear h hx
  go_enter Tryz.func16, Tryz.ntmps16
  go_wp2_with fail
  refine CA.out.mono ?_
  rintro e w1 ⟨u, rfl, hen, hb1⟩
  obtain ⟨A2, c2, rfl⟩ := hen.form
  have HE := Lib.hid hen
  have B1 := Lib.hid hb1
  have HX1 := Lib.hid (HX.out.keep (Kept.of_below hb1 hhi))
  have z1 := hb1.size
  obtain ⟨m, hm⟩ : ∃ m, m = l.length := ⟨_, rfl⟩
  rw [← hm] at HE HX1 ⊢
  have HM := Lib.hid hm
  have e1 : ((m : Int) != (m : Int)) = false := by simp
  have hml : m ≤ 900 := by omega
  clear hen hb1 CA hm HX hl
  go_wp2_with fail
  go_loopg [17] m (fun gg s17 wr => ∃ jj : Nat, jj ≤ m ∧ m - jj ≤ gg ∧ s17 = .int .i64 jj ∧ w1.heap.size ≤ wr.heap.size ∧ Hid (Below w1.heap.size w1 wr))
  case atStart => exact ⟨0, Nat.zero_le _, by omega, rfl, Nat.le_refl _, Below.refl _ _⟩
  case round =>
    obtain ⟨jj, hjj, hgg, rfl, hzr, HB⟩ := hrel
    by_cases hlt : jj < m
    · have k3 : (jj : Int) < (m : Int) := by omega
      have k4 : decide (jj < m) = true := decide_eq_true hlt
      obtain ⟨x, hxk⟩ : ∃ x, l[jj]? = some x := ⟨_, List.getElem?_eq_getElem (by have := HM.out; omega)⟩
      obtain ⟨b2, off2, rfl, g1, g2, c0, c1, c2, c3, c4⟩ := (HE.out.keep (Kept.of_below HB.out (Nat.le_refl _))).at hxk
      obtain ⟨b3, off3, rfl, g3, g4, d0, d1, d2, d3, d4⟩ := (HX1.out.keep (Kept.of_below HB.out (by omega))).at hxk
      obtain ⟨W, hW⟩ : ∃ W, W = wr.alloc (.cells #[.string x.id, .int .u32 x.ix, .int .i64 x.val, .string x.scr, .int .i64 x.ht] 66) := ⟨_, rfl⟩
      have hbW : Below wr.heap.size wr W := by rw [hW]; exact (Below.refl _ _).alloc (Nat.le_refl _) _
      have hz : W.heap.size = wr.heap.size + 1 := by rw [hW]; simp
      have h55 : W.heap[wr.heap.size]? = some (.cells #[.string x.id, .int .u32 x.ix, .int .i64 x.val, .string x.scr, .int .i64 x.ht] 66) := by rw [hW]; exact heap_alloc_new _ _
      have lb3 : b3 < wr.heap.size := by omega
      have p0 := cell_in (o := 0) (v := .string x.id) h55 rfl
      have p1 := cell_in (o := 1) (v := .int .u32 x.ix) h55 rfl
      have p2 := cell_in (o := 2) (v := .int .i64 x.val) h55 rfl
      have p3 := cell_in (o := 3) (v := .string x.scr) h55 rfl
      have p4 := cell_in (o := 4) (v := .int .i64 x.ht) h55 rfl
      have q0 := (hbW.cell (p := ⟨b3, off3 + jj * 5, none⟩) lb3).trans d0
      have q1 := (hbW.cell (p := ⟨b3, off3 + jj * 5 + 1, none⟩) lb3).trans d1
      have q2 := (hbW.cell (p := ⟨b3, off3 + jj * 5 + 2, none⟩) lb3).trans d2
      have q3 := (hbW.cell (p := ⟨b3, off3 + jj * 5 + 3, none⟩) lb3).trans d3
      have q4 := (hbW.cell (p := ⟨b3, off3 + jj * 5 + 4, none⟩) lb3).trans d4
      have BW := Lib.hid (HB.out.trans (hbW.mono (by omega)))
      have HW := Lib.hid hW
      have n1 := run_neq_pt
      have n2 := run_neq_co
      have n3 := pt_guard
      have n4 := co_guard
      have n5 : ptB x.id x.ix x.id x.ix = true := ptB_refl _ _
      have n6 : coB x.val x.scr x.ht x.val x.scr x.ht = true := coB_refl _ _ _
      clear hW hbW h55 d0 d1 d2 d3 d4 hxk
      go_upto_region 7 with (fail)
      rw [show World.alloc wr _ = W from HW.out.symm]
      clear c0 c1 c2 c3 c4
      go_quiet (fail)
      go_wp2_with fail
      go_roundg (m - (jj + 1))
      case measure => omega
      case rel => exact ⟨jj + 1, by omega, by omega, by go_num, by show w1.heap.size ≤ W.heap.size; omega, Lib.hid (below_drewN BW.out _)⟩
    · have k3 : ¬ (jj : Int) < (m : Int) := by omega
      have k4 : decide (jj < m) = false := decide_eq_false hlt
      go_wp2_with fail
      go_ret
      exact ⟨rfl, B1.out.trans (HB.out.mono (by omega))⟩

set_option maxHeartbeats 4000000 in
/-- Entries against entries. -/
theorem listed_any (l : List EnD) (A : Option Addr) (n c : Nat) (A2 : Option Addr) (n2 c2 : Nat) (w1 : World) (lo hi lo2 hi2 : Nat) (he : Ents w1 lo hi (.slice A n c) l) (hx : Ents w1 lo2 hi2 (.slice A2 n2 c2) l) (hhi : hi ≤ w1.heap.size) (hhi2 : hi2 ≤ w1.heap.size) (hl : l.length ≤ 900) :
    Calls Tryz.prog 17 #[.slice A n c, .slice A2 n2 c2] w1 fun e w' => e = .returned (.bool true) ∧ Below w1.heap.size w1 w' := by
  obtain rfl : n = l.length := by obtain ⟨_, _, hv, _⟩ := he; injection hv
  obtain rfl : n2 = l.length := by obtain ⟨_, _, hv, _⟩ := hx; injection hv
  have HE := Lib.hid (he.wide (Nat.le_refl _) hhi)
  have HX1 := Lib.hid hx
  obtain ⟨m, hm⟩ : ∃ m, m = l.length := ⟨_, rfl⟩
  rw [← hm] at HE HX1 ⊢
  have HM := Lib.hid hm
  have e1 : ((m : Int) != (m : Int)) = false := by simp
  have hml : m ≤ 900 := by omega
  clear he hx hm hl
  go_enter Tryz.func17, Tryz.ntmps17
  go_wp2_with fail
  go_loopg [14] m (fun gg s14 wr => ∃ jj : Nat, jj ≤ m ∧ m - jj ≤ gg ∧ s14 = .int .i64 jj ∧ w1.heap.size ≤ wr.heap.size ∧ Hid (Below w1.heap.size w1 wr))
  case atStart => exact ⟨0, Nat.zero_le _, by omega, rfl, Nat.le_refl _, Below.refl _ _⟩
  case round =>
    obtain ⟨jj, hjj, hgg, rfl, hzr, HB⟩ := hrel
    by_cases hlt : jj < m
    · have k3 : (jj : Int) < (m : Int) := by omega
      have k4 : decide (jj < m) = true := decide_eq_true hlt
      obtain ⟨x, hxk⟩ : ∃ x, l[jj]? = some x := ⟨_, List.getElem?_eq_getElem (by have := HM.out; omega)⟩
      obtain ⟨b2, off2, rfl, g1, g2, c0, c1, c2, c3, c4⟩ := (HE.out.keep (Kept.of_below HB.out (Nat.le_refl _))).at hxk
      obtain ⟨b3, off3, rfl, g3, g4, d0, d1, d2, d3, d4⟩ := (HX1.out.keep (Kept.of_below HB.out (by omega))).at hxk
      obtain ⟨W, hW⟩ : ∃ W, W = wr.alloc (.cells #[.string x.id, .int .u32 x.ix, .int .i64 x.val, .string x.scr, .int .i64 x.ht] 66) := ⟨_, rfl⟩
      have hbW : Below wr.heap.size wr W := by rw [hW]; exact (Below.refl _ _).alloc (Nat.le_refl _) _
      have hz : W.heap.size = wr.heap.size + 1 := by rw [hW]; simp
      have h55 : W.heap[wr.heap.size]? = some (.cells #[.string x.id, .int .u32 x.ix, .int .i64 x.val, .string x.scr, .int .i64 x.ht] 66) := by rw [hW]; exact heap_alloc_new _ _
      have lb3 : b3 < wr.heap.size := by omega
      have p0 := cell_in (o := 0) (v := .string x.id) h55 rfl
      have p1 := cell_in (o := 1) (v := .int .u32 x.ix) h55 rfl
      have p2 := cell_in (o := 2) (v := .int .i64 x.val) h55 rfl
      have p3 := cell_in (o := 3) (v := .string x.scr) h55 rfl
      have p4 := cell_in (o := 4) (v := .int .i64 x.ht) h55 rfl
      have q0 := (hbW.cell (p := ⟨b3, off3 + jj * 5, none⟩) lb3).trans d0
      have q1 := (hbW.cell (p := ⟨b3, off3 + jj * 5 + 1, none⟩) lb3).trans d1
      have q2 := (hbW.cell (p := ⟨b3, off3 + jj * 5 + 2, none⟩) lb3).trans d2
      have q3 := (hbW.cell (p := ⟨b3, off3 + jj * 5 + 3, none⟩) lb3).trans d3
      have q4 := (hbW.cell (p := ⟨b3, off3 + jj * 5 + 4, none⟩) lb3).trans d4
      have BW := Lib.hid (HB.out.trans (hbW.mono (by omega)))
      have HW := Lib.hid hW
      have n1 := run_neq_pt
      have n2 := run_neq_co
      have n3 := pt_guard
      have n4 := co_guard
      have n5 : ptB x.id x.ix x.id x.ix = true := ptB_refl _ _
      have n6 : coB x.val x.scr x.ht x.val x.scr x.ht = true := coB_refl _ _ _
      clear hW hbW h55 d0 d1 d2 d3 d4 hxk
      go_upto_region 6 with (fail)
      rw [show World.alloc wr _ = W from HW.out.symm]
      clear c0 c1 c2 c3 c4
      go_quiet (fail)
      go_wp2_with fail
      go_roundg (m - (jj + 1))
      case measure => omega
      case rel => exact ⟨jj + 1, by omega, by omega, by go_num, by show w1.heap.size ≤ W.heap.size; omega, Lib.hid (below_drewN BW.out _)⟩
    · have k3 : ¬ (jj : Int) < (m : Int) := by omega
      have k4 : decide (jj < m) = false := decide_eq_false hlt
      go_wp2_with fail
      go_ret
      exact ⟨rfl, HB.out⟩

theorem less_step {xs ys : List EnD} {k : Nat} {x : EnD} (h : xs[k]? = some x) : lessL (xs.take (k + 1)) ys = if inB ys x = true then lessL (xs.take k) ys else lessL (xs.take k) ys ++ [x] := by
  have e : xs.take (k + 1) = xs.take k ++ [x] := by rw [List.take_add_one, h]; rfl
  unfold lessL
  rw [e, List.filter_append]
  cases hh : inB ys x <;> simp [hh]
theorem in_none {ys : List EnD} {x : EnD} (h : hasB ys x.id x.ix = false) : inB ys x = false := by simp [inB, h]
theorem in_ht {ys : List EnD} {x : EnD} (h : ((atE ys x.id x.ix).ht == x.ht) = false) : inB ys x = false := by simp [inB, cnB, h]
theorem in_val {ys : List EnD} {x : EnD} (h : ((atE ys x.id x.ix).val == x.val) = false) : inB ys x = false := by simp [inB, cnB, h]
theorem in_scr {ys : List EnD} {x : EnD} (h : ((atE ys x.id x.ix).scr.toList == x.scr.toList) = false) : inB ys x = false := by simp [inB, cnB, h]
theorem in_all {ys : List EnD} {x : EnD} (h0 : hasB ys x.id x.ix = true) (h1 : ((atE ys x.id x.ix).ht == x.ht) = true) (h2 : ((atE ys x.id x.ix).val == x.val) = true) (h3 : ((atE ys x.id x.ix).scr.toList == x.scr.toList) = true) : inB ys x = true := by
  simp [inB, cnB, h0, h1, h2, h3]

set_option maxHeartbeats 4000000 in
/-- What of one list isn't the same in another one. -/
theorem lss_any (A : Option Addr) (c : Nat) (xs : List EnD) (A2 : Option Addr) (c2 : Nat) (ys : List EnD) (w : World) (lo hi lo2 hi2 : Nat) (hx : Ents w lo hi (.slice A xs.length c) xs) (hhi : hi ≤ w.heap.size) (hy : Ents w lo2 hi2 (.slice A2 ys.length c2) ys) (hhi2 : hi2 ≤ w.heap.size)
    (hs : Srt ys) (hl : xs.length ≤ 900) (hl2 : ys.length ≤ 900) :
    Calls Tryz.prog 18 #[.slice A xs.length c, .slice A2 ys.length c2] w fun e w' => ∃ v, e = .returned v ∧ Ents w' w.heap.size w'.heap.size v (lessL xs ys) ∧ Below w.heap.size w w' := by
  have HX := Lib.hid hx
  have HY := Lib.hid hy
  have SS := Lib.hid hs
  obtain ⟨i98, hi98, y0, y1, y2⟩ := info_parts' info45
  obtain ⟨m, hm⟩ : ∃ m, m = xs.length := ⟨_, rfl⟩
  obtain ⟨m2, hm2⟩ : ∃ m, m = ys.length := ⟨_, rfl⟩
  have CF := Lib.hid (fun (x : EnD) (V : World) (hV : Below w.heap.size w V) => rfind_any A2 ys.length c2 ys x.id x.ix V lo2 hi2 (HY.out.keep (Kept.of_below hV hhi2)) (by have := hV.size; omega) (by omega))
  rw [← hm2] at CF
  rw [← hm, ← hm2]
  have HM := Lib.hid hm
  have HM2 := Lib.hid hm2
  have HX2 := Lib.hid (show ∀ (V : World), Below w.heap.size w V → Ents V lo hi (.slice A m c) xs from fun V hV => by rw [HM.out]; exact HX.out.keep (Kept.of_below hV hhi))
  have HY2 := Lib.hid (show ∀ (V : World), Below w.heap.size w V → Ents V lo2 hi2 (.slice A2 m2 c2) ys from fun V hV => by rw [HM2.out]; exact HY.out.keep (Kept.of_below hV hhi2))
  have hl' : m ≤ 900 := by omega
  clear hx hy hs hm hm2 HX HY hl
  go_enter Tryz.func18, Tryz.ntmps18
  go_wp2_with fail
  go_loopg [5, 6] m (fun gg v s6 wr => ∃ (kk : Nat) (zs : List EnD), kk ≤ m ∧ m - kk ≤ gg ∧ s6 = .int .i64 kk ∧ zs.length ≤ kk ∧ Hid (zs = lessL (xs.take kk) ys) ∧ w.heap.size ≤ wr.heap.size ∧ Hid (Row w v zs wr))
  case atStart => exact ⟨0, [], Nat.zero_le _, by omega, rfl, Nat.zero_le _, Lib.hid (by simp [lessL]), Nat.le_refl _, Row.nil w⟩
  case round =>
    obtain ⟨kk, zs, hkk, hgg, rfl, hzl, HZ, hzr, HR⟩ := hrel
    obtain ⟨B, d, hv⟩ := own_form HR.out.own
    subst hv
    by_cases hlt : kk < m
    · have hltz : (kk : Int) < (m : Int) := by omega
      have hd : decide (kk < m) = true := decide_eq_true hlt
      obtain ⟨x, hxk⟩ : ∃ x, xs[kk]? = some x := ⟨_, List.getElem?_eq_getElem (by rw [← HM.out]; exact hlt)⟩
      have HS := Lib.hid (less_step (ys := ys) hxk)
      obtain ⟨b, off, rfl, h1, h2, c0, c1, c2', c3, c4⟩ := (HX2.out wr HR.out.bel).at hxk
      have CF1 := Lib.hid (CF.out x wr HR.out.bel)
      have HXK := Lib.hid hxk
      obtain ⟨iy, hiy⟩ : ∃ i, idxOf (isB x.id x.ix) ys = i := ⟨_, rfl⟩
      rw [hiy] at CF1
      have HIY := Lib.hid hiy
      clear hxk hiy
      go_wp2_with fail
      refine CF1.out.mono ?_
      rintro e w3 ⟨rfl, hb3⟩
      have RR := Lib.hid (HR.out.below hb3)
      have zw := hb3.size
      have hbl : b < wr.heap.size := by omega
      have a0 := (hb3.cell (p := ⟨b, off + kk * 5, none⟩) hbl).trans c0
      have a1 := (hb3.cell (p := ⟨b, off + kk * 5 + 1, none⟩) hbl).trans c1
      have a2 := (hb3.cell (p := ⟨b, off + kk * 5 + 2, none⟩) hbl).trans c2'
      have a3 := (hb3.cell (p := ⟨b, off + kk * 5 + 3, none⟩) hbl).trans c3
      have a4 := (hb3.cell (p := ⟨b, off + kk * 5 + 4, none⟩) hbl).trans c4
      clear c0 c1 c2' c3 c4 hb3 CF1
      cases hh : hasB ys x.id x.ix with
      | false =>
        have hin := in_none hh
        obtain rfl : iy = -1 := HIY.out.symm.trans (idx_none hh)
        clear hh
        have HQ := Lib.hid hin
        clear hin
        go_wp2_with fail
        go_quiet (fail)
        obtain ⟨W3, hW3⟩ : ∃ W3, W3 = w3.drewN nq := ⟨_, rfl⟩
        have R3 := Lib.hid (show Row w (.slice B zs.length d) zs W3 from by rw [hW3]; exact ⟨RR.out.own, below_drewN RR.out.bel nq⟩)
        rw [← hW3]
        have hz3 : w.heap.size ≤ W3.heap.size := R3.out.bel.size
        have x0 : W3.cell? ⟨b, off + kk * 5, none⟩ = some (.string x.id) := by rw [hW3]; exact a0
        have x1 : W3.cell? ⟨b, off + kk * 5 + 1, none⟩ = some (.int .u32 x.ix) := by rw [hW3]; exact a1
        have x2 : W3.cell? ⟨b, off + kk * 5 + 2, none⟩ = some (.int .i64 x.val) := by rw [hW3]; exact a2
        have x3 : W3.cell? ⟨b, off + kk * 5 + 3, none⟩ = some (.string x.scr) := by rw [hW3]; exact a3
        have x4 : W3.cell? ⟨b, off + kk * 5 + 4, none⟩ = some (.int .i64 x.ht) := by rw [hW3]; exact a4
        clear a0 a1 a2 a3 a4 hW3
        obtain ⟨mm, hmm⟩ : ∃ mm, mm = zs.length := ⟨_, rfl⟩
        have HMM := Lib.hid hmm
        have HOW := Lib.hid R3.out.own
        rw [← hmm] at HOW ⊢
        have hbytes : (mm + 1) * 56 ≤ 140737488355328 := by omega
        have hmax : mm + 1 ≤ maxLen := by unfold maxLen; omega
        clear hmm
        go_wp2_with (at_builtin; refine wpList_append_lies _ rfl _ _ 25 rfl w.heap.size 98 i98 _ 5 56 Tryz.underlying25 hi98 y0 y1 y2 rfl (by decide) _ _ _ rfl (HOW.out.alloc _) ⟨W3.heap.size, 0, none⟩ 1 1 (encE x) rfl rfl (five_new _ _ _ _ rfl) (encE_one x) (by decide) hmax hbytes (by simp; omega) _ rfl ?_; intro g' cap' w9 hown' hgrow hat hlt')
        go_roundg (m - (kk + 1))
        case measure => omega
        case rel =>
          have hm := HMM.out
          subst hm
          have RP := R3.out.push (x := x) hgrow hown'
          have := RP.bel.size
          exact ⟨kk + 1, zs ++ [x], by omega, by omega, by go_num, by simp; omega, Lib.hid (by rw [HS.out, if_neg (by rw [HQ.out]; simp), HZ.out]), by omega, Lib.hid RP⟩
      | true =>
        obtain ⟨k, hk1, hk2, hk3⟩ := idx_some SS.out hh
        obtain rfl : iy = (k : Int) := HIY.out.symm.trans hk1
        have kl : k < m2 := by rw [HM2.out]; exact (List.getElem?_eq_some_iff.1 hk2).1
        have k0 : ¬ (k : Int) < 0 := by omega
        have kz : (k : Int) < (m2 : Int) := by omega
        have kd : decide ((k : Int) < 0) = false := decide_eq_false k0
        have kd2 : decide (k < m2) = true := decide_eq_true kl
        have IH := Lib.hid (in_ht (ys := ys) (x := x))
        have IV := Lib.hid (in_val (ys := ys) (x := x))
        have IS := Lib.hid (in_scr (ys := ys) (x := x))
        have IA := Lib.hid (in_all (ys := ys) (x := x) hh)
        obtain ⟨y, hy⟩ : ∃ y, y = atE ys x.id x.ix := ⟨_, rfl⟩
        rw [← hy] at hk2 IH IV IS IA
        obtain ⟨bY, offY, rfl, g1, g2, e0, e1, e2, e3, e4⟩ := (HY2.out w3 RR.out.bel).at hk2
        clear hh hk1 hk2 hk3 hy
        cases ht : (y.ht == x.ht) with
        | false =>
          have hin := IH.out ht
          have t1 : (y.ht != x.ht) = true := by simp [bne, ht]
          clear ht
          have HQ := Lib.hid hin
          clear hin
          go_wp2_with fail
          go_quiet (fail)
          obtain ⟨W3, hW3⟩ : ∃ W3, W3 = w3.drewN nq := ⟨_, rfl⟩
          have R3 := Lib.hid (show Row w (.slice B zs.length d) zs W3 from by rw [hW3]; exact ⟨RR.out.own, below_drewN RR.out.bel nq⟩)
          rw [← hW3]
          have hz3 : w.heap.size ≤ W3.heap.size := R3.out.bel.size
          have x0 : W3.cell? ⟨b, off + kk * 5, none⟩ = some (.string x.id) := by rw [hW3]; exact a0
          have x1 : W3.cell? ⟨b, off + kk * 5 + 1, none⟩ = some (.int .u32 x.ix) := by rw [hW3]; exact a1
          have x2 : W3.cell? ⟨b, off + kk * 5 + 2, none⟩ = some (.int .i64 x.val) := by rw [hW3]; exact a2
          have x3 : W3.cell? ⟨b, off + kk * 5 + 3, none⟩ = some (.string x.scr) := by rw [hW3]; exact a3
          have x4 : W3.cell? ⟨b, off + kk * 5 + 4, none⟩ = some (.int .i64 x.ht) := by rw [hW3]; exact a4
          clear a0 a1 a2 a3 a4 hW3
          obtain ⟨mm, hmm⟩ : ∃ mm, mm = zs.length := ⟨_, rfl⟩
          have HMM := Lib.hid hmm
          have HOW := Lib.hid R3.out.own
          rw [← hmm] at HOW ⊢
          have hbytes : (mm + 1) * 56 ≤ 140737488355328 := by omega
          have hmax : mm + 1 ≤ maxLen := by unfold maxLen; omega
          clear hmm
          go_wp2_with (at_builtin; refine wpList_append_lies _ rfl _ _ 25 rfl w.heap.size 98 i98 _ 5 56 Tryz.underlying25 hi98 y0 y1 y2 rfl (by decide) _ _ _ rfl (HOW.out.alloc _) ⟨W3.heap.size, 0, none⟩ 1 1 (encE x) rfl rfl (five_new _ _ _ _ rfl) (encE_one x) (by decide) hmax hbytes (by simp; omega) _ rfl ?_; intro g' cap' w9 hown' hgrow hat hlt')
          go_roundg (m - (kk + 1))
          case measure => omega
          case rel =>
            have hm := HMM.out
            subst hm
            have RP := R3.out.push (x := x) hgrow hown'
            have := RP.bel.size
            exact ⟨kk + 1, zs ++ [x], by omega, by omega, by go_num, by simp; omega, Lib.hid (by rw [HS.out, if_neg (by rw [HQ.out]; simp), HZ.out]), by omega, Lib.hid RP⟩
        | true =>
          have t1 : (y.ht != x.ht) = false := by simp [bne, ht]
          cases hv : (y.val == x.val) with
          | false =>
            have hin := IV.out hv
            have t2 : (y.val != x.val) = true := by simp [bne, hv]
            clear ht hv
            have HQ := Lib.hid hin
            clear hin
            go_wp2_with fail
            go_quiet (fail)
            obtain ⟨W3, hW3⟩ : ∃ W3, W3 = w3.drewN nq := ⟨_, rfl⟩
            have R3 := Lib.hid (show Row w (.slice B zs.length d) zs W3 from by rw [hW3]; exact ⟨RR.out.own, below_drewN RR.out.bel nq⟩)
            rw [← hW3]
            have hz3 : w.heap.size ≤ W3.heap.size := R3.out.bel.size
            have x0 : W3.cell? ⟨b, off + kk * 5, none⟩ = some (.string x.id) := by rw [hW3]; exact a0
            have x1 : W3.cell? ⟨b, off + kk * 5 + 1, none⟩ = some (.int .u32 x.ix) := by rw [hW3]; exact a1
            have x2 : W3.cell? ⟨b, off + kk * 5 + 2, none⟩ = some (.int .i64 x.val) := by rw [hW3]; exact a2
            have x3 : W3.cell? ⟨b, off + kk * 5 + 3, none⟩ = some (.string x.scr) := by rw [hW3]; exact a3
            have x4 : W3.cell? ⟨b, off + kk * 5 + 4, none⟩ = some (.int .i64 x.ht) := by rw [hW3]; exact a4
            clear a0 a1 a2 a3 a4 hW3
            obtain ⟨mm, hmm⟩ : ∃ mm, mm = zs.length := ⟨_, rfl⟩
            have HMM := Lib.hid hmm
            have HOW := Lib.hid R3.out.own
            rw [← hmm] at HOW ⊢
            have hbytes : (mm + 1) * 56 ≤ 140737488355328 := by omega
            have hmax : mm + 1 ≤ maxLen := by unfold maxLen; omega
            clear hmm
            go_wp2_with (at_builtin; refine wpList_append_lies _ rfl _ _ 25 rfl w.heap.size 98 i98 _ 5 56 Tryz.underlying25 hi98 y0 y1 y2 rfl (by decide) _ _ _ rfl (HOW.out.alloc _) ⟨W3.heap.size, 0, none⟩ 1 1 (encE x) rfl rfl (five_new _ _ _ _ rfl) (encE_one x) (by decide) hmax hbytes (by simp; omega) _ rfl ?_; intro g' cap' w9 hown' hgrow hat hlt')
            go_roundg (m - (kk + 1))
            case measure => omega
            case rel =>
              have hm := HMM.out
              subst hm
              have RP := R3.out.push (x := x) hgrow hown'
              have := RP.bel.size
              exact ⟨kk + 1, zs ++ [x], by omega, by omega, by go_num, by simp; omega, Lib.hid (by rw [HS.out, if_neg (by rw [HQ.out]; simp), HZ.out]), by omega, Lib.hid RP⟩
          | true =>
            have t2 : (y.val != x.val) = false := by simp [bne, hv]
            cases hc : (y.scr.toList == x.scr.toList) with
            | false =>
              have hin := IS.out hc
              have t3 : (y.scr.toList != x.scr.toList) = true := by simp [bne, hc]
              clear ht hv
              have HQ := Lib.hid hin
              clear hin
              go_wp2_with fail
              go_quiet (fail)
              obtain ⟨W3, hW3⟩ : ∃ W3, W3 = w3.drewN nq := ⟨_, rfl⟩
              have R3 := Lib.hid (show Row w (.slice B zs.length d) zs W3 from by rw [hW3]; exact ⟨RR.out.own, below_drewN RR.out.bel nq⟩)
              rw [← hW3]
              have hz3 : w.heap.size ≤ W3.heap.size := R3.out.bel.size
              have x0 : W3.cell? ⟨b, off + kk * 5, none⟩ = some (.string x.id) := by rw [hW3]; exact a0
              have x1 : W3.cell? ⟨b, off + kk * 5 + 1, none⟩ = some (.int .u32 x.ix) := by rw [hW3]; exact a1
              have x2 : W3.cell? ⟨b, off + kk * 5 + 2, none⟩ = some (.int .i64 x.val) := by rw [hW3]; exact a2
              have x3 : W3.cell? ⟨b, off + kk * 5 + 3, none⟩ = some (.string x.scr) := by rw [hW3]; exact a3
              have x4 : W3.cell? ⟨b, off + kk * 5 + 4, none⟩ = some (.int .i64 x.ht) := by rw [hW3]; exact a4
              clear a0 a1 a2 a3 a4 hW3
              obtain ⟨mm, hmm⟩ : ∃ mm, mm = zs.length := ⟨_, rfl⟩
              have HMM := Lib.hid hmm
              have HOW := Lib.hid R3.out.own
              rw [← hmm] at HOW ⊢
              have hbytes : (mm + 1) * 56 ≤ 140737488355328 := by omega
              have hmax : mm + 1 ≤ maxLen := by unfold maxLen; omega
              clear hmm
              go_wp2_with (at_builtin; refine wpList_append_lies _ rfl _ _ 25 rfl w.heap.size 98 i98 _ 5 56 Tryz.underlying25 hi98 y0 y1 y2 rfl (by decide) _ _ _ rfl (HOW.out.alloc _) ⟨W3.heap.size, 0, none⟩ 1 1 (encE x) rfl rfl (five_new _ _ _ _ rfl) (encE_one x) (by decide) hmax hbytes (by simp; omega) _ rfl ?_; intro g' cap' w9 hown' hgrow hat hlt')
              go_roundg (m - (kk + 1))
              case measure => omega
              case rel =>
                have hm := HMM.out
                subst hm
                have RP := R3.out.push (x := x) hgrow hown'
                have := RP.bel.size
                exact ⟨kk + 1, zs ++ [x], by omega, by omega, by go_num, by simp; omega, Lib.hid (by rw [HS.out, if_neg (by rw [HQ.out]; simp), HZ.out]), by omega, Lib.hid RP⟩
            | true =>
              have hin := IA.out ht hv hc
              have t3 : (y.scr.toList != x.scr.toList) = false := by simp [bne, hc]
              clear ht hv
              have HQ := Lib.hid hin
              clear hin
              go_wp2_with fail
              go_quiet (fail)
              go_wp2_with fail
              go_roundg (m - (kk + 1))
              case measure => omega
              case rel => exact ⟨kk + 1, zs, by omega, by omega, by go_num, by omega, Lib.hid (by rw [HS.out, if_pos HQ.out]; exact HZ.out), by have := RR.out.bel.size; exact this, Lib.hid ⟨RR.out.own, below_drewN RR.out.bel _⟩⟩
    · have hltz : ¬ (kk : Int) < (m : Int) := by omega
      have hd : decide (kk < m) = false := decide_eq_false hlt
      obtain rfl : kk = m := by omega
      have HZ' := Lib.hid (show zs = lessL xs ys from by rw [HZ.out, HM.out, List.take_length])
      go_wp2_with fail
      go_ret
      exact ⟨_, rfl, by rw [← HZ'.out]; exact HR.out.ents, HR.out.bel⟩

end Go.Proofs.YtnmfjnfdnjjngaaGreatDoor.Co