/-
  The statement's own comparison: has a set just some entries, in order?
-/
import Derived.Test.YtdchbeomlfancaaRfd
import Derived.Test.YtdchbeomlfancaaEqs
import Derived.Deep.CutBlock
namespace Go.Proofs.Ytdchbeomlfancaa
open Go.RowKit

theorem ptB_refl (a : ByteArray) (i : Int) : ptB a i a i = true := ptB_iff.2 ⟨rfl, rfl⟩

set_option maxHeartbeats 4000000 in
theorem same_any (a b : Nat) (l : List EnD) (A : Option Addr) (n c : Nat) (w : World) (lo hi : Nat) (h : SetIs w a b l) (hx : Ents w lo hi (.slice A n c) l) (hhi : hi ≤ w.heap.size) (hl : l.length ≤ 900) :
    Calls Try.prog 16 #[.pointer (some ⟨a, 0, none⟩), .slice A n c] w fun e w' => e = .returned (.bool true) ∧ Below w.heap.size w w' := by
  obtain rfl : n = l.length := by obtain ⟨_, _, hv, _⟩ := hx; injection hv
  have HX := Lib.hid hx
  have HS := Lib.hid h
  have la := h.lta
  have lb := h.ltb
  have CA := Lib.hid (all_any _ _ l w h (by omega))
  clear h hx
  go_enter Try.func16, Try.ntmps16
  go_wp2_with fail
  refine CA.out.mono ?_
  rintro e w1 ⟨u, rfl, hen, hb1⟩
  obtain ⟨A2, c2, rfl⟩ := hen.form
  have HE := Lib.hid hen
  have B1 := Lib.hid hb1
  have S1 := HS.out.below hb1 la lb
  have HX1 := Lib.hid (HX.out.keep (Kept.of_below hb1 hhi))
  have z1 := hb1.size
  have CL := Lib.hid (len_any _ _ l w1 S1)
  have CT := Lib.hid (total_any _ _ l w1 S1)
  have CR := Lib.hid (rtotal_any A l.length c l w1 lo hi HX1.out S1.good.pos S1.good.most (by omega))
  obtain ⟨m, hm⟩ : ∃ m, m = l.length := ⟨_, rfl⟩
  obtain ⟨t0, ht0⟩ : ∃ t0, t0 = tot l := ⟨_, rfl⟩
  rw [← hm] at HE CL CR HX1 ⊢
  rw [← ht0] at CT CR
  have HM := Lib.hid hm
  have e1 : ((m : Int) != (m : Int)) = false := by simp
  have e2 : (t0 != t0) = false := by simp
  have hml : m ≤ 900 := by omega
  clear hen hb1 S1 CA hm ht0 HX HS hl
  go_wp2_with fail
  refine CL.out.mono ?_
  rintro e w2 ⟨rfl, hw⟩
  subst w2
  go_wp2_with fail
  refine CT.out.mono ?_
  rintro e w2 ⟨rfl, hw⟩
  subst w2
  go_wp2_with fail
  refine CR.out.mono ?_
  rintro e w2 ⟨rfl, hw⟩
  subst w2
  clear CL CT CR
  go_wp2_with fail
  go_loopg [31] m (fun gg s31 wr => ∃ jj : Nat, jj ≤ m ∧ m - jj ≤ gg ∧ s31 = .int .i64 jj ∧ w1.heap.size ≤ wr.heap.size ∧ Hid (Below w1.heap.size w1 wr))
  case atStart => exact ⟨0, Nat.zero_le _, by omega, rfl, Nat.le_refl _, Below.refl _ _⟩
  case round =>
    obtain ⟨jj, hjj, hgg, rfl, hzr, HB⟩ := hrel
    by_cases hlt : jj < m
    · have k3 : (jj : Int) < (m : Int) := by omega
      have k4 : decide (jj < m) = true := decide_eq_true hlt
      obtain ⟨x, hxk⟩ : ∃ x, l[jj]? = some x := ⟨_, List.getElem?_eq_getElem (by have := HM.out; omega)⟩
      obtain ⟨b2, off2, rfl, g1, g2, c0, c1, c2, c3, c4⟩ := (HE.out.keep (Kept.of_below HB.out (Nat.le_refl _))).at hxk
      obtain ⟨b3, off3, rfl, g3, g4, d0, d1, d2, d3, d4⟩ := (HX1.out.keep (Kept.of_below HB.out (by omega))).at hxk
      obtain ⟨W, hW⟩ : ∃ W, W = wr.alloc (.cells #[.string x.id, .int .u32 x.ix, .int .i64 x.val, .string x.scr, .int .i64 x.ht] 55) := ⟨_, rfl⟩
      have hbW : Below wr.heap.size wr W := by rw [hW]; exact (Below.refl _ _).alloc (Nat.le_refl _) _
      have hz : W.heap.size = wr.heap.size + 1 := by rw [hW]; simp
      have h55 : W.heap[wr.heap.size]? = some (.cells #[.string x.id, .int .u32 x.ix, .int .i64 x.val, .string x.scr, .int .i64 x.ht] 55) := by rw [hW]; exact heap_alloc_new _ _
      have lb3 : b3 < wr.heap.size := by omega
      have p0 := cell_in (o := 0) (v := .string x.id) h55 rfl
      have p1 := cell_in (o := 1) (v := .int .u32 x.ix) h55 rfl
      have p2 := cell_in (o := 2) (v := .int .i64 x.val) h55 rfl
      have p3 := cell_in (o := 3) (v := .string x.scr) h55 rfl
      have p4 := cell_in (o := 4) (v := .int .i64 x.ht) h55 rfl
      have q0 := (hbW.cell (p := ⟨b3, off3 + jj * 5, none⟩) lb3).trans d0
      have q1 := (hbW.cell (p := ⟨b3, off3 + jj * 5 + 1, none⟩) lb3).trans d1
      have q2 := (hbW.cell (p := ⟨b3, off3 + jj * 5 + 2, none⟩) lb3).trans d2
      have q3 := (hbW.cell (p := ⟨b3, off3 + jj * 5 + 3, none⟩) lb3).trans d3
      have q4 := (hbW.cell (p := ⟨b3, off3 + jj * 5 + 4, none⟩) lb3).trans d4
      have BW := Lib.hid (HB.out.trans (hbW.mono (by omega)))
      have HW := Lib.hid hW
      have n1 := run_neq_pt
      have n2 := run_neq_co
      have n3 := pt_guard
      have n4 := co_guard
      have n5 : ptB x.id x.ix x.id x.ix = true := ptB_refl _ _
      have n6 : coB x.val x.scr x.ht x.val x.scr x.ht = true := coB_refl _ _ _
      clear hW hbW h55 d0 d1 d2 d3 d4 hxk
      go_upto_region 7 with (fail)
      rw [show World.alloc wr _ = W from HW.out.symm]
      clear c0 c1 c2 c3 c4
      go_quiet (fail)
      go_wp2_with fail
      go_roundg (m - (jj + 1))
      case measure => omega
      case rel => exact ⟨jj + 1, by omega, by omega, by go_num, by show w1.heap.size ≤ W.heap.size; omega, Lib.hid (below_drewN BW.out _)⟩
    · have k3 : ¬ (jj : Int) < (m : Int) := by omega
      have k4 : decide (jj < m) = false := decide_eq_false hlt
      go_wp2_with fail
      go_ret
      exact ⟨rfl, B1.out.trans (HB.out.mono (by omega))⟩

end Go.Proofs.Ytdchbeomlfancaa
