/-
  The program's Put: a coin into a set.
-/
import Derived.Test.YtjclklppnkoehaaGreatDoorTake
namespace Go.Proofs.YtjclklppnkoehaaGreatDoor.Co
open Go.RowKit Go.ChangeMaps
set_option maxRecDepth 100000

theorem put_arg {l : List EnD} {x : EnD} (h : argB x = false) : putE l x = 2 ∧ putL l x = l := by
  have e : putE l x = 2 := by unfold putE; rw [if_pos h]
  exact ⟨e, by unfold putL; rw [e, if_neg (by decide)]⟩
theorem put_twice {l : List EnD} {x : EnD} (h : argB x = true) (h2 : hasB l x.id x.ix = true) : putE l x = 7 ∧ putL l x = l := by
  have e : putE l x = 7 := by unfold putE; rw [if_neg (by rw [h]; decide), if_pos h2]
  exact ⟨e, by unfold putL; rw [e, if_neg (by decide)]⟩
theorem put_range {l : List EnD} {x : EnD} (h : argB x = true) (h2 : hasB l x.id x.ix = false) (h3 : goodB (tot l + x.val) = false) : putE l x = 3 ∧ putL l x = l := by
  have e : putE l x = 3 := by unfold putE; rw [if_neg (by rw [h]; decide), if_neg (by rw [h2]; decide), if_pos h3]
  exact ⟨e, by unfold putL; rw [e, if_neg (by decide)]⟩
theorem put_yes {l : List EnD} {x : EnD} (h : argB x = true) (h2 : hasB l x.id x.ix = false) (h3 : goodB (tot l + x.val) = true) : putE l x = 0 ∧ putL l x = insR x l := by
  have e : putE l x = 0 := by unfold putE; rw [if_neg (by rw [h]; decide), if_neg (by rw [h2]; decide), if_neg (by rw [h3]; decide)]
  exact ⟨e, by unfold putL; rw [if_pos e]⟩
set_option maxHeartbeats 4000000 in
theorem put_any (a b : Nat) (l : List EnD) (x : EnD) (w : World) (h : SetIs w a b l) (hx : x.Ok) :
    Calls Tryz.prog 15 #[.pointer (some ⟨a, 0, none⟩), .agg #[.string x.id, .int .u32 x.ix], .agg #[.int .i64 x.val, .string x.scr, .int .i64 x.ht]] w fun e w' => e = .returned (.int .i64 (putE l x)) ∧ SetIs w' a b (putL l x) ∧ But2 a b w w' := by
  have la := h.lta
  have lb := h.ltb
  obtain ⟨w1, hw1⟩ : ∃ w1, w1 = w.alloc (.cells #[.string x.id, .int .u32 x.ix] 55) := ⟨_, rfl⟩
  have hz1 : w1.heap.size = w.heap.size + 1 := by rw [hw1]; simp
  have hb1 : Below w.heap.size w w1 := by rw [hw1]; exact (Below.refl _ _).alloc (Nat.le_refl _) _
  obtain ⟨W, hW⟩ : ∃ W, W = w1.alloc (.cells #[.int .i64 x.val, .string x.scr, .int .i64 x.ht] 61) := ⟨_, rfl⟩
  have hz : W.heap.size = w.heap.size + 2 := by rw [hW]; simp [hz1]
  have hBW : Below w.heap.size w W := by rw [hW]; exact hb1.alloc (by omega) _
  have h28 : W.heap[w.heap.size]? = some (.cells #[.string x.id, .int .u32 x.ix] 55) := by rw [hW, Below.heap_alloc _ _ _ (by omega), hw1]; exact heap_alloc_new _ _
  have h35 : W.heap[w.heap.size + 1]? = some (.cells #[.int .i64 x.val, .string x.scr, .int .i64 x.ht] 61) := by rw [hW, ← hz1]; exact heap_alloc_new _ _
  have s0 : W.cell? ⟨w.heap.size, 0, none⟩ = some (.string x.id) := cell_in (o := 0) h28 rfl
  have v0 : W.cell? ⟨w.heap.size + 1, 0, none⟩ = some (.int .i64 x.val) := cell_in (o := 0) h35 rfl
  have v1 : W.cell? ⟨w.heap.size + 1, 1, none⟩ = some (.string x.scr) := cell_in (o := 1) h35 rfl
  have v2 : W.cell? ⟨w.heap.size + 1, 2, none⟩ = some (.int .i64 x.ht) := cell_in (o := 2) h35 rfl
  have HG := Lib.hid (isgood_any x W)
  have HS := Lib.hid h
  have HX := Lib.hid hx
  have HB := Lib.hid hBW
  have HZ := Lib.hid hz
  have H28 := Lib.hid h28
  have H35 := Lib.hid h35
  have HW := Lib.hid (show W = (w.alloc (.cells #[.string x.id, .int .u32 x.ix] 55)).alloc (.cells #[.int .i64 x.val, .string x.scr, .int .i64 x.ht] 61) from by rw [hW, hw1])
  obtain ⟨pid, pix, v, s, t⟩ := x
  simp only at HG HW s0 v0 v1 v2 H28 H35 ⊢
  have EA : Hid (argB ⟨pid, pix, v, s, t⟩ = (decide (pid.size = 32) && (decide (0 ≤ t) && decide (t ≤ 1000000) && goodB v))) := Lib.hid rfl
  obtain ⟨g, hg⟩ : ∃ g, g = (decide (0 ≤ t) && decide (t ≤ 1000000) && goodB v) := ⟨_, rfl⟩
  rw [← hg] at HG EA
  have HGG := Lib.hid hg
  clear h hx hBW hz h28 h35 hW hw1 hz1 hb1 hg
  by_cases hs : pid.size = 32
  · have hsz : ((pid.size : Int) != 32) = false := by rw [hs]; rfl
    have EA' : Hid (argB ⟨pid, pix, v, s, t⟩ = g) := Lib.hid (by rw [EA.out]; simp [hs])
    have HSZ := Lib.hid hs
    clear hs EA
    go_enter Tryz.func15, Tryz.ntmps15
    go_upto_region 1 with (fail)
    rw [show World.alloc (World.alloc w _) _ = W from HW.out.symm]
    go_wp2_with fail
    refine HG.out.mono ?_
    rintro e w3 ⟨rfl, hb3⟩
    have HB3 := Lib.hid hb3
    clear hb3 s0 v0 v1 v2
    cases g with
    | false =>
      go_wp2_with fail
      go_ret
      have q := put_arg (l := l) EA'.out
      have hz := HZ.out
      have b3 := below_next HB.out (by omega) HB3.out
      exact ⟨ret_int q.1.symm, by rw [q.2]; exact HS.out.below b3 la lb, But2.of_below b3⟩
    | true =>
      have hz := HZ.out
      have hz3 := HB3.out.size
      have b3 := below_next HB.out (by omega) HB3.out
      have S3 := HS.out.below b3 la lb
      have h28 := (HB3.out.block w.heap.size (by omega)).trans H28.out
      have h35 := (HB3.out.block (w.heap.size + 1) (by omega)).trans H35.out
      have p0 : w3.cell? ⟨w.heap.size, 0, none⟩ = some (.string pid) := cell_in (o := 0) h28 rfl
      have p1 : w3.cell? ⟨w.heap.size, 1, none⟩ = some (.int .u32 pix) := cell_in (o := 1) h28 rfl
      obtain ⟨c0, c0a, p0a, p1a, r0, r1⟩ := look_facts S3 HX.out.1 p0 p1 (by omega)
      obtain ⟨w4, hw4, hb4, hz4, y0, y1, y2⟩ := co_box w3 (atE l pid pix).val (atE l pid pix).scr (atE l pid pix).ht
      have HB4 := Lib.hid (below_next b3 (by omega) hb4)
      have HBB := Lib.hid hb4
      have HW4 := Lib.hid hw4
      obtain ⟨q, hq⟩ : ∃ q, q = hasB l pid pix := ⟨_, rfl⟩
      have HQ := Lib.hid hq
      rw [← hq] at r0 r1
      have HZ4 := Lib.hid (And.intro hz4 (And.intro hz3 hz))
      generalize atE l pid pix = y at HW4 r0 r1
      obtain ⟨yi, yx, yv, ys, yt⟩ := y
      simp only at r0 r1 HW4
      clear hw4 hb4 y0 y1 y2 hq hz hz3 hz4 b3 S3 h28 h35
      go_wp2_with fail
      go_region
      rw [show World.drew (World.alloc w3 _) = w4 from HW4.out.symm]
      clear r0 r1 c0 c0a p0 p1 p0a p1a HW4
      have S4 := Lib.hid (HS.out.below HB4.out la lb)
      cases q with
      | true =>
        go_wp2_with fail
        go_ret
        have q := put_twice EA'.out HQ.out.symm
        exact ⟨ret_int q.1.symm, by rw [q.2]; exact S4.out, But2.of_below HB4.out⟩
      | false =>
        have hz := HZ4.out
        have h28 := ((HBB.out.block w.heap.size (by omega)).trans (HB3.out.block w.heap.size (by omega))).trans H28.out
        have h35 := ((HBB.out.block (w.heap.size + 1) (by omega)).trans (HB3.out.block (w.heap.size + 1) (by omega))).trans H35.out
        have p0 : w4.cell? ⟨w.heap.size, 0, none⟩ = some (.string pid) := cell_in (o := 0) h28 rfl
        have p1 : w4.cell? ⟨w.heap.size, 1, none⟩ = some (.int .u32 pix) := cell_in (o := 1) h28 rfl
        have v0 : w4.cell? ⟨w.heap.size + 1, 0, none⟩ = some (.int .i64 v) := cell_in (o := 0) h35 rfl
        have v1 : w4.cell? ⟨w.heap.size + 1, 1, none⟩ = some (.string s) := cell_in (o := 1) h35 rfl
        have v2 : w4.cell? ⟨w.heap.size + 1, 2, none⟩ = some (.int .i64 t) := cell_in (o := 2) h35 rfl
        have c0 := S4.out.cell0
        have c1 := S4.out.cell1
        have ga : goodB (tot l) = true := goodB_iff.2 ⟨S4.out.good.zero, S4.out.good.most⟩
        have gv : goodB v = true := by have := HGG.out.symm; simp only [Bool.and_eq_true] at this; exact this.2
        have CA := fun W => add_any (tot l) v W ga gv
        obtain ⟨tl, htl⟩ : ∃ tl, tl = tot l := ⟨_, rfl⟩
        rw [← htl] at c1 CA
        have HTL := Lib.hid htl
        clear htl ga gv hz h28 h35
        cases hgg : goodB (tl + v) with
        | false =>
          rw [hgg] at CA
          simp only [Bool.false_eq_true, if_false] at CA
          have hgh := Lib.hid hgg
          clear hgg
          go_wp2_with fail
          go_quiet ((go_at_call 36; exact Calls.quiet_of_same ((CA _).mono fun _ _ h => ⟨h.1, h.2⟩)))
          go_wp2_with fail
          go_ret
          have q := put_range (l := l) EA'.out HQ.out.symm (by rw [← HTL.out]; exact hgh.out)
          have b5 := below_drewN HB4.out nq
          exact ⟨ret_int q.1.symm, by rw [q.2]; exact HS.out.below b5 la lb, But2.of_below b5⟩
        | true =>
          rw [hgg] at CA
          simp only [if_true] at CA
          have hgh := Lib.hid hgg
          clear hgg
          go_wp2_with fail
          go_quiet ((go_at_call 36; exact Calls.quiet_of_same ((CA _).mono fun _ _ h => ⟨h.1, h.2⟩)))
          obtain ⟨w5, hw5⟩ : ∃ w5, w5 = w4.drewN nq := ⟨_, rfl⟩
          rw [← hw5]
          have B5 := Lib.hid (show Below w.heap.size w w5 from by rw [hw5]; exact below_drewN HB4.out nq)
          have hp5 : w5.heap = w4.heap := by rw [hw5]; rfl
          have hc5 : ∀ k o, w5.cell? ⟨k, o, none⟩ = w4.cell? ⟨k, o, none⟩ := fun k o => World.cell?_of_block (w := w4) (by rw [hp5])
          rw [← hc5] at p0 p1 v0 v1 v2 c0 c1
          have S5 := Lib.hid (show SetIs w5 a b l from S4.out.keep (by rw [hp5]) (by rw [hp5]))
          have f1 := S5.out.free 1
          obtain ⟨st, o1, o2, r1, r2, r3⟩ := S5.out.map.push S5.out.good HX.out.1 HQ.out.symm
          simp only at r1 r2
          have hne := S5.out.ne
          have la5 : a < w5.heap.size := S5.out.lta
          have lb5 : b < w5.heap.size := S5.out.ltb
          have m1 := r1 w5.drew rfl
          have m1s := r1 (w5.setCell ⟨a, 1, none⟩ (.int .i64 (tl + v))).drew (Below.heap_setCell w5 ⟨a, 1, none⟩ _ b (fun e => hne e.symm))
          obtain ⟨Y1, hY1⟩ : ∃ Y, Y = setBlock w5.drew b o1 := ⟨_, rfl⟩
          obtain ⟨Y2, hY2⟩ : ∃ Y, Y = setBlock (w5.setCell ⟨a, 1, none⟩ (.int .i64 (tl + v))).drew b o1 := ⟨_, rfl⟩
          rw [← hY1] at m1
          rw [← hY2] at m1s
          have a1 : Y1.heap[a]? = w5.heap[a]? := by rw [hY1]; exact set_heap_other (w := w5.drew) o1 hne
          have b1 : Y1.heap[b]? = some o1 := by rw [hY1]; exact set_heap_at (w := w5.drew) o1 lb5
          have b2 : Y2.heap[b]? = some o1 := by rw [hY2]; exact set_heap_at (w := World.drew _) o1 (by show b < (World.setCell _ _ _).heap.size; rw [World.size_setCell]; exact lb5)
          have n1 : Y1.cell? ⟨a, 1, none⟩ = some (.int .i64 tl) := (World.cell?_of_block (w := w5) a1).trans c1
          have n1f : Y1.frozen? ⟨a, 1, none⟩ = false := (World.frozen?_of_block (w := w5) a1).trans f1
          have e2 := r2 Y1 b1
          have e2s := r2 (Y1.setCell ⟨a, 1, none⟩ (.int .i64 (tl + v))) ((Below.heap_setCell Y1 ⟨a, 1, none⟩ _ b (fun e => hne e.symm)).trans b1)
          have e2t := r2 Y2 b2
          have a2 : (setBlock Y1 b o2).heap[a]? = w5.heap[a]? := (set_heap_other o2 hne).trans a1
          have n2 : (setBlock Y1 b o2).cell? ⟨a, 1, none⟩ = some (.int .i64 tl) := (World.cell?_of_block (w := w5) a2).trans c1
          have n2f : (setBlock Y1 b o2).frozen? ⟨a, 1, none⟩ = false := (World.frozen?_of_block (w := w5) a2).trans f1
          have hl := HZ4.out
          have o1' : ∀ k o, k ≠ b → Y1.cell? ⟨k, o, none⟩ = w5.cell? ⟨k, o, none⟩ := fun k o hk => World.cell?_of_block (w := w5) (by rw [hY1]; exact set_heap_other (w := w5.drew) _ hk)
          have os' : ∀ k o, k ≠ a → (w5.setCell ⟨a, 1, none⟩ (.int .i64 (tl + v))).cell? ⟨k, o, none⟩ = w5.cell? ⟨k, o, none⟩ := fun k o hk => World.cell?_of_block (w := w5) (Below.heap_setCell w5 ⟨a, 1, none⟩ _ k (by exact hk))
          have o2' : ∀ k o, k ≠ a → k ≠ b → Y2.cell? ⟨k, o, none⟩ = w5.cell? ⟨k, o, none⟩ := fun k o h1 h2 => (World.cell?_of_block (w := World.drew (w5.setCell ⟨a, 1, none⟩ (.int .i64 (tl + v)))) (by rw [hY2]; exact set_heap_other _ h2)).trans (os' k o h1)
          have u0 := (o1' (w.heap.size + 1) 0 (by omega)).trans v0
          have u1 := (o1' (w.heap.size + 1) 1 (by omega)).trans v1
          have u2 := (o1' (w.heap.size + 1) 2 (by omega)).trans v2
          have k0 := (os' (w.heap.size + 1) 0 (by omega)).trans v0
          have k1 := (os' (w.heap.size + 1) 1 (by omega)).trans v1
          have k2 := (os' (w.heap.size + 1) 2 (by omega)).trans v2
          have k3 := (os' w.heap.size 0 (by omega)).trans p0
          have k4 := (os' w.heap.size 1 (by omega)).trans p1
          have k5 : (w5.setCell ⟨a, 1, none⟩ (.int .i64 (tl + v))).cell? ⟨a, 0, none⟩ = some (.map (some b)) := (World.cell?_setCell_other _ _ _ _ (by simp)).trans c0
          have j0 := (o2' (w.heap.size + 1) 0 (by omega) (by omega)).trans v0
          have j1 := (o2' (w.heap.size + 1) 1 (by omega) (by omega)).trans v1
          have j2 := (o2' (w.heap.size + 1) 2 (by omega) (by omega)).trans v2
          have HY := Lib.hid (And.intro hY1 hY2)
          have HNE := Lib.hid hne
          clear hl o1' os' o2' hY1 hY2 a1 b1 b2 a2 hne r1 r2 la5 lb5
          have HR3 := Lib.hid r3
          clear r3 hw5 hp5 hc5 CA
          go_wp2_with fail
          go_region
          go_wp2_with fail
          go_ret
          obtain ⟨W9, hW9⟩ : ∃ W9, W9 = (setBlock Y1 b o2).setCell ⟨a, 1, none⟩ (.int .i64 (tl + v)) := ⟨_, rfl⟩
          rw [← hW9]
          have hne := HNE.out
          have q := put_yes (l := l) EA'.out HQ.out.symm (by rw [← HTL.out]; exact hgh.out)
          have hY1 := HY.out.1
          have lb5 := S5.out.ltb
          have sz : W9.heap.size = w5.heap.size := by rw [hW9, World.size_setCell, set_size, hY1, set_size]; rfl
          have oth : ∀ k, k ≠ a → k ≠ b → W9.heap[k]? = w5.heap[k]? := fun k h1 h2 => by
            rw [hW9]
            refine (Below.heap_setCell _ ⟨a, 1, none⟩ _ k (by exact h1)).trans ?_
            rw [set_heap_other _ h2, hY1]
            exact set_heap_other (w := w5.drew) o1 h2
          have hb9 : W9.heap[b]? = some o2 := by
            rw [hW9]
            exact (Below.heap_setCell _ ⟨a, 1, none⟩ _ b (fun e => hne e.symm)).trans (set_heap_at _ (by rw [hY1, set_size]; exact lb5))
          have ha9 : W9.heap[a]? = some (.cells #[.map (some b), .int .i64 (tl + v)] 104 (0, 0)) := by
            rw [hW9]
            refine set_tot (t := tl) ?_ _
            rw [set_heap_other _ hne, hY1, HTL.out]
            exact (set_heap_other (w := w5.drew) o1 hne).trans S5.out.blk
          have et : tl + v = tot (insR ⟨pid, pix, v, s, t⟩ l) := by rw [tot_perm (insR_perm _ l), tot_cons, HTL.out]; simp only; omega
          have gd := S5.out.good.put HX.out
          rw [q.2] at gd
          refine ⟨ret_int q.1.symm, ?_, ?_⟩
          · rw [q.2]
            exact ⟨hne, by rw [← et]; exact ha9, HR3.out W9 hb9, gd⟩
          · have k5 : But2 a b w w5 := But2.of_below B5.out
            exact k5.trans ⟨by rw [hW9, hY1]; rfl, by rw [hW9, hY1]; rfl, by rw [hW9, hY1]; rfl, by omega, fun k _ h1 h2 => oth k h1 h2⟩
  · have hsz : ((pid.size : Int) != 32) = true := by rw [bne_iff_ne]; omega
    have EA' : Hid (argB ⟨pid, pix, v, s, t⟩ = false) := Lib.hid (by rw [EA.out]; simp [hs])
    clear hs EA
    go_enter Tryz.func15, Tryz.ntmps15
    go_upto_region 1 with (fail)
    rw [show World.alloc (World.alloc w _) _ = W from HW.out.symm]
    go_wp2_with fail
    go_ret
    have q := put_arg (l := l) EA'.out
    exact ⟨ret_int q.1.symm, by rw [q.2]; exact HS.out.below HB.out la lb, But2.of_below HB.out⟩

end Go.Proofs.YtjclklppnkoehaaGreatDoor.Co
