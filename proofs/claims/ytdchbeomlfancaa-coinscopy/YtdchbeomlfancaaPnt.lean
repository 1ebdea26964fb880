/-
  The point of an act.
-/
import Derived.Test.YtdchbeomlfancaaAct
import Derived.Deep.RegionHeld3
namespace Go.Proofs.Ytdchbeomlfancaa
open Go.RowKit

/-- A point stored into a block of two cells. -/
def setPt (w : World) (n : Nat) (p : ByteArray) (i : Int) : World := (w.setCell ⟨n, 0, none⟩ (.string p)).setCell ⟨n, 1, none⟩ (.int .u32 i)
theorem setPt_cells {w : World} {n : Nat} {x y : Value} (h0 : w.cell? ⟨n, 0, none⟩ = some x) (h1 : w.cell? ⟨n, 1, none⟩ = some y) (p : ByteArray) (i : Int) :
    (setPt w n p i).cell? ⟨n, 0, none⟩ = some (.string p) ∧ (setPt w n p i).cell? ⟨n, 1, none⟩ = some (.int .u32 i) := by
  unfold setPt
  exact ⟨(World.cell?_setCell_other _ _ _ _ (by simp)).trans (World.cell?_setCell_same _ _ _ h0), World.cell?_setCell_same _ _ _ ((World.cell?_setCell_other _ _ _ _ (by simp)).trans h1)⟩
theorem setPt_below {B n : Nat} {a w : World} (h : Below B a w) (hn : B ≤ n) (p : ByteArray) (i : Int) : Below B a (setPt w n p i) := (h.setCell hn _).setCell hn _

/-- The point of an act. -/
def ptI (a : AcD) : ByteArray := if a.odd = true then cut40 a.rid else idT (a.id8 % 6) 32
def ptX (a : AcD) : Int := if a.odd = true then a.rix else a.ix8 % 3
theorem pt_ok (a : AcD) (h : a.Ok) : PtOk (ptI a) (ptX a) := by
  have h1 := h.2.2.2.2.2.2.2.2.2.2.2.2
  unfold ptI ptX
  cases a.odd with
  | true =>
    have := cut40_size a.rid
    simp only [if_true]
    exact ⟨by omega, h1.1, h1.2⟩
  | false =>
    have := idT_size (a.id8 % 6) 32
    simp only [Bool.false_eq_true, if_false]
    exact ⟨by omega, by omega, by omega⟩

set_option maxHeartbeats 2000000 in
theorem point_any (a : AcD) (w : World) (h : a.Ok) :
    Calls Try.prog 8 #[.agg (acL a)] w fun e w' => e = .returned (.agg #[.string (ptI a), .int .u32 (ptX a)]) ∧ Below w.heap.size w w' := by
  obtain ⟨d, i8, x8, v, t, s, rid, rix, od⟩ := a
  have hsz := h.2.2.2.2.2.2.2.2.2.2.2.1
  have hi8 := h.2.2.1
  have hi8' := h.2.2.2.1
  have hx8 := h.2.2.2.2.1
  have hx8' := h.2.2.2.2.2.1
  simp only at hsz hi8 hi8' hx8 hx8'
  have hss : rid.size ≤ 9223372036854775807 := by unfold maxLen at hsz; omega
  obtain ⟨W, hW⟩ : ∃ W, W = (w.alloc (.cells #[.int .u8 d, .int .u8 i8, .int .u8 x8, .int .i64 v, .int .i64 t, .string s, .string rid, .int .u32 rix, .bool od] 30)).alloc (.cells #[.string ⟨#[]⟩, .int .u32 0] 28) := ⟨_, rfl⟩
  have hz : W.heap.size = w.heap.size + 2 := by rw [hW]; simp
  have hB := Lib.hid (show Below w.heap.size w W from by rw [hW]; exact ((Below.refl _ _).alloc (Nat.le_refl _) _).alloc (by simp) _)
  have h30 : W.heap[w.heap.size]? = some (.cells #[.int .u8 d, .int .u8 i8, .int .u8 x8, .int .i64 v, .int .i64 t, .string s, .string rid, .int .u32 rix, .bool od] 30) := by
    rw [hW, Below.heap_alloc _ _ _ (by simp)]
    exact heap_alloc_new _ _
  have h28 : W.heap[w.heap.size + 1]? = some (.cells #[.string ⟨#[]⟩, .int .u32 0] 28) := by
    rw [hW, show w.heap.size + 1 = (w.alloc (.cells #[.int .u8 d, .int .u8 i8, .int .u8 x8, .int .i64 v, .int .i64 t, .string s, .string rid, .int .u32 rix, .bool od] 30)).heap.size from by simp]
    exact heap_alloc_new _ _
  have c1 := cell_in (o := 1) (v := .int .u8 i8) h30 rfl
  have c2 := cell_in (o := 2) (v := .int .u8 x8) h30 rfl
  have c6 := cell_in (o := 6) (v := .string rid) h30 rfl
  have c7 := cell_in (o := 7) (v := .int .u32 rix) h30 rfl
  have c8 := cell_in (o := 8) (v := .bool od) h30 rfl
  have z0 := cell_in (o := 0) (v := .string ⟨#[]⟩) h28 rfl
  have z1 := cell_in (o := 1) (v := .int .u32 0) h28 rfl
  have zf := fun k => Lib.frozen_of_heap h28 k
  have HW := Lib.hid hW
  have H30 := Lib.hid h30
  have H28 := Lib.hid h28
  clear hsz h hW h30 h28
  show Calls Try.prog 8 #[.agg #[.int .u8 d, .int .u8 i8, .int .u8 x8, .int .i64 v, .int .i64 t, .string s, .string rid, .int .u32 rix, .bool od]] w _
  cases od with
  | true =>
    have hs : rid.extract 0 (min (rid.size : Int) 40).toNat = cut40 rid := rfl
    show Calls Try.prog 8 #[.agg #[.int .u8 d, .int .u8 i8, .int .u8 x8, .int .i64 v, .int .i64 t, .string s, .string rid, .int .u32 rix, .bool true]] w fun e w' => e = .returned (.agg #[.string (cut40 rid), .int .u32 rix]) ∧ Below w.heap.size w w'
    obtain ⟨c, hc⟩ : ∃ c, c = cut40 rid := ⟨_, rfl⟩
    rw [← hc] at hs ⊢
    clear hc
    go_enter Try.func8, Try.ntmps8
    go_upto_region 1 with (fail)
    rw [show World.alloc (World.alloc w _) _ = W from HW.out.symm]
    go_wp2_with fail
    go_region
    go_wp2_with fail
    obtain ⟨q0, q1⟩ := setPt_cells z0 z1 c rix
    have N5 := Lib.hid (setPt_below hB.out (by omega : w.heap.size ≤ w.heap.size + 1) c rix).drew
    obtain ⟨W5, hW5⟩ : ∃ W5, W5 = (setPt W (w.heap.size + 1) c rix).drew := ⟨_, rfl⟩
    have x0 : W5.cell? ⟨w.heap.size + 1, 0, none⟩ = some (.string c) := by rw [hW5]; exact q0
    have x1 : W5.cell? ⟨w.heap.size + 1, 1, none⟩ = some (.int .u32 rix) := by rw [hW5]; exact q1
    rw [← hW5] at N5
    unfold setPt at hW5
    rw [← hW5]
    refine bodyPost_ret (v := .agg #[.string c, .int .u32 rix]) (by simp [results, Try.results8, go_sem, x0, x1]) rfl ?_
    exact ⟨rfl, N5.out⟩
  | false =>
    have CI := Lib.hid (fun n V => id_det n V)
    show Calls Try.prog 8 #[.agg #[.int .u8 d, .int .u8 i8, .int .u8 x8, .int .i64 v, .int .i64 t, .string s, .string rid, .int .u32 rix, .bool false]] w fun e w' => e = .returned (.agg #[.string (idT (i8 % 6) 32), .int .u32 (x8 % 3)]) ∧ Below w.heap.size w w'
    obtain ⟨sx, hsx⟩ : ∃ sx, sx = idT (i8 % 6) 32 := ⟨_, rfl⟩
    have CI' := Lib.hid (CI.out (i8 % 6) W.drew)
    rw [← hsx] at CI' ⊢
    clear hsx CI
    have hm1 : i8.tmod 6 = i8 % 6 := Int.tmod_eq_emod_of_nonneg hi8
    have hm2 : x8.tmod 3 = x8 % 3 := Int.tmod_eq_emod_of_nonneg hx8
    have n6 : ¬ (6 : Int) = 0 := by decide
    have n3 : ¬ (3 : Int) = 0 := by decide
    have w1 : IntKind.u8.wrap (i8 % 6) = i8 % 6 := IntWalk.u8_in _ (by omega)
    have w2 : IntKind.u8.wrap (x8 % 3) = x8 % 3 := IntWalk.u8_in _ (by omega)
    have w3 : IntKind.i64.wrap (i8 % 6) = i8 % 6 := IntWalk.i64_in _ (by omega)
    have w4 : IntKind.u32.wrap (x8 % 3) = x8 % 3 := IntWalk.u32_in _ (by omega)
    go_enter Try.func8, Try.ntmps8
    go_upto_region 1 with (fail)
    rw [show World.alloc (World.alloc w _) _ = W from HW.out.symm]
    go_wp2_with fail
    have hl0 : w.heap.size < W.heap.size := by omega
    have hl1 : w.heap.size + 1 < W.heap.size := by omega
    have CD := Lib.hid (show Calls Try.prog 23 #[.int .i64 (i8 % 6)] W.drew fun e w' => e = .returned (.string sx) ∧ Hid (Below W.heap.size W w') ∧ w'.cell? ⟨w.heap.size, 1, none⟩ = some (.int .u8 i8) ∧ w'.cell? ⟨w.heap.size, 2, none⟩ = some (.int .u8 x8) ∧
        w'.cell? ⟨w.heap.size + 1, 0, none⟩ = some (.string ⟨#[]⟩) ∧ w'.cell? ⟨w.heap.size + 1, 1, none⟩ = some (.int .u32 0) ∧ w'.frozen? ⟨w.heap.size + 1, 0, none⟩ = false ∧ w'.frozen? ⟨w.heap.size + 1, 1, none⟩ = false from
      CI'.out.mono fun e w' ⟨he, hb⟩ => by
        have hb' : Below W.heap.size W w' := ⟨hb.os, hb.tape, hb.output, hb.size, hb.block⟩
        exact ⟨he, Lib.hid hb', (hb'.cell (p := ⟨w.heap.size, 1, none⟩) hl0).trans c1, (hb'.cell (p := ⟨w.heap.size, 2, none⟩) hl0).trans c2, (hb'.cell (p := ⟨w.heap.size + 1, 0, none⟩) hl1).trans z0, (hb'.cell (p := ⟨w.heap.size + 1, 1, none⟩) hl1).trans z1, (hb'.frozen (p := ⟨w.heap.size + 1, 0, none⟩) hl1).trans (zf 0), (hb'.frozen (p := ⟨w.heap.size + 1, 1, none⟩) hl1).trans (zf 1)⟩)
    clear CI'
    go_region_held3 (fun w' => w'.cell? ⟨w.heap.size, 1, none⟩ = some (.int .u8 i8) ∧ w'.cell? ⟨w.heap.size, 2, none⟩ = some (.int .u8 x8))
      (go_keep)
      (first
        | (go_at_call 23; refine CD.out.mono ?_; rintro e w9 ⟨rfl, hb9, d1, d2, y0, y1, f0, f1⟩))
    go_wp2_with fail
    obtain ⟨q0, q1⟩ := setPt_cells y0 y1 sx (x8 % 3)
    have N5 := Lib.hid (setPt_below (hB.out.trans (hb9.out.mono (by omega))) (by omega : w.heap.size ≤ w.heap.size + 1) sx (x8 % 3))
    obtain ⟨W5, hW5⟩ : ∃ W5, W5 = setPt w9 (w.heap.size + 1) sx (x8 % 3) := ⟨_, rfl⟩
    rw [← hW5] at q0 q1 N5
    unfold setPt at hW5
    rw [← hW5]
    refine bodyPost_ret (v := .agg #[.string sx, .int .u32 (x8 % 3)]) (by simp [results, Try.results8, go_sem, q0, q1]) rfl ?_
    exact ⟨rfl, N5.out⟩

end Go.Proofs.Ytdchbeomlfancaa
