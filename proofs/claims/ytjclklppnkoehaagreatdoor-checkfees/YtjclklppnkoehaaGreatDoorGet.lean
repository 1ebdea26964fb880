/-
  The program's Get: the coin at a point.
-/
import Derived.Test.YtjclklppnkoehaaGreatDoorLf
import Derived.RegionTactic
import Derived.BigRegion
import Derived.Deep.CutBlock
namespace Go.Proofs.YtjclklppnkoehaaGreatDoor.Co
open Go.RowKit
set_option maxRecDepth 100000

set_option maxHeartbeats 1000000 in
theorem get_any (a b : Nat) (l : List EnD) (p : ByteArray) (i : Int) (w : World) (h : SetIs w a b l) (hp : PtOk p i) :
    Calls Tryz.prog 106 #[.pointer (some ⟨a, 0, none⟩), .agg #[.string p, .int .u32 i]] w fun e w' => e = .returned (.tuple #[.agg #[.int .i64 (atE l p i).val, .string (atE l p i).scr, .int .i64 (atE l p i).ht], .bool (hasB l p i)]) ∧ Below w.heap.size w w' := by
  have la := h.lta
  have lb := h.ltb
  obtain ⟨W, hW⟩ : ∃ W, W = (w.alloc (.cells #[.string p, .int .u32 i] 55)).alloc (.cells #[.int .i64 0, .string ⟨#[]⟩, .int .i64 0] 61) := ⟨_, rfl⟩
  have hz : W.heap.size = w.heap.size + 2 := by rw [hW]; simp
  have hBW : Below w.heap.size w W := by rw [hW]; exact ((Below.refl _ _).alloc (Nat.le_refl _) _).alloc (by simp) _
  have hS := h.below hBW la lb
  have c0 := hS.cell0
  have hla : a < W.heap.size := by omega
  have hlw : w.heap.size < W.heap.size := by omega
  have p0 : W.cell? ⟨w.heap.size, 0, none⟩ = some (.string p) := by rw [hW]; simp
  have p1 : W.cell? ⟨w.heap.size, 1, none⟩ = some (.int .u32 i) := by rw [hW]; simp
  have c0a : ∀ o, (W.alloc o).cell? ⟨a, 0, none⟩ = some (.map (some b)) := fun o => by rw [World.cell?_alloc_lt _ _ _ (by show a < _; omega)]; exact c0
  have p0a : ∀ o, (W.alloc o).cell? ⟨w.heap.size, 0, none⟩ = some (.string p) := fun o => by rw [World.cell?_alloc_lt _ _ _ (by show w.heap.size < _; omega)]; exact p0
  have p1a : ∀ o, (W.alloc o).cell? ⟨w.heap.size, 1, none⟩ = some (.int .u32 i) := fun o => by rw [World.cell?_alloc_lt _ _ _ (by show w.heap.size < _; omega)]; exact p1
  have Z := Lib.hid (show ∀ v s t, ∃ W2, W2 = (W.alloc (.cells #[.int .i64 v, .string s, .int .i64 t] 61)).drew ∧ Below w.heap.size w W2 ∧
      W2.cell? ⟨w.heap.size + 2, 0, none⟩ = some (.int .i64 v) ∧ W2.cell? ⟨w.heap.size + 2, 1, none⟩ = some (.string s) ∧ W2.cell? ⟨w.heap.size + 2, 2, none⟩ = some (.int .i64 t) ∧
      W2.cell? ⟨w.heap.size + 1, 0, none⟩ = some (.int .i64 0) ∧ W2.cell? ⟨w.heap.size + 1, 1, none⟩ = some (.string ⟨#[]⟩) ∧ W2.cell? ⟨w.heap.size + 1, 2, none⟩ = some (.int .i64 0) ∧ ∀ k, W2.frozen? ⟨w.heap.size + 1, k, none⟩ = false from fun v s t => by
    have hn : (W.alloc (.cells #[.int .i64 v, .string s, .int .i64 t] 61)).heap[w.heap.size + 2]? = some (.cells #[.int .i64 v, .string s, .int .i64 t] 61) := by rw [← hz]; exact heap_alloc_new _ _
    have ho : (W.alloc (.cells #[.int .i64 v, .string s, .int .i64 t] 61)).heap[w.heap.size + 1]? = some (.cells #[.int .i64 0, .string ⟨#[]⟩, .int .i64 0] 61) := by
      rw [Below.heap_alloc _ _ _ (by omega), hW, show w.heap.size + 1 = (w.alloc (.cells #[.string p, .int .u32 i] 55)).heap.size from by simp]
      exact heap_alloc_new _ _
    exact ⟨_, rfl, (hBW.alloc (by omega) _).drew, cell_in (w := World.drew _) (o := 0) hn rfl, cell_in (w := World.drew _) (o := 1) hn rfl, cell_in (w := World.drew _) (o := 2) hn rfl, cell_in (w := World.drew _) (o := 0) ho rfl, cell_in (w := World.drew _) (o := 1) ho rfl, cell_in (w := World.drew _) (o := 2) ho rfl, fun k => Lib.frozen_of_heap (w := World.drew _) ho k⟩)
  have r0 := (show MapIs W.drew b l from hS.map).look hS.good hp
  have r1 := fun o => (show MapIs (W.alloc o).drew b l from show MapIs (W.alloc o) b l from hS.map.keep (Below.heap_alloc _ _ _ (by omega))).look hS.good hp
  have HW := Lib.hid hW
  generalize atE l p i = y at r0 r1 ⊢
  generalize hasB l p i = q at r0 r1 ⊢
  obtain ⟨yi, yx, v, s, t⟩ := y
  simp only at r0 r1 ⊢
  clear h hp hS hBW hW
  go_enter Tryz.func106, Tryz.ntmps106
  go_upto_region 1 with (fail)
  rw [show World.alloc (World.alloc w _) _ = W from HW.out.symm]
  go_wp2_with fail
  go_region
  obtain ⟨W2, hW2, hb2, y0, y1, y2, z0, z1, z2, zf⟩ := Z.out v s t
  rw [← hW2]
  have B2 := Lib.hid hb2
  clear Z hW2 hb2 r0 r1 c0 c0a p0 p1 p0a p1a hz hla hlw HW
  go_wp2_with fail
  obtain ⟨W3, hW3⟩ : ∃ W3, W3 = setCo W2 (w.heap.size + 1) v s t := ⟨_, rfl⟩
  obtain ⟨q0, q1, q2⟩ := setCo_cells z0 z1 z2 v s t
  have B3 := Lib.hid (setCo_below B2.out (by omega : w.heap.size ≤ w.heap.size + 1) v s t)
  unfold setCo at hW3 q0 q1 q2 B3
  rw [← hW3] at q0 q1 q2 B3 ⊢
  refine bodyPost_ret (v := .tuple #[.agg #[.int .i64 v, .string s, .int .i64 t], .bool q]) (by simp [results, Tryz.results106, go_sem, q0, q1, q2]) rfl ?_
  exact ⟨rfl, B3.out⟩

end Go.Proofs.YtjclklppnkoehaaGreatDoor.Co
