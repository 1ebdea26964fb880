/-
  The place that an error tells.
-/
import Derived.Test.YtnmfjnfdnjjngaaGreatDoorMEra
import Derived.Deep.CutBlock
import Derived.Lib.SmallJoins
import Derived.Lib.Builder
import Derived.Laws.IdiomRangeMap
namespace Go.Proofs.YtnmfjnfdnjjngaaGreatDoor
open Go.RowKit Go.Extern.Stop Go.Stop Go.Extern
set_option maxRecDepth 100000

theorem ErrDoor.below {B : Nat} {w w' : World} (h : ErrDoor w) (hb : Below B w w') (h0 : 0 < B) : ErrDoor w' := (World.cell?_of_block (w := w) (a := ⟨0, 0, none⟩) (hb.block 0 h0)).trans h

set_option maxHeartbeats 1000000 in
/-- api.Place of nil. -/
theorem place_nil (w : World) : Calls Tryz.prog 14 #[.nilIface] w fun e w' => e = .returned (.int .i64 (-1)) ∧ Below w.heap.size w w' := by
  go_enter Tryz.func14, Tryz.ntmps14
  go_wp2
  go_ret
  exact ⟨rfl, (Below.refl _ _).alloc (Nat.le_refl _) _⟩

set_option maxHeartbeats 1000000 in
/-- api.Place of a number. -/
theorem place_num (a : Int) (w : World) (hg : ErrDoor w) : Calls Tryz.prog 14 #[.iface 38 (.int .i64 a)] w fun e w' => e = .returned (.int .i64 (-1)) ∧ Below w.heap.size w w' := by
  obtain ⟨w1, hw1⟩ : ∃ w1, w1 = w.alloc (.cells #[.pointer none] 92) := ⟨_, rfl⟩
  have hz : w1.heap.size = w.heap.size + 1 := by rw [hw1]; simp
  have hb : Below w.heap.size w w1 := by rw [hw1]; exact (Below.refl _ _).alloc (Nat.le_refl _) _
  have hg1 := hg.below hb hg.lt
  have ht : w1.cell? ⟨w.heap.size, 0, none⟩ = some (.pointer none) := by rw [hw1]; simp
  have C := Lib.hid (show Calls Tryz.prog 35 #[.iface 38 (.int .i64 a), .iface 97 (.pointer (some ⟨w.heap.size, 0, none⟩))] w1 fun ev w' => ev = .returned (.bool false) ∧ Hid (Below w.heap.size w w') from
    (as_num a ⟨w.heap.size, 0, none⟩ _ w1 hg1 ht).mono fun ev w' ⟨he, hw⟩ => ⟨he, Lib.hid (by rw [hw]; exact ((hb.alloc (by omega) _).alloc (by simp; omega) _).alloc (by simp; omega) _)⟩)
  have HW := Lib.hid hw1
  clear hw1 hb hg1 ht hg
  go_enter Tryz.func14, Tryz.ntmps14
  go_upto_region 2 with (fail)
  rw [show World.alloc w _ = w1 from HW.out.symm]
  go_wp2_with fail
  refine C.out.mono ?_
  rintro e w2 ⟨rfl, hb2⟩
  go_wp2_with fail
  go_ret
  exact ⟨rfl, hb2.out⟩

set_option maxHeartbeats 1000000 in
/-- api.Place of a Fault. -/
theorem place_fault (b o : Nat) (n : Int) (w : World) (hg : ErrDoor w) (h0 : w.cell? ⟨b, o, none⟩ = some (.int .i64 n)) (hlt : b < w.heap.size) :
    Calls Tryz.prog 14 #[.iface 92 (.pointer (some ⟨b, o, none⟩))] w fun e w' => e = .returned (.int .i64 n) ∧ Below w.heap.size w w' := by
  obtain ⟨w1, hw1⟩ : ∃ w1, w1 = w.alloc (.cells #[.pointer none] 92) := ⟨_, rfl⟩
  have hz : w1.heap.size = w.heap.size + 1 := by rw [hw1]; simp
  have hb : Below w.heap.size w w1 := by rw [hw1]; exact (Below.refl _ _).alloc (Nat.le_refl _) _
  have hg1 := hg.below hb hg.lt
  have ht : w1.cell? ⟨w.heap.size, 0, none⟩ = some (.pointer none) := by rw [hw1]; simp
  have hf : w1.frozen? ⟨w.heap.size, 0, none⟩ = false := by rw [hw1]; exact Lib.frozen_of_heap (heap_alloc_new w (.cells #[.pointer none] 92)) 0
  have C := Lib.hid (show Calls Tryz.prog 35 #[.iface 92 (.pointer (some ⟨b, o, none⟩)), .iface 97 (.pointer (some ⟨w.heap.size, 0, none⟩))] w1 fun ev w' => ev = .returned (.bool true) ∧ w'.cell? ⟨w.heap.size, 0, none⟩ = some (.pointer (some ⟨b, o, none⟩)) ∧ w'.cell? ⟨b, o, none⟩ = some (.int .i64 n) ∧ Hid (Below w.heap.size w w') from
    (as_fault ⟨b, o, none⟩ ⟨w.heap.size, 0, none⟩ _ w1 hg1 ht hf).mono fun ev w' ⟨he, hw⟩ => by
      have hB : Below w.heap.size w w' := by rw [hw]; exact ((((hb.alloc (by omega) _).alloc (by simp; omega) _).alloc (by simp; omega) _).alloc (by simp; omega) _).setCell (by simp) _
      refine ⟨he, ?_, (World.cell?_of_block (w := w) (a := ⟨b, o, none⟩) (hB.block b hlt)).trans h0, Lib.hid hB⟩
      rw [hw]
      refine World.cell?_setCell_same _ _ _ (u := .pointer none) ?_
      rw [World.cell?_alloc_lt _ _ _ (by simp; omega), World.cell?_alloc_lt _ _ _ (by simp; omega), World.cell?_alloc_lt _ _ _ (by simp; omega), World.cell?_alloc_lt _ _ _ (by simp; omega)]
      exact ht)
  have HW := Lib.hid hw1
  clear hw1 hb hg1 ht hg hf h0
  go_enter Tryz.func14, Tryz.ntmps14
  go_upto_region 2 with (fail)
  rw [show World.alloc w _ = w1 from HW.out.symm]
  go_wp2_with fail
  refine C.out.mono ?_
  rintro e w2 ⟨rfl, c0, c1, hb2⟩
  go_wp2_with fail
  go_ret
  exact ⟨rfl, hb2.out⟩

end Go.Proofs.YtnmfjnfdnjjngaaGreatDoor
