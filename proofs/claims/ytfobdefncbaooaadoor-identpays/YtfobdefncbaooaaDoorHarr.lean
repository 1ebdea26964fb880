/-
  Arrays of words in the memory: a block's cells, read and written.
-/
import Derived.Below
import Derived.Laws.Rows
import Derived.Laws.Tables
import Derived.Deep.WholeRow
import Derived.Laws.CopyOwn
import Derived.WalkKit
import Derived.Deep.QuietTactic
import Derived.BigQuiet
namespace Go.Proofs.YtfobdefncbaooaaDoor.Sh
open Go.RowKit

/-- Words in cells. -/
def cellsOf (l : List Int) : Array Value := (l.map (Value.int .u32)).toArray
theorem cellsOf_size (l : List Int) : (cellsOf l).size = l.length := by simp [cellsOf]
theorem cellsOf_one (l : List Int) : (cellsOf l).all (·.oneCell') = true := by
  simp [cellsOf, Value.oneCell']
theorem cellsOf_get (l : List Int) (j : Nat) (h : j < l.length) : (cellsOf l)[j]? = some (.int .u32 (l.getD j 0)) := by
  simp [cellsOf, h]
theorem cellsOf_set (l : List Int) (j : Nat) (v : Int) : (cellsOf l).setIfInBounds j (.int .u32 v) = cellsOf (l.set j v) := by
  simp [cellsOf, List.map_set]

/-- The block g holds these words. -/
def Arr (w : World) (g : Nat) (t : TypeId) (l : List Int) : Prop := w.heap[g]? = some (.cells (cellsOf l) t (0, 0))

theorem Arr.new (w : World) (t : TypeId) (l : List Int) : Arr (w.alloc (.cells (cellsOf l) t)) w.heap.size t l := heap_alloc_last w _
theorem Arr.lt {w : World} {g : Nat} {t : TypeId} {l : List Int} (h : Arr w g t l) : g < w.heap.size := by
  rcases Nat.lt_or_ge g w.heap.size with hlt | hge
  · exact hlt
  · unfold Arr at h; rw [Array.getElem?_eq_none hge] at h; cases h
theorem Arr.cell {w : World} {g : Nat} {t : TypeId} {l : List Int} (h : Arr w g t l) (j : Nat) (hj : j < l.length) : w.cell? ⟨g, j, none⟩ = some (.int .u32 (l.getD j 0)) :=
  (cell_of_row w g j _ t _ h).trans (cellsOf_get l j hj)
theorem Arr.frozen {w : World} {g : Nat} {t : TypeId} {l : List Int} (h : Arr w g t l) (j : Nat) : w.frozen? ⟨g, j, none⟩ = false := frozen_of_row w g j _ t h
theorem Arr.set {w : World} {g : Nat} {t : TypeId} {l : List Int} (h : Arr w g t l) (j : Nat) (v : Int) : Arr (w.setCell ⟨g, j, none⟩ (.int .u32 v)) g t (l.set j v) := by
  unfold Arr
  rw [setCell_eq_setRow w g j _ t (0, 0) _ h, cellsOf_set]
  exact setRow_heap w g _ _ t _ h
theorem Arr.other {w : World} {g : Nat} {t : TypeId} {l : List Int} (h : Arr w g t l) {g' : Nat} (hg : g ≠ g') (j : Nat) (v : Value) : Arr (w.setCell ⟨g', j, none⟩ v) g t l :=
  (Below.heap_setCell w _ v g hg).trans h
theorem Arr.alloc {w : World} {g : Nat} {t : TypeId} {l : List Int} (h : Arr w g t l) (o : Obj) : Arr (w.alloc o) g t l := (Below.heap_alloc w o g h.lt).trans h
theorem Arr.drew {w : World} {g : Nat} {t : TypeId} {l : List Int} (h : Arr w g t l) : Arr w.drew g t l := h
theorem Arr.drewN {w : World} {g : Nat} {t : TypeId} {l : List Int} (h : Arr w g t l) (n : Nat) : Arr (w.drewN n) g t l := h
theorem Arr.below {w w' : World} {g B : Nat} {t : TypeId} {l : List Int} (h : Arr w g t l) (hB : Below B w w') (hg : g < B) : Arr w' g t l := (hB.block g hg).trans h
theorem Arr.row {w : World} {g : Nat} {t : TypeId} {l m : List Int} (h : Arr w g t l) : Arr (w.setRow g (cellsOf m)) g t m := setRow_heap w g _ _ t _ h

/-- Words so far, noughts behind. -/
def fill (l : List Int) (n : Nat) : List Int := l ++ List.replicate (n - l.length) 0
theorem fill_length (l : List Int) (n : Nat) (h : l.length ≤ n) : (fill l n).length = n := by simp [fill]; omega
theorem fill_get (l : List Int) (n j : Nat) (h : j < l.length) : (fill l n).getD j 0 = l.getD j 0 := by
  simp [fill, List.getD_eq_getElem?_getD, List.getElem?_append_left h]
theorem fill_set (l : List Int) (n : Nat) (v : Int) (h : l.length < n) : (fill l n).set l.length v = fill (l ++ [v]) n := by
  unfold fill
  rw [show n - l.length = (n - (l ++ [v]).length) + 1 by simp; omega, List.replicate_succ, List.set_append_right _ _ (Nat.le_refl _)]
  simp
end Go.Proofs.YtfobdefncbaooaaDoor.Sh
