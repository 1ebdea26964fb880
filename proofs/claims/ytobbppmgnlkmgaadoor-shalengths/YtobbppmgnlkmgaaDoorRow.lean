/-
  Rows of bytes in the memory: a block's cells, made, read and written.
-/
import Derived.Test.YtobbppmgnlkmgaaDoorPad
import Derived.Lib.BufferWrite
namespace Go.Proofs.YtobbppmgnlkmgaaDoor
open Go.RowKit

/-- Bytes in cells. -/
def bytesIn (l : List Int) : Array Value := (l.map (Value.int .u8)).toArray
theorem bytesIn_get (l : List Int) (j : Nat) (h : j < l.length) : (bytesIn l)[j]? = some (.int .u8 (l.getD j 0)) := by
  simp [bytesIn, h]
theorem bytesIn_set (l : List Int) (j : Nat) (v : Int) : (bytesIn l).setIfInBounds j (.int .u8 v) = bytesIn (l.set j v) := by
  simp [bytesIn, List.map_set]
theorem bytesIn_size (l : List Int) : (bytesIn l).size = l.length := by simp [bytesIn]

/-- The block g holds these bytes. -/
def Row (w : World) (g : Nat) (l : List Int) : Prop := w.heap[g]? = some (.cells (bytesIn l) 5 (0, 0))
theorem Row.lt {w : World} {g : Nat} {l : List Int} (h : Row w g l) : g < w.heap.size := by
  rcases Nat.lt_or_ge g w.heap.size with hlt | hge
  · exact hlt
  · unfold Row at h; rw [Array.getElem?_eq_none hge] at h; cases h
theorem Row.cell {w : World} {g : Nat} {l : List Int} (h : Row w g l) (j : Nat) (hj : j < l.length) : w.cell? ⟨g, j, none⟩ = some (.int .u8 (l.getD j 0)) :=
  (cell_of_row w g j _ 5 _ h).trans (bytesIn_get l j hj)
theorem Row.frozen {w : World} {g : Nat} {l : List Int} (h : Row w g l) (j : Nat) : w.frozen? ⟨g, j, none⟩ = false := frozen_of_row w g j _ 5 h
theorem Row.set {w : World} {g : Nat} {l : List Int} (h : Row w g l) (j : Nat) (v : Int) : Row (w.setCell ⟨g, j, none⟩ (.int .u8 v)) g (l.set j v) := by
  unfold Row
  rw [setCell_eq_setRow w g j _ 5 (0, 0) _ h, bytesIn_set]
  exact setRow_heap w g _ _ 5 _ h

theorem made (w : World) (M : Nat) (hM : M ≤ 1000) :
    ∃ w1, (Instr.makeSlice 26 (.int .i64 (M : Int)) (.int .i64 (M : Int))).run Tryd.prog w = .ok (.slice (some ⟨w.heap.size, 0, none⟩) M M) w1 ∧
      Row w1 w.heap.size (List.replicate M 0) ∧ Below w.heap.size w w1 := by
  obtain ⟨i0, hi, hz0, hz1, hz2⟩ := info_parts info5
  obtain ⟨w1, hrun, hown, hgrow⟩ := run_make_full (P := Tryd.prog) w w.heap.size 26 5 i0 (.int .u8 0) 1 Tryd.underlying26 hi hz0 hz1 .i64 .i64 M (by rw [hz2]; omega) (by unfold maxLen; omega) (Nat.le_refl _)
  refine ⟨w1, hrun, ?_, (Below.refl w.heap.size w).grown hgrow (Nat.le_refl _) (by simp)⟩
  rcases hown.2 with ⟨h, _⟩ | ⟨g, cap, cur, hv, _, hg, _, _, hsz, ht⟩
  · cases h
  · simp only [Value.slice.injEq, Option.some.injEq, Addr.mk.injEq] at hv
    obtain ⟨⟨rfl, _⟩, _, rfl⟩ := hv
    unfold Row
    rw [hg]
    have e : cur = bytesIn (List.replicate M 0) := by
      apply Array.toList_inj.1
      rw [List.take_of_length_le (by rw [Array.length_toList]; omega)] at ht
      rw [ht]
      show (madeCells #[Value.int .u8 0] (M * 1)).toList = _
      rw [toList_madeCells_one]
      simp [bytesIn]
    rw [e]

theorem copied {w : World} {g M : Nat} {l : List Int} (s : ByteArray) (h : Row w g l) (hl : l.length = M) (hs : s.size ≤ M) (ty : TypeId) :
    (Builtin.copy_ #[26, 9] ty #[.slice (some ⟨g, 0, none⟩) M M, .string s]).run Tryd.prog w = .ok (.int .i64 s.size) (w.setRow g (bytesIn (nums s ++ l.drop s.size))) := by
  have := Lib.run_copy_row_string (P := Tryd.prog) w 26 9 ty 5 g 0 M M s (bytesIn l) 5 Tryd.underlying26 (by kernel_rfl) h hs (by rw [bytesIn_size]; omega)
  rw [this]
  congr 2
  simp [bytesIn, nums, Lib.byteCells, List.map_drop, Function.comp_def]

theorem Row.copied {w : World} {g : Nat} {l m : List Int} (h : Row w g l) : Row (w.setRow g (bytesIn m)) g m := setRow_heap w g _ _ 5 _ h

theorem Row.string {w : World} {g M : Nat} {l : List Int} (h : Row w g l) (hl : l.length = M) :
    (convert 26 9 (.slice (some ⟨g, 0, none⟩) M M)).run Tryd.prog w = .ok (.string (strOfNums l)) w :=
  run_convert_bytes_arg _ 26 5 Tryd.underlying26 Tryd.underlying5 g 0 M M l hl (fun i hi => by rw [Nat.zero_add]; exact h.cell i (by omega)) 9 Tryd.underlying9
end Go.Proofs.YtobbppmgnlkmgaaDoor
