/-
  slices.Clone at outputs, inputs and texts: the same cells, in memory of the call's own.
-/
import Derived.Test.YtjclklppnkoehaaGreatDoorLeaf
import Derived.OwnWalk
import Derived.Lib.SliceRun
namespace Go.Proofs.YtjclklppnkoehaaGreatDoor
open Go.RowKit
set_option maxRecDepth 100000

theorem info52 : (Tryz.prog.info? 59).map (fun i => (i.zero, i.size, i.bytes)) = some (some (.agg #[.int .i64 0, .string ⟨#[]⟩]), 2, 24) := by kernel_rfl
theorem info43 : (Tryz.prog.info? 68).map (fun i => (i.zero, i.size, i.bytes)) = some (some (.agg #[.string ⟨#[]⟩, .int .u32 0, .int .u32 0, .slice none 0 0]), 4, 56) := by kernel_rfl
theorem info9 : (Tryz.prog.info? 9).map (fun i => (i.zero, i.size, i.bytes)) = some (some (.string ⟨#[]⟩), 1, 16) := by kernel_rfl
theorem info3 : (Tryz.prog.info? 3).map (fun i => (i.zero, i.size, i.bytes)) = some (some (.int .i64 0), 1, 8) := by kernel_rfl

/-- What a copy of a slice of n elements, of 'size' cells each, is. -/
def Cloned (w : World) (A : Option Addr) (n size : Nat) (e : TypeId) (v' : Value) (w' : World) : Prop :=
  (n = 0 ∧ ∃ A' c', v' = .slice A' 0 c') ∨ ∃ b off g cap cur, A = some ⟨b, off, none⟩ ∧ v' = .slice (some ⟨g, 0, none⟩) n cap ∧ n ≤ cap ∧ w.heap.size ≤ g ∧ g < w'.heap.size ∧
    w'.heap[g]? = some (.cells cur e (0, 0)) ∧ cur.size = cap * size ∧ ∀ j, j < n * size → w'.cell? ⟨g, j, none⟩ = w.cell? ⟨b, off + j, none⟩

/-- The cells behind an address. -/
def cellsAt (w : World) (b off m : Nat) : List Value := (List.range m).map fun j => (w.cell? ⟨b, off + j, none⟩).getD undef
theorem cellsAt_get {w : World} {b off m j : Nat} {u : Value} (h : (cellsAt w b off m)[j]? = some u) : j < m ∧ u = (w.cell? ⟨b, off + j, none⟩).getD undef := by
  have hj : j < m := by
    have := (List.getElem?_eq_some_iff.1 h).1
    simpa [cellsAt] using this
  refine ⟨hj, ?_⟩
  simp [cellsAt, hj] at h
  exact h.symm

theorem cellsAt_cell {w : World} {b off m : Nat} (h : ∀ j, j < m → ∃ u, w.cell? ⟨b, off + j, none⟩ = some u ∧ u.oneCell' = true) (o : Obj) : ∀ j u, (cellsAt w b off m)[j]? = some u → (w.alloc o).cell? ((⟨b, off, none⟩ : Addr).add j) = some u := by
  intro j u hj
  obtain ⟨hj', rfl⟩ := cellsAt_get hj
  obtain ⟨u, hu, _⟩ := h j hj'
  rw [Addr.add_lit]
  exact Lib.cell?_alloc_some _ (by rw [hu]; rfl)
theorem cellsAt_one {w : World} {b off m : Nat} (h : ∀ j, j < m → ∃ u, w.cell? ⟨b, off + j, none⟩ = some u ∧ u.oneCell' = true) : ∀ u ∈ cellsAt w b off m, u.oneCell' = true := by
  intro u hu
  obtain ⟨j, hj⟩ := List.getElem?_of_mem hu
  obtain ⟨hj', rfl⟩ := cellsAt_get hj
  obtain ⟨u, hu, h1⟩ := h j hj'
  rw [hu]
  exact h1

theorem Cloned.of_own {w w' : World} {b off n size : Nat} {e : TypeId} {v' : Value} (hown : w'.ownsRow w.heap.size e size v' n (cellsAt w b off (n * size)))
    (hc : ∀ j, j < n * size → ∃ u, w.cell? ⟨b, off + j, none⟩ = some u) : Cloned w (some ⟨b, off, none⟩) n size e v' w' := by
  rcases hown.2 with ⟨rfl, h0⟩ | ⟨g, cap, cur, rfl, hb, hg, hn, hm, hs, ht⟩
  · exact .inl ⟨h0, none, 0, rfl⟩
  · refine .inr ⟨b, off, g, cap, cur, rfl, rfl, hn, hb, ?_, hg, hs, fun j hj => ?_⟩
    · rcases Nat.lt_or_ge g w'.heap.size with hlt | hge
      · exact hlt
      · rw [Array.getElem?_eq_none hge] at hg; cases hg
    · obtain ⟨u, hu⟩ := hc j hj
      have h1 := hown.cells (g := g) rfl j u (by simp [cellsAt, hj, hu])
      rw [hu, ← h1]
      simp [Addr.add]
      split <;> simp_all

end Go.Proofs.YtjclklppnkoehaaGreatDoor
