/-
  The program's Take: a coin out of a set.
-/
import Derived.Test.YtjclklppnkoehaaGreatDoorGet
namespace Go.Proofs.YtjclklppnkoehaaGreatDoor.Co
open Go.RowKit Go.ChangeMaps
set_option maxRecDepth 100000

/-- What a look-up in a set reads, in any order. -/
theorem look_facts {W : World} {a b q : Nat} {l : List EnD} {p : ByteArray} {i : Int} (S : SetIs W a b l) (hp : PtOk p i) (p0 : W.cell? ⟨q, 0, none⟩ = some (.string p)) (p1 : W.cell? ⟨q, 1, none⟩ = some (.int .u32 i)) (hq : q < W.heap.size) :
    W.cell? ⟨a, 0, none⟩ = some (.map (some b)) ∧ (∀ o, (W.alloc o).cell? ⟨a, 0, none⟩ = some (.map (some b))) ∧ (∀ o, (W.alloc o).cell? ⟨q, 0, none⟩ = some (.string p)) ∧ (∀ o, (W.alloc o).cell? ⟨q, 1, none⟩ = some (.int .u32 i)) ∧
      (Instr.lookup 102 (.map (some b)) (.agg #[.string p, .int .u32 i]) true).run Tryz.prog W.drew = .ok (.tuple #[.agg #[.int .i64 (atE l p i).val, .string (atE l p i).scr, .int .i64 (atE l p i).ht], .bool (hasB l p i)]) W.drew ∧
      ∀ o, (Instr.lookup 102 (.map (some b)) (.agg #[.string p, .int .u32 i]) true).run Tryz.prog (W.alloc o).drew = .ok (.tuple #[.agg #[.int .i64 (atE l p i).val, .string (atE l p i).scr, .int .i64 (atE l p i).ht], .bool (hasB l p i)]) (W.alloc o).drew := by
  have ha := S.lta
  have hb := S.ltb
  refine ⟨S.cell0, fun o => ?_, fun o => ?_, fun o => ?_, ?_, fun o => ?_⟩
  · rw [World.cell?_alloc_lt _ _ _ (by show a < _; omega)]; exact S.cell0
  · rw [World.cell?_alloc_lt _ _ _ (by show q < _; omega)]; exact p0
  · rw [World.cell?_alloc_lt _ _ _ (by show q < _; omega)]; exact p1
  · exact (show MapIs W.drew b l from S.map).look S.good hp
  · exact (show MapIs (W.alloc o).drew b l from show MapIs (W.alloc o) b l from S.map.keep (Below.heap_alloc _ _ _ hb)).look S.good hp

/-- A coin's box, the newest block. -/
theorem co_box (W : World) (v : Int) (s : ByteArray) (t : Int) : ∃ W2, W2 = (W.alloc (.cells #[.int .i64 v, .string s, .int .i64 t] 61)).drew ∧ Below W.heap.size W W2 ∧ W2.heap.size = W.heap.size + 1 ∧
    W2.cell? ⟨W.heap.size, 0, none⟩ = some (.int .i64 v) ∧ W2.cell? ⟨W.heap.size, 1, none⟩ = some (.string s) ∧ W2.cell? ⟨W.heap.size, 2, none⟩ = some (.int .i64 t) := by
  have hn : (W.alloc (.cells #[.int .i64 v, .string s, .int .i64 t] 61)).heap[W.heap.size]? = some (.cells #[.int .i64 v, .string s, .int .i64 t] 61) := heap_alloc_new _ _
  exact ⟨_, rfl, ((Below.refl _ _).alloc (Nat.le_refl _) _).drew, by simp, cell_in (w := World.drew _) (o := 0) hn rfl, cell_in (w := World.drew _) (o := 1) hn rfl, cell_in (w := World.drew _) (o := 2) hn rfl⟩
theorem co_new (w : World) (v : Int) (s : ByteArray) (t : Int) : (w.alloc (.cells #[.int .i64 v, .string s, .int .i64 t] 61)).cell? ⟨w.heap.size, 0, none⟩ = some (.int .i64 v) ∧ (w.alloc (.cells #[.int .i64 v, .string s, .int .i64 t] 61)).cell? ⟨w.heap.size, 1, none⟩ = some (.string s) ∧
    (w.alloc (.cells #[.int .i64 v, .string s, .int .i64 t] 61)).cell? ⟨w.heap.size, 2, none⟩ = some (.int .i64 t) := by
  have hn : (w.alloc (.cells #[.int .i64 v, .string s, .int .i64 t] 61)).heap[w.heap.size]? = some (.cells #[.int .i64 v, .string s, .int .i64 t] 61) := heap_alloc_new _ _
  exact ⟨cell_in (o := 0) hn rfl, cell_in (o := 1) hn rfl, cell_in (o := 2) hn rfl⟩
/-- A block of three free cells. -/
structure Co3 (w : World) (n : Nat) : Prop where
  lt : n < w.heap.size
  z0 : ∃ v, w.cell? ⟨n, 0, none⟩ = some v
  z1 : ∃ v, w.cell? ⟨n, 1, none⟩ = some v
  z2 : ∃ v, w.cell? ⟨n, 2, none⟩ = some v
  fr : ∀ k, w.frozen? ⟨n, k, none⟩ = false
theorem Co3.new (w : World) (v : Int) (s : ByteArray) (t : Int) : Co3 (w.alloc (.cells #[.int .i64 v, .string s, .int .i64 t] 61)) w.heap.size := by
  obtain ⟨h0, h1, h2⟩ := co_new w v s t
  exact ⟨by simp, ⟨_, h0⟩, ⟨_, h1⟩, ⟨_, h2⟩, fun k => Lib.frozen_of_heap (heap_alloc_new w (.cells #[.int .i64 v, .string s, .int .i64 t] 61)) k⟩
theorem Co3.keep {w w' : World} {n : Nat} (h : Co3 w n) (hk : w'.heap[n]? = w.heap[n]?) (hs : w.heap.size ≤ w'.heap.size) : Co3 w' n :=
  ⟨Nat.lt_of_lt_of_le h.lt hs, by rw [World.cell?_of_block (w := w) hk]; exact h.z0, by rw [World.cell?_of_block (w := w) hk]; exact h.z1, by rw [World.cell?_of_block (w := w) hk]; exact h.z2, fun k => by rw [World.frozen?_of_block (w := w) hk]; exact h.fr k⟩

theorem set_tot {w : World} {a b : Nat} {t : Int} (h : w.heap[a]? = some (.cells #[.map (some b), .int .i64 t] 104 (0, 0))) (n : Int) : (w.setCell ⟨a, 1, none⟩ (.int .i64 n)).heap[a]? = some (.cells #[.map (some b), .int .i64 n] 104 (0, 0)) := by
  simp [World.setCell, Array.getElem?_modify, h]

end Go.Proofs.YtjclklppnkoehaaGreatDoor.Co
