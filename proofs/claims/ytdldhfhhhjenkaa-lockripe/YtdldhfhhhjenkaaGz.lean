/-
  Thirty-two zero bytes made, and read as a text.
-/
import Derived.Test.YtdldhfhhhjenkaaTpw
import Derived.Laws.BytesArg
import Derived.Laws.OwnMore
namespace Go.Proofs.Ytdldhfhhhjenkaa
open Go.RowKit

def t_cells32 : Array Value := madeCells (Value.int .u8 0).cells 32
theorem cells32_at {i : Nat} (h : i < 32) : t_cells32[i]? = some (.int .u8 0) := by
  have e : t_cells32 = Array.replicate 32 (.int .u8 0) := by kernel_rfl
  rw [e]
  simp [h]
theorem info5 : (Try.prog.info? 5).map (fun i => (i.zero, i.size, i.bytes)) = some (some (.int .u8 0), 1, 1) := by kernel_rfl
theorem make32 (W : World) : (Instr.makeSlice 72 (.int .i64 32) (.int .i64 32)).run Try.prog W = .ok (.slice (some ⟨W.heap.size, 0, none⟩) 32 32) (W.alloc (.cells t_cells32 5)) := by
  obtain ⟨i0, hi, hz0, hz1, hz2⟩ := info_parts info5
  have hr := run_make (P := Try.prog) W 72 5 i0 (.int .u8 0) Try.underlying72 hi hz0 .i64 .i64 32 32 (by omega) (Int.le_refl _) (by rw [hz2]; omega) (by omega)
  rw [hz1] at hr
  exact hr
/-- The block b is thirty-two zero bytes. -/
def Z32 (W : World) (b : Nat) : Prop := W.heap[b]? = some (.cells t_cells32 5 (0, 0))
theorem Z32.lt {W : World} {b : Nat} (h : Z32 W b) : b < W.heap.size := by
  rcases Nat.lt_or_ge b W.heap.size with hlt | hge
  · exact hlt
  · unfold Z32 at h; rw [Array.getElem?_eq_none hge] at h; cases h
theorem z32_new : ∀ (W : World) (b : Nat), b = W.heap.size → Z32 (W.alloc (.cells t_cells32 5)) b := fun W b h => by subst h; exact heap_alloc_new W _
theorem z32_alloc : ∀ (W : World) (o : Obj) (b : Nat), Z32 W b → Z32 (W.alloc o) b := fun _ _ _ h => (Below.heap_alloc _ _ _ h.lt).trans h
theorem z32_drew : ∀ (W : World) (b : Nat), Z32 W b → Z32 W.drew b := fun _ _ h => h
theorem z32_set : ∀ (W : World) (g o : Nat) (v : Value) (b : Nat), ¬ b = g → Z32 W b → Z32 (W.setCell ⟨g, o, none⟩ v) b := fun _ _ _ _ _ hn h => (Below.heap_setCell _ _ _ _ hn).trans h
theorem z32_newI : ∀ (W : World) (b : Nat), b = W.heap.size → (Z32 (W.alloc (.cells t_cells32 5)) b ↔ True) := fun W b h => ⟨fun _ => trivial, fun _ => z32_new W b h⟩
theorem z32_allocI : ∀ (W : World) (o : Obj) (b : Nat), b < W.heap.size → (Z32 (W.alloc o) b ↔ Z32 W b) := fun W o b h => ⟨fun k => (Below.heap_alloc W o b h).symm.trans k, z32_alloc W o b⟩
theorem z32_drewI : ∀ (W : World) (b : Nat), Z32 W.drew b ↔ Z32 W b := fun _ _ => Iff.rfl
theorem z32_setI : ∀ (W : World) (g o : Nat) (v : Value) (b : Nat), ¬ b = g → (Z32 (W.setCell ⟨g, o, none⟩ v) b ↔ Z32 W b) := fun W g o v b hn => ⟨fun k => (Below.heap_setCell W ⟨g, o, none⟩ v b hn).symm.trans k, z32_set W g o v b hn⟩
theorem z32_belowI {W w' : World} (h : Below W.heap.size W w') : ∀ b, b < W.heap.size → (Z32 w' b ↔ Z32 W b) := fun b hb => ⟨fun k => (h.block b hb).symm.trans k, fun k => (h.block b hb).trans k⟩
theorem text32 : ∀ (W : World) (b : Nat), Z32 W b → (convert 72 9 (.slice (some ⟨b, 0, none⟩) 32 32)).run Try.prog W = .ok (.string zeros) W := fun W b h => by
  have e : zeros = strOfNums (List.replicate 32 0) := by decide +kernel
  rw [e]
  refine run_convert_bytes_arg W 72 5 Try.underlying72 Try.underlying5 b 0 32 32 (List.replicate 32 0) List.length_replicate (fun i hi => ?_) 9 Try.underlying9
  have hc : W.cell? ⟨b, 0 + i, none⟩ = t_cells32[i]? := by
    unfold Z32 at h
    simp [World.cell?, h]
  rw [hc, cells32_at hi, List.getD_eq_getElem?_getD, List.getElem?_replicate, if_pos hi]
  rfl

end Go.Proofs.Ytdldhfhhhjenkaa
