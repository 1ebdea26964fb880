/-
  Thirty-two zero bytes made, and read as a text.
  The document's ID of a number: some text of 32 bytes.
-/
import Derived.Test.YtfobdefncbaooaaDoorPwalk
import Derived.Laws.BytesArg
import Derived.Laws.OwnMore
import Derived.Laws.BitsLemmas
import Derived.Laws.Concat

namespace Go.Proofs.YtfobdefncbaooaaDoor
open Go.RowKit

def cells32 : Array Value := madeCells (Value.int .u8 0).cells 32
theorem cells32_at {i : Nat} (h : i < 32) : cells32[i]? = some (.int .u8 0) := by
  have e : cells32 = Array.replicate 32 (.int .u8 0) := by kernel_rfl
  rw [e]
  simp [h]
theorem info5 : (Tryd.prog.info? 5).map (fun i => (i.zero, i.size, i.bytes)) = some (some (.int .u8 0), 1, 1) := by kernel_rfl
theorem make32 (W : World) : (Instr.makeSlice 73 (.int .i64 32) (.int .i64 32)).run Tryd.prog W = .ok (.slice (some ⟨W.heap.size, 0, none⟩) 32 32) (W.alloc (.cells cells32 5)) := by
  obtain ⟨i0, hi, hz0, hz1, hz2⟩ := info_parts info5
  have hr := run_make (P := Tryd.prog) W 73 5 i0 (.int .u8 0) Tryd.underlying73 hi hz0 .i64 .i64 32 32 (by omega) (Int.le_refl _) (by rw [hz2]; omega) (by omega)
  rw [hz1] at hr
  exact hr
/-- The block b is thirty-two zero bytes. -/
def Z32 (W : World) (b : Nat) : Prop := W.heap[b]? = some (.cells cells32 5 (0, 0))
theorem Z32.lt {W : World} {b : Nat} (h : Z32 W b) : b < W.heap.size := by
  rcases Nat.lt_or_ge b W.heap.size with hlt | hge
  · exact hlt
  · unfold Z32 at h; rw [Array.getElem?_eq_none hge] at h; cases h
theorem z32_new : ∀ (W : World) (b : Nat), b = W.heap.size → Z32 (W.alloc (.cells cells32 5)) b := fun W b h => by subst h; exact heap_alloc_new W _
theorem z32_alloc : ∀ (W : World) (o : Obj) (b : Nat), Z32 W b → Z32 (W.alloc o) b := fun _ _ _ h => (Below.heap_alloc _ _ _ h.lt).trans h
theorem z32_drew : ∀ (W : World) (b : Nat), Z32 W b → Z32 W.drew b := fun _ _ h => h
theorem z32_set : ∀ (W : World) (g o : Nat) (v : Value) (b : Nat), ¬ b = g → Z32 W b → Z32 (W.setCell ⟨g, o, none⟩ v) b := fun _ _ _ _ _ hn h => (Below.heap_setCell _ _ _ _ hn).trans h
theorem z32_newI : ∀ (W : World) (b : Nat), b = W.heap.size → (Z32 (W.alloc (.cells cells32 5)) b ↔ True) := fun W b h => ⟨fun _ => trivial, fun _ => z32_new W b h⟩
theorem z32_allocI : ∀ (W : World) (o : Obj) (b : Nat), b < W.heap.size → (Z32 (W.alloc o) b ↔ Z32 W b) := fun W o b h => ⟨fun k => (Below.heap_alloc W o b h).symm.trans k, z32_alloc W o b⟩
theorem z32_drewI : ∀ (W : World) (b : Nat), Z32 W.drew b ↔ Z32 W b := fun _ _ => Iff.rfl
theorem z32_setI : ∀ (W : World) (g o : Nat) (v : Value) (b : Nat), ¬ b = g → (Z32 (W.setCell ⟨g, o, none⟩ v) b ↔ Z32 W b) := fun W g o v b hn => ⟨fun k => (Below.heap_setCell W ⟨g, o, none⟩ v b hn).symm.trans k, z32_set W g o v b hn⟩
theorem z32_belowI {W w' : World} (h : Below W.heap.size W w') : ∀ b, b < W.heap.size → (Z32 w' b ↔ Z32 W b) := fun b hb => ⟨fun k => (h.block b hb).symm.trans k, fun k => (h.block b hb).trans k⟩
theorem text32 : ∀ (W : World) (b : Nat), Z32 W b → (convert 73 9 (.slice (some ⟨b, 0, none⟩) 32 32)).run Tryd.prog W = .ok (.string zeros) W := fun W b h => by
  have e : zeros = strOfNums (List.replicate 32 0) := by decide +kernel
  rw [e]
  refine run_convert_bytes_arg W 73 5 Tryd.underlying73 Tryd.underlying5 b 0 32 32 (List.replicate 32 0) List.length_replicate (fun i hi => ?_) 9 Tryd.underlying9
  have hc : W.cell? ⟨b, 0 + i, none⟩ = cells32[i]? := by
    unfold Z32 at h
    simp [World.cell?, h]
  rw [hc, cells32_at hi, List.getD_eq_getElem?_getD, List.getElem?_replicate, if_pos hi]
  rfl

end Go.Proofs.YtfobdefncbaooaaDoor

namespace Go.Proofs.YtfobdefncbaooaaDoor
open Go.RowKit

theorem text1 : ∀ (W : World) (b : Nat) (x : Int), W.cell? ⟨b, 0, none⟩ = some (.int .u8 x) → (convert 73 9 (.slice (some ⟨b, 0, none⟩) 1 1)).run Tryd.prog W = .ok (.string (strOfNums [x])) W := fun W b x h => by
  refine run_convert_bytes_arg W 73 5 Tryd.underlying73 Tryd.underlying5 b 0 1 1 [x] rfl (fun i hi => ?_) 9 Tryd.underlying9
  obtain rfl : i = 0 := by omega
  exact h

set_option maxHeartbeats 1000000 in
theorem id_any (n : Int) (w : World) :
    Calls Tryd.prog 23 #[.int .i64 n] w fun e w' => ∃ s : ByteArray, e = .returned (.string s) ∧ s.size = 32 ∧ Below w.heap.size w w' := by
  have htx := text1
  go_enter Tryd.func23, Tryd.ntmps23
  go_wp2_with fail
  go_loopg [3, 4] 32 (fun gg s c wr => ∃ (k : Nat) (t : ByteArray), k ≤ 32 ∧ 32 - k ≤ gg ∧ c = .int .i64 k ∧ s = .string t ∧ t.size = k ∧ Hid (Below w.heap.size w wr))
  case atStart => exact ⟨0, _, Nat.zero_le _, by omega, rfl, rfl, rfl, Below.refl _ _⟩
  case round =>
    obtain ⟨k, t, hk, hg, rfl, rfl, ht, HB⟩ := hrel
    by_cases hlt : k < 32
    · have h1 : (k : Int) < 32 := by omega
      have hd : decide ((k : Int) < 32) = true := decide_eq_true h1
      have hadd : ∀ (W : World) (x : Int), (Op.stringOp .add t (strOfNums [x])).run Tryd.prog W = .ok (.string (t ++ strOfNums [x])) W := fun W x => run_string_add_sum (w := W) t _ (by rw [strOfNums_size]; simp; omega)
      go_wp2_with fail
      go_roundg (32 - (k + 1))
      case measure => omega
      case rel => exact ⟨k + 1, _, by omega, by omega, by go_num, rfl, by simp [ByteArray.size_append, strOfNums_size, ht], HB.out.alloc HB.out.size _⟩
    · have h1 : ¬ (k : Int) < 32 := by omega
      go_wp2_with fail
      go_ret
      exact ⟨_, rfl, by omega, HB.out⟩

end Go.Proofs.YtfobdefncbaooaaDoor
