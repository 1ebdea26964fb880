/-
  The end of TxGrants' third statement, in whatever order it was run.
-/
import Derived.Test.YtnljicongmknhaaGmut
import Derived.Test.YtnljicongmknhaaGstep
import Derived.Test.YtnljicongmknhaaCwalk
namespace Go.Proofs.Ytnljicongmknhaa
open Go.RowKit

theorem GrS.done {w w1 w2 w3 wx : World} {height : Int} {ys : List OutD} {B A1 A2 A' : Option Addr} {d m1 m2 c' g6 gs lo3 : Nat}
    (hU : OutsOwn w1 (w.heap.size + 3) w1.heap.size (.slice B ys.length d) ys) (hY : ∀ x ∈ ys, x.Ok) (h1 : Below w.heap.size w w1) (hz : w.heap.size + 3 ≤ w1.heap.size) (h2 : Below w1.heap.size w1 w2)
    (hG : TxAt w2 w1.heap.size w2.heap.size (.slice A1 (grantD height ys).ins.length m1) (.slice A2 (grantD height ys).outs.length m2) (grantD height ys)) (h3 : Outs w3 lo3 w3.heap.size (.slice A' ys.length c') ys)
    (o6 : Open wx g6 (.int .u32 2) (.slice (some ⟨gs, 0, none⟩) 1 1) (.slice A' ys.length c') (.int .u32 (height % 4294967296)))
    (os : Open wx gs (.string zeros) (.int .u32 4294967295) (.int .u32 4294967295) (.slice none 0 0))
    (bel : Below (w2.heap.size + 1) (w2.alloc (.cells #[.int .u32 2, .slice A1 (grantD height ys).ins.length m1, .slice A2 (grantD height ys).outs.length m2, .int .u32 (height % 4294967296)] 26)) wx)
    (k3 : Kept lo3 w3.heap.size w3 wx) (hn : w1.heap.size ≤ lo3 ∧ w3.heap.size ≤ wx.heap.size ∧ w2.heap.size < g6 ∧ g6 < wx.heap.size ∧ w2.heap.size < gs ∧ gs < wx.heap.size) :
    ∃ (g : Nat) (A3 : Option Addr) (m3 : Nat) (A4 : Option Addr) (m4 : Nat), Value.pointer (some ⟨g6, 0, none⟩) = .pointer (some ⟨g, 0, none⟩) ∧ GrS w w1 height ys B 64 w2.heap.size g (.slice A1 (grantD height ys).ins.length m1) (.slice A2 (grantD height ys).outs.length m2) (.slice A3 (grantD height ys).ins.length m3) (.slice A4 (grantD height ys).outs.length m4) wx := by
  obtain ⟨n1, n2, n3, n4, n5, n6⟩ := hn
  have hs2 := h2.size
  have bs := bel.size
  simp only [World.size_alloc] at bs
  have blk : ∀ b, b < w2.heap.size → wx.heap[b]? = w2.heap[b]? := fun b hb => (bel.block b (by omega)).trans (Below.heap_alloc _ _ _ hb)
  have kp : Kept 0 w2.heap.size w2 wx := fun b _ hb => blk b hb
  have k1 : Kept (w.heap.size + 3) w1.heap.size w1 wx := fun b _ hb => (blk b (by omega)).trans (h2.block b hb)
  have hB := Boxed.new w2 (.int .u32 2) (.slice A1 (grantD height ys).ins.length m1) (.slice A2 (grantD height ys).outs.length m2) (.int .u32 (height % 4294967296)) 26
  have f := fun o => bel.cell (p := ⟨w2.heap.size, o, none⟩) (by show w2.heap.size < w2.heap.size + 1; omega)
  refine ⟨g6, some ⟨gs, 0, none⟩, 1, A', c', rfl, ⟨(f 0).trans hB.1, (f 1).trans hB.2.1, (f 2).trans hB.2.2.1, (f 3).trans hB.2.2.2⟩, o6.1, (hG.keep (kp.mono (Nat.zero_le _) (Nat.le_refl _))).wide (Nat.le_refl _) (by omega), ⟨?_, (h3.keep k3).wide n1 n2⟩, (MutB.of_own hU (fun y hy => (hY y hy).2.2)).keep k1, ?_, by omega, by omega, by omega⟩
  · refine ⟨_, 1, rfl, Nat.le_refl _, .inr ⟨gs, 0, rfl, by omega, n6, fun k x hx => ?_⟩⟩
    match k, hx with
    | 0, hx =>
      simp [grantD] at hx
      subst hx
      exact ⟨os.1.1, os.1.2.1, os.1.2.2.1, _, os.1.2.2.2, Strs.nil _ _ _⟩
  · have hw := h1.size
    exact ⟨(bel.os.trans h2.os).trans h1.os, (bel.tape.trans h2.tape).trans h1.tape, (bel.output.trans h2.output).trans h1.output, by omega, fun b hb => ((blk b (by omega)).trans (h2.block b (by omega))).trans (h1.block b hb)⟩

end Go.Proofs.Ytnljicongmknhaa
