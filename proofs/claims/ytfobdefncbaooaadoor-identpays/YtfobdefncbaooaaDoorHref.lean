/-
  Digests: the document's calls.
-/
import Derived.Test.YtfobdefncbaooaaDoorRows
import Derived.Test.YtfobdefncbaooaaDoorHarr
import Derived.WalkKit
import Derived.WalkSpells
import Derived.WalkLawsBesides
import Derived.Deep.QuietTactic
import Derived.Deep.WholeRow
import Derived.BigQuiet
import Derived.OwnWalk
import Derived.Lib.Hide
import Derived.Deep.RegionHeld3
namespace Go.Proofs.YtfobdefncbaooaaDoor.Sh
open Go.RowKit

/-- The keys of the rounds. -/
def keys : List Int := [1116352408, 1899447441, 3049323471, 3921009573, 961987163, 1508970993, 2453635748, 2870763221, 3624381080, 310598401, 607225278, 1426881987, 1925078388, 2162078206, 2614888103, 3248222580, 3835390401, 4022224774, 264347078, 604807628, 770255983, 1249150122, 1555081692, 1996064986, 2554220882, 2821834349, 2952996808, 3210313671, 3336571891, 3584528711, 113926993, 338241895, 666307205, 773529912, 1294757372, 1396182291, 1695183700, 1986661051, 2177026350, 2456956037, 2730485921, 2820302411, 3259730800, 3345764771, 3516065817, 3600352804, 4094571909, 275423344, 430227734, 506948616, 659060556, 883997877, 958139571, 1322822218, 1537002063, 1747873779, 1955562222, 2024104815, 2227730452, 2361852424, 2428436474, 2756734187, 3204031479, 3329325298]

theorem wpList_build_as {P : Program} {ops : Array Oper} {rest : List Oper} {o : Oper} {a : Act} {w : World} {Q : Exit → Act → World → Prop} (hg : o.guard = none) (t : TypeId) (parts : Array (Nat × Operand)) (ho : o.op = .build t parts)
    (cells : Array Value) (hf : P.built t (parts.map fun (i, x) => (i, a.eval x)).toList = some cells)
    (h : wpList P ops Q rest (a.put o.dst (.agg cells)) w) : wpList P ops Q (o :: rest) a w :=
  wpList_build hg t parts ho (by rw [hf]; rfl) (by rw [hf]; exact h)
theorem zero_64 (w : World) : (zeroValue 119).run Tryd.prog w = .ok (.agg (cellsOf (List.replicate 64 0))) w := by kernel_rfl
theorem info37 : (Tryd.prog.info? 119).map (·.size) = some 64 := by kernel_rfl

attribute [-simp] Tryd.zeroValue119

set_option maxHeartbeats 1000000 in
theorem k_as (w : World) (K : Array Value) (hK : cellsOf keys = K) (hs : K.size = 64) (h1 : K.all (·.oneCell') = true) :
    Calls Tryd.prog 90 #[] w fun e w' => e = .returned (.agg K) ∧ Below w.heap.size w w' := by
  have hz := zero_64
  generalize hZ : cellsOf (List.replicate 64 0) = Z at hz
  have hZs : Z.size = 64 := by rw [← hZ, cellsOf_size]; rfl
  clear hZ
  go_enter Tryd.func90, Tryd.ntmps90
  go_wp2_with (first
    | (refine wpList_build_as rfl 119 _ rfl K (Eq.trans (by kernel_rfl : _ = some (cellsOf keys)) (by rw [hK])) ?_)
    | (refine wpList_store_row rfl 119 _ _ rfl w.heap.size K rfl rfl 119 Z (heap_alloc_last w _) (by rw [hs]; exact info37) (by rw [hs, hZs]) h1 ?_))
  refine bodyPost_ret (v := .agg K) ?_ rfl ⟨rfl, below_setRow ((Below.refl _ _).alloc (Nat.le_refl _) _) (Nat.le_refl _) _⟩
  rw [World.setRow_alloc_new]
  exact results_cell_row rfl _ _ w.heap.size 119 K (0, 0) (.array 64 22) rfl (heap_alloc_last w _) Tryd.underlying119 rfl (by rw [hs]; exact info37)
theorem k_any (w : World) : Calls Tryd.prog 90 #[] w fun e w' => e = .returned (.agg (cellsOf keys)) ∧ Below w.heap.size w w' :=
  k_as w _ rfl (by rw [cellsOf_size]; rfl) (cellsOf_one _)

/-- A word turned right. -/
def rotr (x : Int) (n : Nat) : Int := bits BinOp.or IntKind.u32 (x / 2 ^ n) (x * 2 ^ (32 - n) % 4294967296)
theorem right_any (x : Int) (n : Nat) (w : World) (hn : n < 32) :
    Calls Tryd.prog 91 #[.int .u32 x, .int .u64 n] w fun e w' => e = .returned (.int .u32 (rotr x n)) ∧ w = w' := by
  go_enter Tryd.func91, Tryd.ntmps91
  go_wp2_with fail
  go_ret
  exact ⟨rfl, rfl⟩
end Go.Proofs.YtfobdefncbaooaaDoor.Sh
