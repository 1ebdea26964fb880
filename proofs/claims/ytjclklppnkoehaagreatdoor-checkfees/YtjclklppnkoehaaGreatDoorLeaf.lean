/-
  Layer 5's smallest calls: bounds, points and their order, closures that look at one part.
-/
import Derived.Test.YtjclklppnkoehaaGreatDoorData
import Derived.WalkSpells
import Derived.WalkLawsBesides
import Derived.Deep.QuietTactic
import Derived.BigQuiet
import Derived.Lib.Hide
import Derived.Laws.StructEq
import Derived.Shelf.SlicesE.Kit
namespace Go.Proofs.YtjclklppnkoehaaGreatDoor
open Go.RowKit
set_option maxRecDepth 100000

theorem ret_int {k : IntKind} {a b : Int} (h : a = b) : Ending.returned (.int k a) = .returned (.int k b) := by rw [h]
theorem ret_bool {a b : Bool} (h : a = b) : Ending.returned (.bool a) = .returned (.bool b) := by rw [h]
theorem ret_pair {k l : IntKind} {a b c d : Int} (h : a = b) (g : c = d) : Ending.returned (.tuple #[.int k a, .int l c]) = .returned (.tuple #[.int k b, .int l d]) := by rw [h, g]

/-- Are two points one? -/
def ptB (a : ByteArray) (i : Int) (b : ByteArray) (j : Int) : Bool := (a.toList == b.toList) && (i == j)

theorem run_eql_pt (w : World) (a : ByteArray) (i : Int) (b : ByteArray) (j : Int) :
    (binOp .eql 55 (.agg #[.string a, .int .u32 i]) (.agg #[.string b, .int .u32 j])).run Tryz.prog w = .ok (.bool (ptB a i b j)) w := by
  have u9 := Tryz.underlying9
  have u22 := Tryz.underlying25
  have a9 := Tryz.isAgg9
  have z9 := Tryz.sizeOf9
  have a22 := Tryz.isAgg25
  have z22 := Tryz.sizeOf25
  have hS : Tryz.prog.underlying 55 = some (.struct (Tryz.prog.fieldsOf 55)) := by kernel_rfl
  have hp : Tryz.prog.stoodInHeld 55 = false := by kernel_rfl
  rw [run_eql_struct, show (10000 : Nat) = 9999 + 1 from rfl, run_equalIn_agg w 9999 55 _ _ hS hp]
  simp only [Program.fieldsOf, Tryz.underlying55]
  go_simp
  unfold ptB
  by_cases h1 : a.toList = b.toList <;> by_cases h2 : i = j <;> simp [h1, h2]

theorem pt_guard (op : BinOp) (x y : Operand) (a : Array Value) (b : Array Value) (w : World) : (eqGuard op 55 x y (.agg a) (.agg b)).run Tryz.prog w = .ok () w := run_eqGuard_agg w op 55 x y a b (by kernel_rfl)

/-- Is a number from one to another? -/
def inR (n a b : Int) : Bool := decide (a ≤ n) && decide (n ≤ b)

set_option maxHeartbeats 400000 in
theorem within_any (n a b : Int) (w : World) :
    Calls Tryz.prog 57 #[.int .i64 n, .int .i64 a, .int .i64 b] w fun e w' => e = .returned (.bool (inR n a b)) ∧ w = w' := by
  by_cases h : a ≤ n
  · go_enter Tryz.func57, Tryz.ntmps57
    go_wp2
    go_ret
    exact ⟨ret_bool (by simp [inR, h]), rfl⟩
  · go_enter Tryz.func57, Tryz.ntmps57
    go_wp2
    go_ret
    exact ⟨ret_bool (by unfold inR; rw [decide_eq_false (by omega)]; rfl), rfl⟩

/-- Has a Witness too many texts? -/
def manyB (n : Nat) : Bool := decide (4 < n)

set_option maxHeartbeats 400000 in
theorem items_any (a : ByteArray) (i q : Int) (A : Option Addr) (n c : Nat) (w : World) :
    Calls Tryz.prog 59 #[.agg #[.string a, .int .u32 i, .int .u32 q, .slice A n c]] w fun e w' => e = .returned (.bool (manyB n)) ∧ Below w.heap.size w w' := by
  go_enter Tryz.func59, Tryz.ntmps59
  go_wp2
  go_ret
  exact ⟨ret_bool (by unfold manyB; simp; omega), (Below.refl _ _).alloc (Nat.le_refl _) _⟩

set_option maxHeartbeats 400000 in
theorem script_any (x : Int) (s : ByteArray) (w : World) :
    Calls Tryz.prog 60 #[.agg #[.int .i64 x, .string s]] w fun e w' => e = .returned (.bool (decide (40 < s.size))) ∧ Below w.heap.size w w' := by
  go_enter Tryz.func60, Tryz.ntmps60
  go_wp2
  go_ret
  exact ⟨ret_bool (by simp; omega), (Below.refl _ _).alloc (Nat.le_refl _) _⟩

set_option maxHeartbeats 400000 in
theorem item_any (s : ByteArray) (w : World) :
    Calls Tryz.prog 61 #[.string s] w fun e w' => e = .returned (.bool (decide (80 < s.size))) ∧ Below w.heap.size w w' := by
  go_enter Tryz.func61, Tryz.ntmps61
  go_wp2
  go_ret
  exact ⟨ret_bool (by simp; omega), Below.refl _ _⟩

/-- The base point's ID: 32 bytes 0. -/
def zeros : ByteArray := ⟨#[0, 0, 0, 0, 0, 0, 0, 0, 0, 0, 0, 0, 0, 0, 0, 0, 0, 0, 0, 0, 0, 0, 0, 0, 0, 0, 0, 0, 0, 0, 0, 0]⟩

set_option maxHeartbeats 400000 in
theorem base_point (w : World) :
    Calls Tryz.prog 44 #[] w fun e w' => e = .returned (.agg #[.string zeros, .int .u32 4294967295]) ∧ Below w.heap.size w w' := by
  go_enter Tryz.func44, Tryz.ntmps44
  go_wp2
  exact bodyPost_ret (v := .agg #[.string zeros, .int .u32 4294967295]) (by simp [results, Tryz.results44, go_sem, zeros]) rfl ⟨rfl, (Below.refl _ _).alloc (Nat.le_refl _) _⟩

/-- Is a point the base point? -/
def baseB (a : ByteArray) (i : Int) : Bool := ptB a i zeros 4294967295

/-- Is an input's point amiss? -/
def amissB (alone : Bool) (a : ByteArray) (i : Int) : Bool := a.size != 32 || (!alone && baseB a i)

set_option maxHeartbeats 400000 in
theorem amiss_any (a : ByteArray) (i q : Int) (A : Option Addr) (n c : Nat) (al : Bool) (g h : Nat) (w : World) (h0 : w.cell? ⟨g, 0, none⟩ = some (.bool al)) (h1 : w.cell? ⟨h, 0, none⟩ = some (.string zeros)) (h2 : w.cell? ⟨h, 1, none⟩ = some (.int .u32 4294967295)) :
    Calls Tryz.prog 65 #[.agg #[.string a, .int .u32 i, .int .u32 q, .slice A n c], .pointer (some ⟨g, 0, none⟩), .pointer (some ⟨h, 0, none⟩)] w fun e w' => e = .returned (.bool (amissB al a i)) ∧ Below w.heap.size w w' := by
  have hg := lt_of_cell h0
  have hh := lt_of_cell h1
  have heq := run_eql_pt
  have hgd := pt_guard
  have e1 : baseB a i = ptB a i zeros 4294967295 := rfl
  generalize zeros = z at h1 e1
  have E1 := Lib.hid e1
  clear e1
  by_cases hs : a.size = 32
  · have hs' : ((a.size : Int) != 32) = false := by rw [bne_eq_false_iff_eq]; omega
    have am : amissB al a i = (!al && baseB a i) := by unfold amissB; rw [show (a.size != 32) = false from by simp [hs]]; rfl
    have AM := Lib.hid am
    have HS := Lib.hid hs
    clear am hs
    cases al
    · go_enter Tryz.func65, Tryz.ntmps65
      go_wp2
      go_ret
      exact ⟨ret_bool (by rw [AM.out, E1.out]; rfl), (Below.refl _ _).alloc (Nat.le_refl _) _⟩
    · go_enter Tryz.func65, Tryz.ntmps65
      go_wp2
      go_ret
      exact ⟨ret_bool (by rw [AM.out]; rfl), (Below.refl _ _).alloc (Nat.le_refl _) _⟩
  · have hs' : ((a.size : Int) != 32) = true := by rw [bne_iff_ne]; omega
    have am : amissB al a i = true := by unfold amissB; rw [show (a.size != 32) = true from by simp [hs]]; rfl
    have AM := Lib.hid am
    have HS := Lib.hid hs
    clear am hs
    go_enter Tryz.func65, Tryz.ntmps65
    go_wp2
    go_ret
    exact ⟨ret_bool (by rw [AM.out]), (Below.refl _ _).alloc (Nat.le_refl _) _⟩

/-- The order of points. -/
def lessB (a : ByteArray) (i : Int) (b : ByteArray) (j : Int) : Bool := if a.toList == b.toList then decide (i < j) else Op.bytesLess a.toList b.toList

theorem less_same {a : ByteArray} {i : Int} {b : ByteArray} {j : Int} (h : (a.toList == b.toList) = true) : lessB a i b j = decide (i < j) := by simp [lessB, h]
theorem less_other {a : ByteArray} {i : Int} {b : ByteArray} {j : Int} (h : (a.toList == b.toList) = false) : lessB a i b j = Op.bytesLess a.toList b.toList := by simp [lessB, h]

set_option maxHeartbeats 400000 in
theorem rless_any (a : ByteArray) (i : Int) (b : ByteArray) (j : Int) (w : World) :
    Calls Tryz.prog 39 #[.agg #[.string a, .int .u32 i], .agg #[.string b, .int .u32 j]] w fun e w' => e = .returned (.bool (lessB a i b j)) ∧ Below w.heap.size w w' := by
  cases h : a.toList == b.toList
  · have H := Lib.hid (less_other (i := i) (j := j) h)
    go_enter Tryz.func39, Tryz.ntmps39
    go_wp2
    go_ret
    exact ⟨ret_bool (by rw [H.out]), ((Below.refl _ _).alloc (Nat.le_refl _) _).alloc (by simp) _⟩
  · have H := Lib.hid (less_same (i := i) (j := j) h)
    go_enter Tryz.func39, Tryz.ntmps39
    go_wp2
    go_ret
    exact ⟨ret_bool (by rw [H.out]), ((Below.refl _ _).alloc (Nat.le_refl _) _).alloc (by simp) _⟩

end Go.Proofs.YtjclklppnkoehaaGreatDoor
