/-
  The small calls: amounts, points in order, a new set, how many coins it has and what they come to; an ID of the document's.
-/
import Derived.Test.YtjclklppnkoehaaGreatDoorMp
import Derived.Deep.LoopGhost
import Derived.Laws.BitsLemmas
import Derived.Laws.Concat
import Derived.Laws.BytesArg
namespace Go.Proofs.YtjclklppnkoehaaGreatDoor.Co
open Go.RowKit
set_option maxRecDepth 100000

/-! ### Amounts -/

set_option maxHeartbeats 400000 in
theorem within_any (n m : Int) (w : World) : Calls Tryz.prog 46 #[.int .i64 n, .int .i64 m] w fun e w' => e = .returned (.bool (decide (0 ≤ n) && decide (n ≤ m))) ∧ w' = w := by
  by_cases h : 0 ≤ n
  · go_enter Tryz.func46, Tryz.ntmps46
    go_wp2
    go_ret
    exact ⟨ret_bool (by simp [h]), rfl⟩
  · go_enter Tryz.func46, Tryz.ntmps46
    go_wp2
    go_ret
    exact ⟨ret_bool (by simp; intro _; omega), rfl⟩

set_option maxHeartbeats 400000 in
theorem agood_any (n : Int) (w : World) : Calls Tryz.prog 22 #[.int .i64 n] w fun e w' => e = .returned (.bool (goodB n)) ∧ w' = w := by
  have H := Lib.hid (within_any n 2100000000000000 w)
  unfold goodB
  generalize (decide (0 ≤ n) && decide (n ≤ 2100000000000000)) = r at H ⊢
  go_enter Tryz.func22, Tryz.ntmps22
  go_wp2_with fail
  refine H.out.mono ?_
  rintro e w' ⟨rfl, rfl⟩
  go_wp2_with fail
  go_ret
  exact ⟨rfl, rfl⟩

set_option maxHeartbeats 400000 in
theorem rgood_any (n : Int) (w : World) : Calls Tryz.prog 37 #[.int .i64 n] w fun e w' => e = .returned (.bool (goodB n)) ∧ w' = w := by
  have G : Hid (goodB n = (decide (0 ≤ n) && decide (n ≤ 2100000000000000))) := Lib.hid rfl
  by_cases h : 0 ≤ n
  · have h' : ¬ n < 0 := by omega
    go_enter Tryz.func37, Tryz.ntmps37
    go_wp2
    go_ret
    exact ⟨ret_bool (by rw [G.out]; simp [h]), rfl⟩
  · have h' : n < 0 := by omega
    go_enter Tryz.func37, Tryz.ntmps37
    go_wp2
    go_ret
    exact ⟨ret_bool (by rw [G.out]; simp; intro _; omega), rfl⟩

set_option maxHeartbeats 400000 in
theorem add_any (a b : Int) (w : World) (ha : goodB a = true) (hb : goodB b = true) :
    Calls Tryz.prog 36 #[.int .i64 a, .int .i64 b] w fun e w' => e = .returned (.tuple #[.int .i64 (if goodB (a + b) = true then a + b else 0), .int .i64 (if goodB (a + b) = true then 0 else 3)]) ∧ w' = w := by
  have h1 := goodB_iff.1 ha
  have h2 := goodB_iff.1 hb
  have hw : IntKind.i64.wrap (a + b) = a + b := IntWalk.i64_in _ (by omega)
  have A := Lib.hid (fun W => agood_any a W)
  have B := Lib.hid (fun W => agood_any b W)
  have C := Lib.hid (fun W => agood_any (a + b) W)
  rw [ha] at A
  rw [hb] at B
  clear ha hb h1 h2
  cases hc : goodB (a + b) with
  | true =>
    rw [hc] at C
    clear hc
    go_enter Tryz.func36, Tryz.ntmps36
    go_wp2_with (first | (refine (A.out _).mono ?_; rintro e w' ⟨rfl, rfl⟩) | (refine (B.out _).mono ?_; rintro e w' ⟨rfl, rfl⟩) | (refine (C.out _).mono ?_; rintro e w' ⟨rfl, rfl⟩))
    go_ret2
    exact ⟨by simp, rfl⟩
  | false =>
    rw [hc] at C
    clear hc
    go_enter Tryz.func36, Tryz.ntmps36
    go_wp2_with (first | (refine (A.out _).mono ?_; rintro e w' ⟨rfl, rfl⟩) | (refine (B.out _).mono ?_; rintro e w' ⟨rfl, rfl⟩) | (refine (C.out _).mono ?_; rintro e w' ⟨rfl, rfl⟩))
    go_ret2
    exact ⟨by simp, rfl⟩

/-! ### Points -/

set_option maxHeartbeats 400000 in
theorem rless_any (a : ByteArray) (i : Int) (b : ByteArray) (j : Int) (w : World) :
    Calls Tryz.prog 39 #[.agg #[.string a, .int .u32 i], .agg #[.string b, .int .u32 j]] w fun e w' => e = .returned (.bool (lessB a i b j)) ∧ Below w.heap.size w w' := by
  cases h : a.toList == b.toList
  · have H := Lib.hid (less_other (i := i) (j := j) h)
    go_enter Tryz.func39, Tryz.ntmps39
    go_wp2
    go_ret
    exact ⟨ret_bool (by rw [H.out]), ((Below.refl _ _).alloc (Nat.le_refl _) _).alloc (by simp) _⟩
  · have H := Lib.hid (less_same (i := i) (j := j) h)
    go_enter Tryz.func39, Tryz.ntmps39
    go_wp2
    go_ret
    exact ⟨ret_bool (by rw [H.out]), ((Below.refl _ _).alloc (Nat.le_refl _) _).alloc (by simp) _⟩

set_option maxHeartbeats 400000 in
theorem rsame_any (a : ByteArray) (i : Int) (b : ByteArray) (j : Int) (w : World) :
    Calls Tryz.prog 49 #[.agg #[.string a, .int .u32 i], .agg #[.string b, .int .u32 j]] w fun e w' => e = .returned (.bool (ptB a i b j)) ∧ Below w.heap.size w w' := by
  cases h : a.toList == b.toList
  · have H : Hid (ptB a i b j = false) := Lib.hid (by unfold ptB; rw [h]; rfl)
    go_enter Tryz.func49, Tryz.ntmps49
    go_wp2
    go_ret
    exact ⟨ret_bool (by rw [H.out]), ((Below.refl _ _).alloc (Nat.le_refl _) _).alloc (by simp) _⟩
  · have H : Hid (ptB a i b j = (i == j)) := Lib.hid (by unfold ptB; rw [h]; rfl)
    go_enter Tryz.func49, Tryz.ntmps49
    go_wp2
    go_ret
    exact ⟨ret_bool (by rw [H.out]), ((Below.refl _ _).alloc (Nat.le_refl _) _).alloc (by simp) _⟩

/-! ### A set -/

/-- The set in block a, with its map in block b, has the coins l. -/
structure SetIs (w : World) (a b : Nat) (l : List EnD) : Prop where
  ne : a ≠ b
  blk : w.heap[a]? = some (.cells #[.map (some b), .int .i64 (tot l)] 104 (0, 0))
  map : MapIs w b l
  good : Good l
theorem SetIs.keep {w w' : World} {a b : Nat} {l : List EnD} (h : SetIs w a b l) (h1 : w'.heap[a]? = w.heap[a]?) (h2 : w'.heap[b]? = w.heap[b]?) : SetIs w' a b l := ⟨h.ne, h1.trans h.blk, h.map.keep h2, h.good⟩
theorem SetIs.lta {w : World} {a b : Nat} {l : List EnD} (h : SetIs w a b l) : a < w.heap.size := lt_of_heap h.blk
theorem SetIs.ltb {w : World} {a b : Nat} {l : List EnD} (h : SetIs w a b l) : b < w.heap.size := h.map.lt
theorem SetIs.below {w w' : World} {a b B : Nat} {l : List EnD} (h : SetIs w a b l) (hb : Below B w w') (h1 : a < B) (h2 : b < B) : SetIs w' a b l := h.keep (hb.block a h1) (hb.block b h2)
theorem cell_of_block {w : World} {a : Nat} {cs : Array Value} {t : TypeId} {fr : Nat × Nat} (h : w.heap[a]? = some (.cells cs t fr)) (o : Nat) : w.cell? ⟨a, o, none⟩ = cs[o]? := by
  simp [World.cell?, h]
theorem cell_in {w : World} {a : Nat} {cs : Array Value} {t : TypeId} {fr : Nat × Nat} {o : Nat} {v : Value} (h : w.heap[a]? = some (.cells cs t fr)) (hv : cs[o]? = some v) : w.cell? ⟨a, o, none⟩ = some v := (cell_of_block h o).trans hv
theorem SetIs.cell0 {w : World} {a b : Nat} {l : List EnD} (h : SetIs w a b l) : w.cell? ⟨a, 0, none⟩ = some (.map (some b)) := by rw [cell_of_block h.blk]; rfl
theorem SetIs.cell1 {w : World} {a b : Nat} {l : List EnD} (h : SetIs w a b l) : w.cell? ⟨a, 1, none⟩ = some (.int .i64 (tot l)) := by rw [cell_of_block h.blk]; rfl
theorem SetIs.free {w : World} {a b : Nat} {l : List EnD} (h : SetIs w a b l) (o : Nat) : w.frozen? ⟨a, o, none⟩ = false := Lib.frozen_of_heap h.blk o
theorem MapIs.len {w : World} {b : Nat} {l : List EnD} (h : MapIs w b l) : ∃ es clock, w.heap[b]? = some (.map es clock) ∧ es.size = l.length := by
  obtain ⟨es, clock, hb, _, _, hp⟩ := h
  have := hp.length_eq
  simp at this
  exact ⟨es, clock, hb, this⟩

set_option maxHeartbeats 400000 in
theorem new_any (w : World) : Calls Tryz.prog 12 #[] w fun e w' => e = .returned (.pointer (some ⟨w.heap.size + 1, 0, none⟩)) ∧ SetIs w' (w.heap.size + 1) w.heap.size [] ∧ Below w.heap.size w w' ∧ w'.heap.size = w.heap.size + 2 := by
  have hmm := @run_makeMap Tryz.prog
  have S := Lib.hid (show SetIs ((w.alloc (.map #[] 0)).alloc (.cells #[.map (some w.heap.size), .int .i64 0] 104)) (w.heap.size + 1) w.heap.size [] from
    ⟨by omega, by rw [show w.heap.size + 1 = (w.alloc (.map #[] 0)).heap.size from by simp]; exact heap_alloc_new _ _, (MapIs.made w).keep (Below.heap_alloc _ _ _ (by simp)), Good.nil⟩)
  have B := Lib.hid (show Below w.heap.size w ((w.alloc (.map #[] 0)).alloc (.cells #[.map (some w.heap.size), .int .i64 0] 104)) from ((Below.refl _ _).alloc (Nat.le_refl _) _).alloc (by simp) _)
  go_enter Tryz.func12, Tryz.ntmps12
  go_wp2
  go_ret
  exact ⟨by simp, S.out, B.out, by simp⟩

/-- A coin stored into a block of three cells. -/
def setCo (w : World) (n : Nat) (v : Int) (s : ByteArray) (t : Int) : World := ((w.setCell ⟨n, 0, none⟩ (.int .i64 v)).setCell ⟨n, 1, none⟩ (.string s)).setCell ⟨n, 2, none⟩ (.int .i64 t)
theorem setCo_cells {w : World} {n : Nat} {x y z : Value} (h0 : w.cell? ⟨n, 0, none⟩ = some x) (h1 : w.cell? ⟨n, 1, none⟩ = some y) (h2 : w.cell? ⟨n, 2, none⟩ = some z) (v : Int) (s : ByteArray) (t : Int) :
    (setCo w n v s t).cell? ⟨n, 0, none⟩ = some (.int .i64 v) ∧ (setCo w n v s t).cell? ⟨n, 1, none⟩ = some (.string s) ∧ (setCo w n v s t).cell? ⟨n, 2, none⟩ = some (.int .i64 t) := by
  unfold setCo
  refine ⟨?_, ?_, ?_⟩
  · exact (World.cell?_setCell_other _ _ _ _ (by simp)).trans ((World.cell?_setCell_other _ _ _ _ (by simp)).trans (World.cell?_setCell_same _ _ _ h0))
  · exact (World.cell?_setCell_other _ _ _ _ (by simp)).trans (World.cell?_setCell_same _ _ _ ((World.cell?_setCell_other _ _ _ _ (by simp)).trans h1))
  · exact World.cell?_setCell_same _ _ _ ((World.cell?_setCell_other _ _ _ _ (by simp)).trans ((World.cell?_setCell_other _ _ _ _ (by simp)).trans h2))
theorem setCo_below {B n : Nat} {a w : World} (h : Below B a w) (hn : B ≤ n) (v : Int) (s : ByteArray) (t : Int) : Below B a (setCo w n v s t) := ((h.setCell hn _).setCell hn _).setCell hn _

/-- What turns: the blocks a and b, and new ones. -/
structure But2 (a b : Nat) (w w' : World) : Prop where
  os : w'.os = w.os
  tape : w'.tape = w.tape
  output : w'.output = w.output
  size : w.heap.size ≤ w'.heap.size
  block : ∀ k, k < w.heap.size → k ≠ a → k ≠ b → w'.heap[k]? = w.heap[k]?
theorem But2.of_below {a b : Nat} {w w' : World} (h : Below w.heap.size w w') : But2 a b w w' := ⟨h.os, h.tape, h.output, h.size, fun k hk _ _ => h.block k hk⟩
theorem But2.trans {a b : Nat} {x y z : World} (h : But2 a b x y) (k : But2 a b y z) : But2 a b x z :=
  ⟨k.os.trans h.os, k.tape.trans h.tape, k.output.trans h.output, Nat.le_trans h.size k.size, fun i h1 h2 h3 => (k.block i (Nat.lt_of_lt_of_le h1 h.size) h2 h3).trans (h.block i h1 h2 h3)⟩
theorem But2.below {a b B : Nat} {x y z : World} (h : Below B x y) (k : But2 a b y z) (ha : B ≤ a) (hb : B ≤ b) (hs : B ≤ y.heap.size) : Below B x z :=
  ⟨k.os.trans h.os, k.tape.trans h.tape, k.output.trans h.output, Nat.le_trans h.size k.size, fun i hi => (k.block i (by omega) (by omega) (by omega)).trans (h.block i hi)⟩
theorem But2.kept {a b lo hi : Nat} {w w' : World} (h : But2 a b w w') (ha : a < lo ∨ hi ≤ a) (hb : b < lo ∨ hi ≤ b) (hh : hi ≤ w.heap.size) : Kept lo hi w w' := fun i h1 h2 => h.block i (by omega) (by omega) (by omega)

set_option maxHeartbeats 400000 in
theorem isgood_any (x : EnD) (w : World) :
    Calls Tryz.prog 35 #[.agg #[.int .i64 x.val, .string x.scr, .int .i64 x.ht]] w fun e w' => e = .returned (.bool (decide (0 ≤ x.ht) && decide (x.ht ≤ 1000000) && goodB x.val)) ∧ Below w.heap.size w w' := by
  obtain ⟨pid, pix, v, s, h⟩ := x
  have C := Lib.hid (fun W => agood_any v W)
  simp only
  generalize goodB v = r at C ⊢
  have B := Lib.hid (show Below w.heap.size w (w.alloc (.cells #[.int .i64 v, .string s, .int .i64 h] 61)) from (Below.refl _ _).alloc (Nat.le_refl _) _)
  by_cases h1 : 0 ≤ h
  · by_cases h2 : h ≤ 1000000
    · go_enter Tryz.func35, Tryz.ntmps35
      go_wp2_with (refine (C.out _).mono ?_; rintro e w' ⟨rfl, rfl⟩)
      go_ret
      exact ⟨ret_bool (by simp [h1, h2]), B.out⟩
    · go_enter Tryz.func35, Tryz.ntmps35
      go_wp2_with fail
      go_ret
      exact ⟨ret_bool (by simp; intro hh; omega), B.out⟩
  · go_enter Tryz.func35, Tryz.ntmps35
    go_wp2_with fail
    go_ret
    exact ⟨ret_bool (by simp; intro _ _; omega), B.out⟩

end Go.Proofs.YtjclklppnkoehaaGreatDoor.Co
