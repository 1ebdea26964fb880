/-
  The reader: where it stands, and what each of its calls leaves as it was.
-/
import Derived.Test.YtkdkkndccjddnaaVivget
import Derived.Test.YtkdkkndccjddnaaData
import Derived.Lib.Builder
import Derived.BigQuiet
import Derived.Deep.DeepCutAuto
import Derived.Deep.RegionWith
namespace Go.Proofs.Ytkdkkndccjddnaa
open Go.RowKit

/-- The reader's block: the text, the place, the error. -/
def RdAt (w : World) (g : Nat) (s : ByteArray) (a e : Int) : Prop := w.heap[g]? = some (.cells #[.string s, .int .i64 a, .int .i64 e] 65 (0, 0))
theorem RdAt.cells {w : World} {g : Nat} {s : ByteArray} {a e : Int} (h : RdAt w g s a e) : w.cell? ⟨g, 0, none⟩ = some (.string s) ∧ w.cell? ⟨g, 1, none⟩ = some (.int .i64 a) ∧ w.cell? ⟨g, 2, none⟩ = some (.int .i64 e) ∧ w.frozen? ⟨g, 1, none⟩ = false ∧ w.frozen? ⟨g, 2, none⟩ = false := by
  refine ⟨?_, ?_, ?_, ?_, ?_⟩
  · rw [Lib.cell_of_heap h]; rfl
  · rw [Lib.cell_of_heap h]; rfl
  · rw [Lib.cell_of_heap h]; rfl
  · exact Lib.frozen_of_heap h 1
  · exact Lib.frozen_of_heap h 2
theorem RdAt.lt {w : World} {g : Nat} {s : ByteArray} {a e : Int} (h : RdAt w g s a e) : g < w.heap.size := by
  rcases Nat.lt_or_ge g w.heap.size with h' | h'
  · exact h'
  · unfold RdAt at h; rw [Array.getElem?_eq_none h'] at h; cases h
theorem RdAt.setAt {w : World} {g : Nat} {s : ByteArray} {a e : Int} (h : RdAt w g s a e) (a' : Int) : RdAt (w.setCell ⟨g, 1, none⟩ (.int .i64 a')) g s a' e := by
  unfold RdAt at h ⊢
  simp [World.setCell, Array.getElem?_modify, h]
theorem RdAt.setErr {w : World} {g : Nat} {s : ByteArray} {a e : Int} (h : RdAt w g s a e) (e' : Int) : RdAt (w.setCell ⟨g, 2, none⟩ (.int .i64 e')) g s a e' := by
  unfold RdAt at h ⊢
  simp [World.setCell, Array.getElem?_modify, h]
theorem RdAt.below {w w' : World} {g : Nat} {s : ByteArray} {a e : Int} (h : RdAt w g s a e) (hb : Below w.heap.size w w') : RdAt w' g s a e := (hb.block g h.lt).trans h

/-- All but the block g is as it was. -/
structure Only (g : Nat) (w w' : World) : Prop where
  os : w'.os = w.os
  tape : w'.tape = w.tape
  output : w'.output = w.output
  size : w.heap.size ≤ w'.heap.size
  block : ∀ b, b < w.heap.size → b ≠ g → w'.heap[b]? = w.heap[b]?
theorem Only.of_below {g : Nat} {w w' : World} (h : Below w.heap.size w w') : Only g w w' := ⟨h.os, h.tape, h.output, h.size, fun b hb _ => h.block b hb⟩
theorem Only.refl (g : Nat) (w : World) : Only g w w := Only.of_below (Below.refl _ _)
theorem Only.trans {g : Nat} {u v w : World} (h : Only g u v) (k : Only g v w) : Only g u w :=
  ⟨k.os.trans h.os, k.tape.trans h.tape, k.output.trans h.output, Nat.le_trans h.size k.size, fun b hb hg => (k.block b (Nat.lt_of_lt_of_le hb h.size) hg).trans (h.block b hb hg)⟩
theorem Only.set {g o : Nat} {u v : World} (h : Only g u v) (x : Value) : Only g u (v.setCell ⟨g, o, none⟩ x) := by
  have hb := (Below.refl 0 v).setCell (p := ⟨g, o, none⟩) (Nat.zero_le _) x
  exact ⟨hb.os.trans h.os, hb.tape.trans h.tape, hb.output.trans h.output, Nat.le_trans h.size hb.size, fun b hb' hg => (Below.heap_setCell _ _ _ _ hg).trans (h.block b hb' hg)⟩
theorem Only.alloc {g : Nat} {u v : World} (h : Only g u v) (o : Obj) : Only g u (v.alloc o) := h.trans (Only.of_below ((Below.refl _ _).alloc (Nat.le_refl _) o))
theorem Only.drewN {g : Nat} {u v : World} (h : Only g u v) (n : Nat) : Only g u (v.drewN n) := ⟨h.os, h.tape, h.output, h.size, h.block⟩

/-- What a call of the reader gives. -/
def RdGives (g : Nat) (s : ByteArray) (w : World) (v : Value) (a e : Int) (x : Ending) (w' : World) : Prop := x = .returned v ∧ RdAt w' g s a e ∧ Only g w w'

/-- The error, if there was none. -/
def refD (e x : Int) : Int := if e = 0 then x else e

set_option maxHeartbeats 400000 in
theorem refuse_any (g : Nat) (s : ByteArray) (a e x : Int) (w : World) (h : RdAt w g s a e) :
    Calls Try.prog 77 #[.pointer (some ⟨g, 0, none⟩), .int .i64 x] w (RdGives g s w (.tuple #[]) a (refD e x)) := by
  have H := Lib.hid h
  obtain ⟨c0, c1, c2, f1, f2⟩ := h.cells
  clear h
  by_cases he : e = 0
  · have e1 : (e == 0) = true := by simpa using he
    have E := Lib.hid (show refD e x = x from by unfold refD; rw [if_pos he])
    clear he
    go_enter Try.func77, Try.ntmps77
    go_wp2
    go_end0
    exact ⟨rfl, by rw [E.out]; exact H.out.setErr x, (Only.refl _ _).set _⟩
  · have e1 : (e == 0) = false := by simpa using he
    have E := Lib.hid (show refD e x = e from by unfold refD; rw [if_neg he])
    clear he
    go_enter Try.func77, Try.ntmps77
    go_wp2
    go_end0
    exact ⟨rfl, by rw [E.out]; exact H.out, Only.refl _ _⟩

/-- The error behind a number's span is asked. -/
def spanE (n lo hi out e : Int) : Int := if n < lo ∨ hi < n then refD e out else e

/-- The number, and the place behind it, if nothing is wrong. -/
def okN (x n : Int) : Int := if x = 0 then n else 0
def okA (x bh a : Int) : Int := if x = 0 then bh else a
theorem okN_yes {x n : Int} (h : x = 0) : okN x n = n := if_pos h
theorem okN_no {x n : Int} (h : ¬ x = 0) : okN x n = 0 := if_neg h
theorem okA_yes {x b a : Int} (h : x = 0) : okA x b a = b := if_pos h
theorem okA_no {x b a : Int} (h : ¬ x = 0) : okA x b a = a := if_neg h
theorem ret_u {k : IntKind} {a b : Int} (h : a = b) : Ending.returned (.int k a) = .returned (.int k b) := by rw [h]

set_option maxHeartbeats 1000000 in
theorem accept_any (g : Nat) (s : ByteArray) (a e n bh lo hi out : Int) (w : World) (h : RdAt w g s a e) :
    Calls Try.prog 91 #[.pointer (some ⟨g, 0, none⟩), .int .u64 n, .int .i64 bh, .agg #[.int .u64 lo, .int .u64 hi, .int .i64 out]] w
      (RdGives g s w (.int .u64 (okN (spanE n lo hi out e) n)) (okA (spanE n lo hi out e) bh a) (spanE n lo hi out e)) := by
  have H := Lib.hid h
  have hg := h.lt
  have B0 := Lib.hid (fun o => (Below.refl w.heap.size w).alloc (Nat.le_refl _) o)
  obtain ⟨w1, hw1⟩ : ∃ w1, w1 = w.alloc (.cells #[.int .u64 lo, .int .u64 hi, .int .i64 out] 122) := ⟨_, rfl⟩
  have H1 := Lib.hid (show RdAt w1 g s a e from by rw [hw1]; exact h.below (B0.out _))
  have O1 := Lib.hid (show Only g w w1 from by rw [hw1]; exact Only.of_below (B0.out _))
  have z1 : w1.heap.size = w.heap.size + 1 := by rw [hw1]; simp
  have x0 : w1.cell? ⟨w.heap.size, 0, none⟩ = some (.int .u64 lo) := by rw [hw1]; simp
  have x1 : w1.cell? ⟨w.heap.size, 1, none⟩ = some (.int .u64 hi) := by rw [hw1]; simp
  have x2 : w1.cell? ⟨w.heap.size, 2, none⟩ = some (.int .i64 out) := by rw [hw1]; simp
  have HW1 := Lib.hid hw1
  clear h hw1
  by_cases hr : n < lo ∨ hi < n
  · have E := Lib.hid (show spanE n lo hi out e = refD e out from by unfold spanE; rw [if_pos hr])
    have hsplit : n < lo ∨ (¬ n < lo ∧ hi < n) := by omega
    clear hr
    go_enter Try.func91, Try.ntmps91
    go_upto_region 1 with (fail)
    rw [show World.alloc w _ = w1 from HW1.out.symm]
    rcases hsplit with q1 | ⟨q1, q2⟩
    all_goals
      go_wp2_with fail
      refine (refuse_any g s a e out w1 H1.out).mono ?_
      rintro x w2 ⟨rfl, h2, o2⟩
      have H2 := Lib.hid h2
      have O2 := Lib.hid (O1.out.trans o2)
      obtain ⟨c0, c1, c2, f1, f2⟩ := h2.cells
      clear h2 o2 x0 x1 x2
      obtain ⟨e2, he2⟩ : ∃ e2, refD e out = e2 := ⟨_, rfl⟩
      rw [he2] at H2 c2 E
      clear he2
      by_cases hz : e2 = 0
      · have y1 : (e2 != 0) = false := by simpa using hz
        have HZ := Lib.hid hz
        clear hz
        go_wp2_with fail
        go_ret
        exact ⟨ret_u (by rw [E.out, okN_yes HZ.out]), by rw [E.out, okA_yes HZ.out]; exact H2.out.setAt bh, O2.out.set _⟩
      · have y1 : (e2 != 0) = true := by simpa using hz
        have HZ := Lib.hid hz
        clear hz
        go_wp2_with fail
        go_ret
        exact ⟨ret_u (by rw [E.out, okN_no HZ.out]), by rw [E.out, okA_no HZ.out]; exact H2.out, O2.out⟩
  · have E := Lib.hid (show spanE n lo hi out e = e from by unfold spanE; rw [if_neg hr])
    have q1 : ¬ n < lo := by omega
    have q2 : ¬ hi < n := by omega
    obtain ⟨c0, c1, c2, f1, f2⟩ := H1.out.cells
    clear hr
    by_cases hz : e = 0
    · have y1 : (e != 0) = false := by simpa using hz
      have HZ := Lib.hid hz
      clear hz
      go_enter Try.func91, Try.ntmps91
      go_upto_region 1 with (fail)
      rw [show World.alloc w _ = w1 from HW1.out.symm]
      go_wp2_with fail
      go_ret
      exact ⟨ret_u (by rw [E.out, okN_yes HZ.out]), by rw [E.out, okA_yes HZ.out]; exact H1.out.setAt bh, O1.out.set _⟩
    · have y1 : (e != 0) = true := by simpa using hz
      have HZ := Lib.hid hz
      clear hz
      go_enter Try.func91, Try.ntmps91
      go_upto_region 1 with (fail)
      rw [show World.alloc w _ = w1 from HW1.out.symm]
      go_wp2_with fail
      go_ret
      exact ⟨ret_u (by rw [E.out, okN_no HZ.out]), by rw [E.out, okA_no HZ.out]; exact H1.out, O1.out⟩

end Go.Proofs.Ytkdkkndccjddnaa
