/-
  A lock and a transaction that is to open it, as LockOpens, LockRipe and LockKeeps have them: the script.
-/
import Derived.Test.YtdldhfhhhjenkaaPwalk
import Derived.Test.YtdldhfhhhjenkaaRsg
namespace Go.Proofs.Ytdldhfhhhjenkaa
open Go.RowKit

/-- The script of a lock, or any text. -/
def scS (xs : List BrD) (sc : ByteArray) (raw : Bool) : ByteArray := if raw = true ∨ ptE (xs.take 3) ≠ 0 then sc.extract 0 (min sc.size 40) else ptS (xs.take 3)
theorem scS_len (xs : List BrD) (sc : ByteArray) (raw : Bool) : (scS xs sc raw).size ≤ maxLen := by
  unfold scS
  split
  · rw [ByteArray.size_extract]
    unfold maxLen
    omega
  · exact ptS_len

set_option maxHeartbeats 2000000 in
set_option maxRecDepth 100000 in
theorem script_any (xs : List BrD) (sc : ByteArray) (raw : Bool) (vb u2 u3 u4 u5 u6 u7 u8 u10 u11 u12 : Value) (w : World) (hb : Brs w 0 w.heap.size vb xs) (hok : ∀ x ∈ xs, x.Ok) (hl : xs.length ≤ maxLen) (hs : sc.size ≤ maxLen) :
    Calls Try.prog 21 #[.agg #[vb, .string sc, u2, u3, u4, u5, u6, u7, u8, .bool raw, u10, u11, u12]] w fun e w' => e = .returned (.string (scS xs sc raw)) ∧ Below w.heap.size w w' := by
  obtain ⟨A, c, rfl⟩ := hb.form
  have hcap := hb.cap
  obtain ⟨n, hn⟩ : ∃ n, min xs.length 3 = n := ⟨_, rfl⟩
  have hm : ∀ w, (Builtin.min_ #[3, 3] 3 #[.int .i64 (xs.length : Int), .int .i64 3]).run Try.prog w = .ok (.int .i64 (n : Nat)) w := by rw [← hn]; exact fun w => run_min_nat 3 #[3, 3] 3 xs.length w
  obtain ⟨m, hmm⟩ : ∃ m, min sc.size 40 = m := ⟨_, rfl⟩
  have hm2 : ∀ w, (Builtin.min_ #[3, 3] 3 #[.int .i64 (sc.size : Int), .int .i64 40]).run Try.prog w = .ok (.int .i64 (m : Nat)) w := by rw [← hmm]; exact fun w => run_min_nat 40 #[3, 3] 3 sc.size w
  have n1 : n ≤ c := by omega
  have n2 : (n : Int) ≤ (c : Int) := by omega
  have m1 : m ≤ sc.size := by omega
  have m2 : (m : Int) ≤ (sc.size : Int) := by omega
  have hl' : xs.length ≤ 9223372036854775807 := by unfold maxLen at hl; omega
  have hs' : sc.size ≤ 9223372036854775807 := by unfold maxLen at hs; omega
  have ht3 : xs.take n = xs.take 3 := by rw [← hn, ← List.take_take, List.take_of_length_le (by rw [List.length_take]; omega)]
  obtain ⟨w0, hw0⟩ : ∃ w0, w0 = w.alloc (.cells #[.slice A xs.length c, .string sc, u2, u3, u4, u5, u6, u7, u8, .bool raw, u10, u11, u12] 55) := ⟨_, rfl⟩
  have z0 : w0.heap.size = w.heap.size + 1 := by rw [hw0]; simp
  have hb0 : Below w.heap.size w w0 := by rw [hw0]; exact (Below.refl _ _).alloc (Nat.le_refl _) _
  have hq : w0.heap[w.heap.size]? = some (.cells #[.slice A xs.length c, .string sc, u2, u3, u4, u5, u6, u7, u8, .bool raw, u10, u11, u12] 55 (0, 0)) := by rw [hw0]; exact heap_alloc_new w _
  have HB := Lib.hid (show Brs w0 0 w.heap.size (.slice A n c) (xs.take 3) from by rw [← ht3]; exact (hb.take (by omega)).keep (Kept.of_below hb0 (Nat.le_refl _)))
  have CP := Lib.hid (rlput_any (xs.take 3) _ w0 0 w.heap.size HB.out (by omega) (by rw [List.length_take]; omega) (fun x hx => hok x (List.mem_of_mem_take hx)))
  obtain ⟨pe, hpe⟩ : ∃ e, ptE (xs.take 3) = e := ⟨_, rfl⟩
  have ES := Lib.hid (show (raw = true ∨ pe ≠ 0 → scS xs sc raw = sc.extract 0 m) ∧ (¬ (raw = true ∨ pe ≠ 0) → scS xs sc raw = ptS (xs.take 3)) from ⟨fun h => by unfold scS; rw [hpe, if_pos h, hmm], fun h => by unfold scS; rw [hpe, if_neg h]⟩)
  rw [hpe] at CP
  generalize ptS (xs.take 3) = ps at CP ES
  have HW0 := Lib.hid hw0
  have B0 := Lib.hid hb0
  have HQ := Lib.hid hq
  have a0 : w0.cell? ⟨w.heap.size, 0, none⟩ = some (.slice A xs.length c) := by rw [Lib.cell_of_heap hq]; rfl
  clear hb hok hl hs hw0 hb0 hq hn hmm ht3 hpe hcap
  go_enter Try.func21, Try.ntmps21
  go_upto_region 1 with (fail)
  rw [show World.alloc w _ = w0 from HW0.out.symm]
  go_wp2_with fail
  refine CP.out.mono ?_
  rintro e w1 ⟨rfl, hb1⟩
  have q1 := (hb1.block w.heap.size (by omega)).trans HQ.out
  have a1 : w1.cell? ⟨w.heap.size, 1, none⟩ = some (.string sc) := by rw [Lib.cell_of_heap q1]; rfl
  have a9 : w1.cell? ⟨w.heap.size, 9, none⟩ = some (.bool raw) := by rw [Lib.cell_of_heap q1]; rfl
  have B1 := Lib.hid (below_next B0.out (by omega) hb1)
  clear hb1 q1 a0 hm
  cases raw with
  | true =>
    have E := Lib.hid (ES.out.1 (.inl rfl))
    go_wp2_with fail
    go_ret
    exact ⟨Oc.ret_str E.out.symm, B1.out⟩
  | false =>
    by_cases hp : pe = 0
    · have p1 : (pe != 0) = false := by simp [hp]
      have E := Lib.hid (ES.out.2 (by simp [hp]))
      clear hp
      go_wp2_with fail
      go_ret
      exact ⟨Oc.ret_str E.out.symm, B1.out⟩
    · have p1 : (pe != 0) = true := by simp [hp]
      have E := Lib.hid (ES.out.1 (.inr hp))
      clear hp
      go_wp2_with fail
      go_ret
      exact ⟨Oc.ret_str E.out.symm, B1.out⟩

end Go.Proofs.Ytdldhfhhhjenkaa
