/-
  The statement WireAgain, walked.
-/
import Derived.Test.YtkdkkndccjddnaaPlawc
import Derived.Test.YtkdkkndccjddnaaWake
namespace Go.Proofs.Ytkdkkndccjddnaa
open Go.RowKit

theorem run_min_at (c : Nat) (ts : Array TypeId) (t : TypeId) (x : Nat) : ∃ n : Nat, n ≤ c ∧ n ≤ x ∧ (n = x ∨ n = c) ∧ ∀ w, (Builtin.min_ ts t #[.int .i64 (x : Int), .int .i64 (c : Int)]).run Try.prog w = .ok (.int .i64 (n : Nat)) w := by
  by_cases h : x < c
  · exact ⟨x, by omega, by omega, .inl rfl, fun w => by rw [run_min_int2 w ts t .i64 .i64 x c, if_neg (by omega)]⟩
  · refine ⟨c, by omega, by omega, .inr rfl, fun w => ?_⟩
    rw [run_min_int2 w ts t .i64 .i64 x c]
    by_cases h2 : x = c
    · subst h2; simp
    · rw [if_pos (by omega)]
theorem dec_again {s : ByteArray} (h : dcE s = 0) : dcA s = s.size ∧ checkD (dcT s) = 0 ∧ encS (dcT s) (hasW (dcT s)) = s := by
  obtain ⟨h1, h2, h3, h4⟩ := wire_at s h
  have hT : dcT s = trD s z0 := by unfold dcT; rw [if_pos h]
  rw [hT]
  refine ⟨h2, h1, ?_⟩
  unfold encS
  rw [if_pos h1, ← h3, h4]
theorem dec_none {s : ByteArray} (h : ¬ dcE s = 0) : dcT s = ⟨0, [], [], 0⟩ := by unfold dcT; rw [if_neg h]

set_option maxHeartbeats 2000000 in
set_option maxRecDepth 100000 in
theorem again_law (s : ByteArray) (w : World) (_hs : s.size ≤ 140737488355328) : Calls Try.prog 6 #[.string s] w fun e w' => e = .returned (.bool true) ∧ Below w.heap.size w w' := by
  obtain ⟨n, hn1, hn2, -, hmin⟩ := run_min_at 1000 #[3, 3] 3 s.size
  obtain ⟨r, hr⟩ : ∃ r, s.extract 0 n = r := ⟨_, rfl⟩
  have hrz : r.size ≤ 1000 := by rw [← hr, ByteArray.size_extract]; omega
  have hm : ∀ w, (Builtin.min_ #[3, 3] 3 #[.int .i64 (s.size : Int), .int .i64 1000]).run Try.prog w = .ok (.int .i64 (n : Nat)) w := hmin
  go_enter Try.func6, Try.ntmps6
  go_upto_region 2 with (fail)
  clear hm hmin hn1 hn2 hr
  have C15 := Lib.hid (decode_any r w (by omega))
  obtain ⟨T, hT⟩ : ∃ T, dcT r = T := ⟨_, rfl⟩
  obtain ⟨a, ha⟩ : ∃ a, dcA r = a := ⟨_, rfl⟩
  obtain ⟨e, he⟩ : ∃ e, dcE r = e := ⟨_, rfl⟩
  have F1 := Lib.hid (fun h : e = 0 => dec_again (s := r) (by rw [he, h]))
  have F2 := Lib.hid (fun h : ¬ e = 0 => dec_none (s := r) (by rw [he]; exact h))
  have OK := Lib.hid (dcT_ok r)
  have hal := dcA_le r
  rw [hT, ha] at F1
  rw [hT] at F2 OK
  rw [hT, ha, he] at C15
  rw [ha] at hal
  clear hT ha he
  go_wp2_with fail
  refine C15.out.mono ?_
  rintro x w3 ⟨ti, tp, rfl, ht3, hb3⟩
  have z3 := hb3.size
  obtain ⟨A1, m1, rfl⟩ := ht3.1.form
  obtain ⟨A2, m2, rfl⟩ := ht3.2.form
  obtain ⟨w4, hw4⟩ : ∃ w4, w4 = w3.alloc (.cells #[.int .u32 T.ver, .slice A1 T.ins.length m1, .slice A2 T.outs.length m2, .int .u32 T.lock] 26) := ⟨_, rfl⟩
  have z4 : w4.heap.size = w3.heap.size + 1 := by rw [hw4]; simp
  have hb4 : Below w3.heap.size w3 w4 := by rw [hw4]; exact (Below.refl _ _).alloc (Nat.le_refl _) _
  have B4 := Lib.hid (show Boxed w4 w3.heap.size (.int .u32 T.ver) (.slice A1 T.ins.length m1) (.slice A2 T.outs.length m2) (.int .u32 T.lock) from by rw [hw4]; exact Boxed.new _ _ _ _ _ _)
  have T4 := Lib.hid (ht3.keep (Kept.of_below hb4 (Nat.le_refl _)))
  have K4 := Lib.hid (below_next hb3 (by omega) hb4)
  have HW4 := Lib.hid hw4
  clear ht3 hb3 hb4 hw4 C15
  have hlt : w3.heap.size < w4.heap.size := by omega
  by_cases hz : e = 0
  · subst hz
    obtain ⟨f1, f2, f3⟩ := F1.out rfl
    have F3 := Lib.hid (show encS T (hasW T) = r from f3)
    have C10 := Lib.hid (encode_any T _ _ w4 (T4.out.wide (Nat.zero_le _) (by omega)) OK.out)
    rw [f2, f3] at C10
    clear f2 f3 F1 F2
    have e1 : ((a : Int) == (r.size : Int)) = true := by rw [f1]; simp
    have e2 : (r.toList == r.toList) = true := by simp
    clear f1
    go_upto_region 5 with (fail)
    rw [show World.alloc w3 _ = w4 from HW4.out.symm]
    obtain ⟨a0, a1, a2, a3⟩ := B4.out
    go_wp2_with fail
    refine C10.out.mono ?_
    rintro x w5 ⟨rfl, hb5⟩
    have K5 := Lib.hid (below_next K4.out (by have := K4.out.size; omega) hb5)
    go_wp2_with fail
    refine (wakes_any _).mono ?_
    rintro x w6 ⟨rfl, hb6⟩
    go_wp2_with fail
    go_ret
    exact ⟨rfl, below_next K5.out (by have := K5.out.size; omega) hb6⟩
  · have hz1 : (e != 0) = true := by simpa using hz
    have TB := Lib.hid (show txB T ⟨0, [], [], 0⟩ = true from by rw [F2.out hz]; rfl)
    clear hz F1 F2
    have e1 : ¬ ((r.size : Int) < (a : Int)) := by omega
    go_upto_region 4 with (fail)
    rw [show World.alloc w3 _ = w4 from HW4.out.symm]
    go_wp2_with fail
    refine (wakes_any _).mono ?_
    rintro x w6 ⟨rfl, hb6⟩
    have K6 := Lib.hid (below_next K4.out (by have := K4.out.size; omega) hb6)
    have z6 := hb6.size
    have T6 := Lib.hid (T4.out.keep (Kept.of_below hb6 (by omega)))
    have C17 := Lib.hid (rsame_any T ⟨0, [], [], 0⟩ _ _ (.slice none 0 0) (.slice none 0 0) w6 w.heap.size w3.heap.size 0 0 T6.out ⟨Ins.nil _ _ _, Outs.nil _ _ _⟩ (by omega) (Nat.zero_le _) OK.out)
    rw [TB.out] at C17
    obtain ⟨a0, a1, a2, a3⟩ := B4.out.below hlt hb6
    go_wp2_with fail
    refine C17.out.mono ?_
    rintro x w7 ⟨rfl, hb7⟩
    go_wp2_with fail
    go_ret
    exact ⟨rfl, below_next K6.out (by have := K6.out.size; omega) hb7⟩

end Go.Proofs.Ytkdkkndccjddnaa
