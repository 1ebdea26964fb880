/-
  The statement WireDecodes, walked.
-/
import Derived.Test.YtkdkkndccjddnaaRdecw
import Derived.Test.YtkdkkndccjddnaaGmut
namespace Go.Proofs.Ytkdkkndccjddnaa
open Go.RowKit

set_option maxHeartbeats 2000000 in
set_option maxRecDepth 100000 in
theorem decodes_law (s : ByteArray) (w : World) : Calls Try.prog 4 #[.string s] w fun e w' => e = .returned (.bool true) ∧ Below w.heap.size w w' := by
  obtain ⟨n, hn1, hn2, -, hmin⟩ := run_min_at 1000 #[3, 3] 3 s.size
  obtain ⟨r, hr⟩ : ∃ r, s.extract 0 n = r := ⟨_, rfl⟩
  have hrz : r.size ≤ 1000 := by rw [← hr, ByteArray.size_extract]; omega
  have hm : ∀ w, (Builtin.min_ #[3, 3] 3 #[.int .i64 (s.size : Int), .int .i64 1000]).run Try.prog w = .ok (.int .i64 (n : Nat)) w := hmin
  go_enter Try.func4, Try.ntmps4
  go_upto_region 2 with (fail)
  clear hm hmin hn1 hn2 hr
  have C15 := Lib.hid (decode_any r w (by omega))
  have C16 := Lib.hid (fun W => rdecode_any r W (by omega))
  obtain ⟨T, hT⟩ : ∃ T, dcT r = T := ⟨_, rfl⟩
  obtain ⟨a, ha⟩ : ∃ a, dcA r = a := ⟨_, rfl⟩
  obtain ⟨e, he⟩ : ∃ e, dcE r = e := ⟨_, rfl⟩
  have OK := Lib.hid (dcT_ok r)
  rw [hT] at OK
  rw [hT, ha, he] at C15 C16
  clear hT ha he
  go_wp2_with fail
  refine C15.out.mono ?_
  rintro x w3 ⟨ti, tp, rfl, ht3, hb3⟩
  have z3 := hb3.size
  obtain ⟨A1, m1, rfl⟩ := ht3.1.form
  obtain ⟨A2, m2, rfl⟩ := ht3.2.form
  obtain ⟨w4, hw4⟩ : ∃ w4, w4 = w3.alloc (.cells #[.int .u32 T.ver, .slice A1 T.ins.length m1, .slice A2 T.outs.length m2, .int .u32 T.lock] 26) := ⟨_, rfl⟩
  have z4 : w4.heap.size = w3.heap.size + 1 := by rw [hw4]; simp
  have hb4 : Below w3.heap.size w3 w4 := by rw [hw4]; exact (Below.refl _ _).alloc (Nat.le_refl _) _
  have B4 := Lib.hid (show Boxed w4 w3.heap.size (.int .u32 T.ver) (.slice A1 T.ins.length m1) (.slice A2 T.outs.length m2) (.int .u32 T.lock) from by rw [hw4]; exact Boxed.new _ _ _ _ _ _)
  have T4 := Lib.hid (ht3.keep (Kept.of_below hb4 (Nat.le_refl _)))
  have K4 := Lib.hid (below_next hb3 (by omega) hb4)
  have HW4 := Lib.hid hw4
  clear ht3 hb3 hb4 hw4 C15
  go_upto_region 3 with (fail)
  rw [show World.alloc w3 _ = w4 from HW4.out.symm]
  go_wp2_with fail
  refine (C16.out w4).mono ?_
  rintro x w5 ⟨ui, up, rfl, ht5, hb5⟩
  have z5 := hb5.size
  obtain ⟨A3, m3, rfl⟩ := ht5.1.form
  obtain ⟨A4, m4, rfl⟩ := ht5.2.form
  obtain ⟨w6, hw6⟩ : ∃ w6, w6 = w5.alloc (.cells #[.int .u32 T.ver, .slice A3 T.ins.length m3, .slice A4 T.outs.length m4, .int .u32 T.lock] 26) := ⟨_, rfl⟩
  have z6 : w6.heap.size = w5.heap.size + 1 := by rw [hw6]; simp
  have hb6 : Below w5.heap.size w5 w6 := by rw [hw6]; exact (Below.refl _ _).alloc (Nat.le_refl _) _
  have hb46 : Below w4.heap.size w4 w6 := below_next hb5 (by omega) hb6
  have B6 := Lib.hid (show Boxed w6 w5.heap.size (.int .u32 T.ver) (.slice A3 T.ins.length m3) (.slice A4 T.outs.length m4) (.int .u32 T.lock) from by rw [hw6]; exact Boxed.new _ _ _ _ _ _)
  have T6 := Lib.hid (ht5.keep (Kept.of_below hb6 (Nat.le_refl _)))
  have B46 := Lib.hid (B4.out.below (by omega) hb46)
  have T46 := Lib.hid (T4.out.keep (Kept.of_below hb46 (by omega)))
  have K6 := Lib.hid (below_next K4.out (by have := K4.out.size; omega) hb46)
  have HW6 := Lib.hid hw6
  clear ht5 hb5 hb6 hw6 C16 hb46 B4 T4 K4
  go_upto_region 4 with (fail)
  rw [show World.alloc w5 _ = w6 from HW6.out.symm]
  have e1 : ((a : Int) == (a : Int)) = true := by simp
  have e2 : (e == e) = true := by simp
  go_wp2_with fail
  refine (wakes_any _).mono ?_
  rintro x w7 ⟨rfl, hb7⟩
  have z7 := hb7.size
  have K7 := Lib.hid (below_next K6.out (by have := K6.out.size; omega) hb7)
  have C17 := Lib.hid (rsame_any T T _ _ _ _ w7 w.heap.size w3.heap.size w4.heap.size w5.heap.size (T46.out.keep (Kept.of_below hb7 (by omega))) (T6.out.keep (Kept.of_below hb7 (by omega))) (by omega) (by omega) OK.out)
  rw [txB_refl] at C17
  obtain ⟨a0, a1, a2, a3⟩ := B46.out.below (by omega) hb7
  obtain ⟨c0, c1, c2, c3⟩ := B6.out.below (by omega) hb7
  clear hb7
  go_wp2_with fail
  refine C17.out.mono ?_
  rintro x w8 ⟨rfl, hb8⟩
  go_wp2_with fail
  go_ret
  exact ⟨rfl, below_next K7.out (by have := K7.out.size; omega) hb8⟩

end Go.Proofs.Ytkdkkndccjddnaa
