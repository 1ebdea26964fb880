/-
  The statement DustEdge, walked.
-/
import Derived.Test.YtmabfccieoaalaaWake
namespace Go.Proofs.Ytmabfccieoaalaa
open Go.RowKit

theorem min_forty (n : Nat) (w : World) : (Builtin.min_ #[3, 3] 3 #[.int .i64 (n : Int), .int .i64 40]).run Try.prog w = .ok (.int .i64 ((min n 40 : Nat) : Int)) w := by
  rw [run_min_int2 w #[3, 3] 3 .i64 .i64 (n : Int) 40]
  by_cases h : (n : Int) < 40
  · rw [Nat.min_eq_left (by omega)]; simp; omega
  · rw [Nat.min_eq_right (by omega)]; simp; omega

theorem zeros_last {w wr : World} {j : Nat} (h : wr.ownsRow w.heap.size 5 1 (.slice (some ⟨w.heap.size, 0, none⟩) j j) j ((List.replicate j (0 : Int)).map (Value.int .u8))) :
    (convert 41 9 (.slice (some ⟨w.heap.size, 0, none⟩) j j)).run Try.prog wr = .ok (.string (strOfNums (List.replicate j 0))) wr :=
  run_convert_bytes_arg _ 41 5 Try.underlying41 Try.underlying5 w.heap.size 0 j j (List.replicate j 0) (by simp) (fun i hi => by
    rw [Nat.zero_add]
    refine (h.cellAt i (by omega)).trans ?_
    rw [List.getElem?_map, List.getD_eq_getElem?_getD, List.getElem?_eq_getElem (by simpa using hi)]
    rfl) 9 Try.underlying9

set_option maxHeartbeats 4000000 in
set_option maxRecDepth 100000 in
theorem edge_law (s : ByteArray) (m : Int) (w : World) (hs : s.size ≤ maxLen) (hm : 0 ≤ m ∧ m ≤ 255) :
    Calls Try.prog 4 #[.string s, .int .u8 m] w fun e w' => e = .returned (.bool true) ∧ Below w.heap.size w w' := by
  obtain ⟨k, hk⟩ : ∃ k, min s.size 40 = k := ⟨_, rfl⟩
  have hmin : ∀ w, (Builtin.min_ #[3, 3] 3 #[.int .i64 (s.size : Int), .int .i64 40]).run Try.prog w = .ok (.int .i64 (k : Nat)) w := by rw [← hk]; exact fun w => min_forty s.size w
  have k1 : (k : Int) ≤ (s.size : Int) := by omega
  have k40 : k ≤ 40 := by omega
  have hs' : s.size ≤ 9223372036854775807 := by unfold maxLen at hs; omega
  obtain ⟨s0, hs0⟩ : ∃ s0, s.extract 0 k = s0 := ⟨_, rfl⟩
  have z0 : s0.size = k := by rw [← hs0, ByteArray.size_extract]; omega
  have HS0 := Lib.hid hs0
  obtain ⟨r, hr⟩ : ∃ r : Nat, m % (41 - (k : Int)) = (r : Int) := ⟨(m % (41 - (k : Int))).toNat, by have := Int.emod_nonneg m (b := 41 - (k : Int)) (by omega); omega⟩
  have hr40 : r + k ≤ 40 := by have := Int.emod_lt_of_pos m (b := 41 - (k : Int)) (by omega); omega
  have hmod : m.tmod (41 - (k : Int)) = (r : Int) := by rw [Int.tmod_eq_emod_of_nonneg hm.1, hr]
  have hne : ¬ (41 - (k : Int)) = 0 := by omega
  obtain ⟨zs, hzs⟩ : ∃ zs, strOfNums (List.replicate r 0) = zs := ⟨_, rfl⟩
  have zz : zs.size = r := by rw [← hzs, strOfNums_size]; simp
  have l0 : lsN s0 = 3 * ((k : Int) + 76) := by unfold lsN; rw [if_neg (by omega), z0]
  have e0 : szE s0 = 0 := by unfold szE; rw [if_neg (by omega)]
  have zt : (s0 ++ zs).size = k + r := by rw [ByteArray.size_append, z0, zz]
  have l1 : lsN (s0 ++ zs) = 3 * ((k : Int) + r + 76) := by unfold lsN; rw [if_neg (by omega), zt]; omega
  have e1 : szE (s0 ++ zs) = 0 := by unfold szE; rw [if_neg (by omega)]
  have d0 : duB (3 * ((k : Int) + 76)) s0 = false := by unfold duB; rw [l0]; simp
  have d1 : duB (3 * ((k : Int) + 76) - 1) s0 = true := by unfold duB; rw [l0]; simp; omega
  have C1 := Lib.hid (fun W => least_any 0 s0 W (by unfold maxLen; omega))
  have C2 := Lib.hid (fun W => least_any 0 (s0 ++ zs) W (by unfold maxLen; omega))
  have C3 := Lib.hid (fun W => dust_any (3 * ((k : Int) + 76)) s0 W (by unfold maxLen; omega))
  have C4 := Lib.hid (fun W => dust_any (3 * ((k : Int) + 76) - 1) s0 W (by unfold maxLen; omega))
  rw [l0, e0] at C1
  rw [l1, e1] at C2
  rw [d0] at C3
  rw [d1] at C4
  have MK := Lib.hid (fun (W : World) => show ∃ w1, (Instr.makeSlice 41 (.int .i64 (r : Int)) (.int .i64 (r : Int))).run Try.prog W = .ok (.slice (some ⟨W.heap.size, 0, none⟩) r r) w1 ∧ (convert 41 9 (.slice (some ⟨W.heap.size, 0, none⟩) r r)).run Try.prog w1 = .ok (.string zs) w1 ∧ Below W.heap.size W w1 from by
    obtain ⟨i0, hi, hz0, hz1, hz2⟩ := info_parts Vi.Try.info5
    obtain ⟨w1, hrun, hown, hgrow⟩ := run_make_full (P := Try.prog) W W.heap.size 41 5 i0 (.int .u8 0) 1 Try.underlying41 hi hz0 hz1 .i64 .i64 r (by rw [hz2]; omega) (by unfold maxLen; omega) (Nat.le_refl _)
    have hB := (Below.refl W.heap.size W).grown hgrow (Nat.le_refl _) (by simp)
    have e0 : (madeCells (Value.int .u8 0).cells (r * 1)).toList = (List.replicate r (0 : Int)).map (Value.int .u8) := by
      show (madeCells #[Value.int .u8 0] (r * 1)).toList = _
      rw [toList_madeCells_one]
      simp
    rw [e0] at hown
    refine ⟨w1, hrun, ?_, hB⟩
    have := zeros_last hown
    rw [hzs] at this
    exact this)
  clear hs0 hs hk hr l0 e0 l1 e1 d0 d1 hzs
  go_enter Try.func4, Try.ntmps4
  go_upto_region 2 with (fail)
  rw [HS0.out]
  clear hmin
  go_wp2_with fail
  refine (C1.out _).mono ?_
  rintro e w1 ⟨rfl, hb1⟩
  have B1 := Lib.hid hb1
  clear hb1
  obtain ⟨w2, hmk, hcv, hb2⟩ := MK.out w1
  have B2 := Lib.hid (below_next B1.out B1.out.size hb2)
  clear hb2
  go_wp2_with fail
  refine (C2.out _).mono ?_
  rintro e w3 ⟨rfl, hb3⟩
  have B3 := Lib.hid (below_next B2.out B2.out.size hb3)
  clear hb3 hmk hcv
  go_wp2_with fail
  refine (wakes_any _).mono ?_
  rintro e w4 ⟨rfl, hb4⟩
  have B4 := Lib.hid (below_next B3.out B3.out.size hb4)
  clear hb4
  go_wp2_with fail
  refine (C3.out _).mono ?_
  rintro e w5 ⟨rfl, hb5⟩
  have B5 := Lib.hid (below_next B4.out B4.out.size hb5)
  clear hb5
  go_wp2_with fail
  refine (C4.out _).mono ?_
  rintro e w6 ⟨rfl, hb6⟩
  have B6 := Lib.hid (below_next B5.out B5.out.size hb6)
  clear hb6
  go_wp2_with fail
  go_ret
  exact ⟨Am.ret_bool (by simp; omega), B6.out⟩

end Go.Proofs.Ytmabfccieoaalaa
