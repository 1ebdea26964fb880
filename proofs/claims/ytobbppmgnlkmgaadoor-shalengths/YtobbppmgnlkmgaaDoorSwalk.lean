/-
  The statements ShaSums, ShaTwice and ShaLengths, walked.
-/
import Derived.Test.YtobbppmgnlkmgaaDoorSum
namespace Go.Proofs.YtobbppmgnlkmgaaDoor
open Go.RowKit

/-- A length, but at most c. -/
def cutN (c n : Nat) : Nat := if n < c then n else c
theorem cutN_le (c n : Nat) : cutN c n ≤ c ∧ cutN c n ≤ n := by unfold cutN; split <;> omega
theorem run_min_at (w : World) (c : Nat) (ts : Array TypeId) (t : TypeId) (x : Nat) : (Builtin.min_ ts t #[.int .i64 (x : Int), .int .i64 (c : Int)]).run Tryd.prog w = .ok (.int .i64 (cutN c x : Nat)) w := by
  rw [run_min_int2 w ts t .i64 .i64 x c]
  unfold cutN
  by_cases h : x < c
  · rw [if_pos h, if_neg (by omega)]
  · rw [if_neg h]
    by_cases h2 : x = c
    · subst h2; simp
    · rw [if_pos (by omega)]
theorem run_min1000 (w : World) (ts : Array TypeId) (t : TypeId) (x : Nat) : (Builtin.min_ ts t #[.int .i64 (x : Int), .int .i64 1000]).run Tryd.prog w = .ok (.int .i64 (cutN 1000 x : Nat)) w := run_min_at w 1000 ts t x
theorem run_min300 (w : World) (ts : Array TypeId) (t : TypeId) (x : Nat) : (Builtin.min_ ts t #[.int .i64 (x : Int), .int .i64 300]).run Tryd.prog w = .ok (.int .i64 (cutN 300 x : Nat)) w := run_min_at w 300 ts t x

theorem sum_abc (w : World) (hT : Tabs w) : Calls Tryd.prog 7 #[.string ⟨#[97, 98, 99]⟩] w fun e w' => e = .returned (.string ⟨#[0xba, 0x78, 0x16, 0xbf, 0x8f, 0x01, 0xcf, 0xea, 0x41, 0x41, 0x40, 0xde, 0x5d, 0xae, 0x22, 0x23, 0xb0, 0x03, 0x61, 0xa3, 0x96, 0x17, 0x7a, 0x9c, 0xb4, 0x10, 0xff, 0x61, 0xf2, 0x00, 0x15, 0xad]⟩) ∧ Below w.heap.size w w' :=
  (sum_any _ w (by decide) hT).mono fun _ _ ⟨he, hw⟩ => ⟨he.trans (ret_str digest_abc), hw⟩

theorem wakes_any (w : World) (hT : Tabs w) : Calls Tryd.prog 6 #[] w fun e w' => e = .returned (.bool true) ∧ Below w.heap.size w w' := by
  go_enter Tryd.func6, Tryd.ntmps6
  go_wp2_with fail
  refine (sum_abc w hT).mono ?_
  rintro e w1 ⟨rfl, hB1⟩
  go_wp2_with fail
  go_ret
  exact ⟨rfl, hB1⟩

theorem extract_le (s : ByteArray) (n : Nat) : (s.extract 0 n).size ≤ n := by rw [ByteArray.size_extract]; omega

set_option maxHeartbeats 400000 in
theorem sums_any (s : ByteArray) (w : World) (_hs : s.size ≤ 140737488351232) (hT : Tabs w) : Calls Tryd.prog 3 #[.string s] w fun e w' => e = .returned (.bool true) ∧ Below w.heap.size w w' := by
  have hmin := run_min1000
  have hc := cutN_le 1000 s.size
  have hx := extract_le s (cutN 1000 s.size)
  generalize hcc : cutN 1000 s.size = n at hc hx
  go_enter Tryd.func3, Tryd.ntmps3
  go_wp2_with fail
  refine (wakes_any w hT).mono ?_
  rintro e w1 ⟨rfl, hB1⟩
  generalize s.extract 0 n = t at hx ⊢
  go_wp2_with fail
  refine (sum_any t w1 (by omega) (hT.below hB1)).mono ?_
  rintro e w2 ⟨rfl, hB2⟩
  go_wp2_with fail
  refine (rsum_any t w2 (by omega)).mono ?_
  rintro e w3 ⟨rfl, hB3⟩
  go_wp2_with fail
  go_ret
  exact ⟨rfl, (hB1.trans (hB2.mono hB1.size)).trans (hB3.mono (Nat.le_trans hB1.size hB2.size))⟩

set_option maxHeartbeats 400000 in
theorem twices_any (s : ByteArray) (w : World) (_hs : s.size ≤ 140737488351232) (hT : Tabs w) : Calls Tryd.prog 4 #[.string s] w fun e w' => e = .returned (.bool true) ∧ Below w.heap.size w w' := by
  have hmin := run_min1000
  have hc := cutN_le 1000 s.size
  have hx := extract_le s (cutN 1000 s.size)
  generalize hcc : cutN 1000 s.size = n at hc hx
  go_enter Tryd.func4, Tryd.ntmps4
  go_wp2_with fail
  have hd1 := digest_size (s.extract 0 n)
  have hd2 := digest_size (digest (s.extract 0 n))
  refine (twice_any (s.extract 0 n) w (by omega) hT).mono ?_
  rintro e w1 ⟨rfl, hB1⟩
  generalize s.extract 0 n = t at hx hd1 hd2 ⊢
  go_wp2_with fail
  refine (wakes_any w1 (hT.below hB1)).mono ?_
  rintro e w2 ⟨rfl, hB2⟩
  go_wp2_with fail
  refine (rtwice_any t w2 (by omega)).mono ?_
  rintro e w3 ⟨rfl, hB3⟩
  have HB := Lib.hid ((hB1.trans (hB2.mono hB1.size)).trans (hB3.mono (Nat.le_trans hB1.size hB2.size)))
  clear hB1 hB2 hB3
  go_wp2_with fail
  refine (sum_any t w3 (by omega) (hT.below HB.out)).mono ?_
  rintro e w4 ⟨rfl, hB4⟩
  go_wp2_with fail
  refine (sum_any (digest t) w4 (by omega) ((hT.below HB.out).below hB4)).mono ?_
  rintro e w5 ⟨rfl, hB5⟩
  go_wp2_with fail
  go_ret
  exact ⟨rfl, (HB.out.trans (hB4.mono HB.out.size)).trans (hB5.mono (Nat.le_trans HB.out.size hB4.size))⟩

theorem zeros_last {w wr : World} (h : wr.ownsRow w.heap.size 5 1 (.slice (some ⟨w.heap.size, 0, none⟩) 400 400) 400 ((List.replicate 400 (0 : Int)).map (Value.int .u8))) :
    (convert 26 9 (.slice (some ⟨w.heap.size, 0, none⟩) 400 400)).run Tryd.prog wr = .ok (.string (strOfNums (List.replicate 400 0))) wr :=
  run_convert_bytes_arg _ 26 5 Tryd.underlying26 Tryd.underlying5 w.heap.size 0 400 400 (List.replicate 400 0) List.length_replicate (fun i hi => by
    rw [Nat.zero_add]
    refine (h.cellAt i (by omega)).trans ?_
    rw [List.getElem?_map, List.getD_eq_getElem?_getD, List.getElem?_eq_getElem (by rw [List.length_replicate]; exact hi)]
    rfl) 9 Tryd.underlying9

/-- A counter of the loop over the lengths. -/
def UpTo (m : Nat) (w : World) (i : Value) (wr : World) : Prop := ∃ j : Nat, j ≤ m ∧ i = .int .i64 j ∧ Below w.heap.size w wr

set_option maxHeartbeats 1000000 in
theorem lengths_any (s : ByteArray) (c : Int) (w : World) (_hs : s.size ≤ 140737488351232) (c0 : 0 ≤ c) (c1 : c < 65536) (hT : Tabs w) :
    Calls Tryd.prog 5 #[.string s, .int .u16 c] w fun e w' => e = .returned (.bool true) ∧ Below w.heap.size w w' := by
  have hmin := run_min300
  have hc := cutN_le 300 s.size
  have hx : (s.extract 0 (cutN 300 s.size)).size = cutN 300 s.size := by rw [ByteArray.size_extract]; omega
  generalize hcc : cutN 300 s.size = n at hc hx
  obtain ⟨i0, hi, hz0, hz1, hz2⟩ := info_parts info5
  obtain ⟨w1, hrun0, hown, hgrow⟩ := run_make_full (P := Tryd.prog) w w.heap.size 26 5 i0 (.int .u8 0) 1 Tryd.underlying26 hi hz0 hz1 .i64 .i64 400 (by rw [hz2]; omega) (by unfold maxLen; omega) (Nat.le_refl _)
  have hB := (Below.refl w.heap.size w).grown hgrow (Nat.le_refl _) (by simp)
  have e0 : (madeCells (Value.int .u8 0).cells (400 * 1)).toList = (List.replicate 400 (0 : Int)).map (Value.int .u8) := by
    show (madeCells #[Value.int .u8 0] (400 * 1)).toList = _
    rw [toList_madeCells_one, List.map_replicate]
  rw [e0] at hown
  have hr := zeros_last hown
  have hzz : (strOfNums (List.replicate 400 0)).size = 400 := by rw [strOfNums_size, List.length_replicate]
  generalize strOfNums (List.replicate 400 0) = Z at hr hzz
  have hrun : (Instr.makeSlice 26 (.int .i64 400) (.int .i64 400)).run Tryd.prog w = .ok (.slice (some ⟨w.heap.size, 0, none⟩) 400 400) w1 := hrun0
  clear hi hz0 hz1 hz2 hgrow e0 hown hrun0
  go_enter Tryd.func5, Tryd.ntmps5
  go_wp2_with fail
  have ht : (s.extract 0 n ++ Z).size = n + 400 := by rw [ByteArray.size_append, hx, hzz]
  generalize s.extract 0 n ++ Z = t at ht ⊢
  generalize s.extract 0 n = s2 at hx ⊢
  have HB1 := Lib.hid hB
  clear hB hrun hr hcc
  obtain ⟨T, hT⟩ : ∃ T : Nat, n + 400 = T := ⟨_, rfl⟩
  rw [hT] at ht
  obtain ⟨X, hX⟩ : ∃ X : Nat, n + 391 = X := ⟨_, rfl⟩
  have x1 : (T : Int) - 9 = (X : Int) := by omega
  have x2 : IntKind.i64.wrap ((T : Int) - 9) = (X : Int) := by rw [x1]; exact IntWalk.i64_in _ (by omega)
  have x3 : ¬ (X : Int) = 0 := by omega
  obtain ⟨M, hM⟩ := Int.eq_ofNat_of_zero_le (Int.emod_nonneg c (b := (X : Int)) (by omega))
  have m1 := Int.emod_lt_of_pos c (b := (X : Int)) (by omega)
  rw [hM] at m1
  have hm1 : c.tmod (X : Int) = (M : Int) := (Int.tmod_eq_emod_of_nonneg c0).trans hM
  have m2 : M + 9 < T := by omega
  have m3 : T ≤ 700 := by omega
  clear hT hX m1 hx hzz hc hmin
  go_loopw [17] (fun i wr => UpTo 9 w i wr) (fun i _ => 9 - (intOf i).toNat)
  case atStart => exact ⟨0, by omega, rfl, HB1.out⟩
  case round =>
    obtain ⟨j, hj, rfl, hB⟩ := hrel
    by_cases hlt : j < 9
    · have HB := Lib.hid hB
      obtain ⟨q, hq⟩ : ∃ q : Nat, M + j = q := ⟨_, rfl⟩
      have x4 : (M : Int) + (j : Int) = (q : Int) := by omega
      have q1 : q ≤ T := by omega
      have q2 : (q : Int) ≤ (T : Int) := by omega
      have hex := extract_le t q
      clear hB hq
      go_wp2_with fail
      generalize t.extract 0 q = x at hex ⊢
      refine (sum_any x wr (by omega) (hT.below HB.out)).mono ?_
      rintro e w2 ⟨rfl, hB2⟩
      go_wp2_with fail
      refine (rsum_any x w2 (by omega)).mono ?_
      rintro e w3 ⟨rfl, hB3⟩
      go_wp2_with fail
      go_roundw
      case rel => exact ⟨j + 1, by omega, by go_num, (HB.out.trans (hB2.mono HB.out.size)).trans (hB3.mono (Nat.le_trans HB.out.size hB2.size))⟩
      case measure => simp [intOf]; omega
    · go_wp2_with fail
      refine (wakes_any wr (hT.below hB)).mono ?_
      rintro e w2 ⟨rfl, hB2⟩
      go_wp2_with fail
      go_ret
      exact ⟨rfl, hB.trans (hB2.mono hB.size)⟩
end Go.Proofs.YtobbppmgnlkmgaaDoor
