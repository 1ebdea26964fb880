/-
  Numbers put into bytes: the program's and the document's.
-/
import Derived.Test.YtjclklppnkoehaaGreatDoorOleaf
namespace Go.Proofs.YtjclklppnkoehaaGreatDoor.Oc
open Go.RowKit
set_option maxRecDepth 100000

/-- What both of Put answer. -/
def PutEnd (n k : Int) (w : World) (e : Ending) (w' : World) : Prop := e = .returned (.string (putS n k)) ∧ Below w.heap.size w w'

theorem putS_no {n k : Int} (h : szB k = false) : putS n k = ByteArray.empty := by simp [putS, h]
theorem putS_yes {n : Int} {k : Nat} (h : szB k = true) : putS n k = strOfNums (digs n k) := by simp [putS, h]
theorem str_append (l r : List Int) : strOfNums (l ++ r) = strOfNums l ++ strOfNums r := by
  refine ByteArray.ext ?_
  rw [ByteArray.data_append]
  simp [strOfNums]
theorem div_more (n : Int) (j : Nat) : n / 256 ^ j / 256 = n / 256 ^ (j + 1) := by
  rw [Int.ediv_ediv_of_nonneg (Int.le_of_lt (Int.pow_pos (by decide))), Int.pow_succ]

theorem run_one_byte (wx : World) (c : Int) :
    (convert 105 9 (.slice (some ⟨wx.heap.size, 0, none⟩) 1 1)).run Tryz.prog (wx.alloc (.cells #[.int .u8 c] 5)) = .ok (.string (strOfNums [c])) (wx.alloc (.cells #[.int .u8 c] 5)) :=
  run_convert_bytes_arg _ 105 5 Tryz.underlying105 Tryz.underlying5 wx.heap.size 0 1 1 [c] rfl (fun i hi => by
    obtain rfl : i = 0 := by omega
    simp) 9 Tryz.underlying9

/-- Where the loop of the document's Put stands. -/
def RputHead (n : Int) (k : Nat) (w : World) (m out i : Value) (wr : World) : Prop :=
  ∃ j : Nat, j ≤ k ∧ i = .int .i64 j ∧ m = .int .u64 (n / 256 ^ j) ∧ out = .string (strOfNums (digs n j)) ∧ Below w.heap.size w wr

theorem sz_no_b {k : Int} (h : szB k = false) : (k != 1) = true ∧ (k != 2) = true ∧ (k != 4) = true ∧ (k != 8) = true := by
  have := sz_no h
  simpa using this

set_option maxHeartbeats 1000000 in
theorem rput_any (n k : Int) (w : World) (h0 : 0 ≤ n) (h1 : n < 18446744073709551616) : Calls Tryz.prog 34 #[.int .u64 n, .int .i64 k] w (PutEnd n k w) := by
  cases hk : szB k
  · have H := Lib.hid (putS_no (n := n) hk)
    obtain ⟨n1, n2, n4, n8⟩ := sz_no_b hk
    go_enter Tryz.func34, Tryz.ntmps34
    go_wp2_with fail
    go_ret
    exact ⟨ret_str H.out.symm, Below.refl _ _⟩
  rcases (szB_iff k).1 hk with rfl | rfl | rfl | rfl
  · go_enter Tryz.func34, Tryz.ntmps34
    go_wp2_with fail
    go_loopw [0, 5, 6] (fun m out i wr => RputHead n 1 w m out i wr) (fun _ _ i _ => 1 - (intOf i).toNat)
    case atStart => exact ⟨0, by omega, rfl, by simp, by simp [digs, strOfNums], Below.refl _ _⟩
    case round =>
      obtain ⟨j, hj, rfl, rfl, rfl, hB⟩ := hrel
      by_cases hlt : j < 1
      · generalize hm : n / 256 ^ j = m
        have hm0 : 0 ≤ m := by rw [← hm]; exact Int.ediv_nonneg h0 (Int.le_of_lt (pow_bd j (by omega)).1)
        have hm1 : m < 18446744073709551616 := by have := Int.ediv_le_self (256 ^ j) h0; rw [hm] at this; omega
        have HM := Lib.hid hm
        clear hm
        generalize ho : strOfNums (digs n j) = o
        have hol : o.size ≤ 8 := by rw [← ho, strOfNums_size, digs_length]; omega
        have HO := Lib.hid ho
        clear ho
        have hc := run_one_byte
        have hz : ∀ c, (strOfNums [c]).size = 1 := fun c => by rw [strOfNums_size]; rfl
        go_wp2_with fail
        go_roundw
        case rel => exact ⟨j + 1, by omega, by go_num, by rw [← HM.out, div_more], by rw [← HO.out, ← HM.out, digs_snoc, str_append], hB.alloc (hB.size) _⟩
        case measure => simp [intOf]; omega
      · go_wp2_with fail
        go_ret
        obtain rfl : j = 1 := by omega
        exact ⟨ret_str (putS_yes (k := 1) (by decide)).symm, hB⟩
  · go_enter Tryz.func34, Tryz.ntmps34
    go_wp2_with fail
    go_loopw [0, 5, 6] (fun m out i wr => RputHead n 2 w m out i wr) (fun _ _ i _ => 2 - (intOf i).toNat)
    case atStart => exact ⟨0, by omega, rfl, by simp, by simp [digs, strOfNums], Below.refl _ _⟩
    case round =>
      obtain ⟨j, hj, rfl, rfl, rfl, hB⟩ := hrel
      by_cases hlt : j < 2
      · generalize hm : n / 256 ^ j = m
        have hm0 : 0 ≤ m := by rw [← hm]; exact Int.ediv_nonneg h0 (Int.le_of_lt (pow_bd j (by omega)).1)
        have hm1 : m < 18446744073709551616 := by have := Int.ediv_le_self (256 ^ j) h0; rw [hm] at this; omega
        have HM := Lib.hid hm
        clear hm
        generalize ho : strOfNums (digs n j) = o
        have hol : o.size ≤ 8 := by rw [← ho, strOfNums_size, digs_length]; omega
        have HO := Lib.hid ho
        clear ho
        have hc := run_one_byte
        have hz : ∀ c, (strOfNums [c]).size = 1 := fun c => by rw [strOfNums_size]; rfl
        go_wp2_with fail
        go_roundw
        case rel => exact ⟨j + 1, by omega, by go_num, by rw [← HM.out, div_more], by rw [← HO.out, ← HM.out, digs_snoc, str_append], hB.alloc (hB.size) _⟩
        case measure => simp [intOf]; omega
      · go_wp2_with fail
        go_ret
        obtain rfl : j = 2 := by omega
        exact ⟨ret_str (putS_yes (k := 2) (by decide)).symm, hB⟩
  · go_enter Tryz.func34, Tryz.ntmps34
    go_wp2_with fail
    go_loopw [0, 5, 6] (fun m out i wr => RputHead n 4 w m out i wr) (fun _ _ i _ => 4 - (intOf i).toNat)
    case atStart => exact ⟨0, by omega, rfl, by simp, by simp [digs, strOfNums], Below.refl _ _⟩
    case round =>
      obtain ⟨j, hj, rfl, rfl, rfl, hB⟩ := hrel
      by_cases hlt : j < 4
      · generalize hm : n / 256 ^ j = m
        have hm0 : 0 ≤ m := by rw [← hm]; exact Int.ediv_nonneg h0 (Int.le_of_lt (pow_bd j (by omega)).1)
        have hm1 : m < 18446744073709551616 := by have := Int.ediv_le_self (256 ^ j) h0; rw [hm] at this; omega
        have HM := Lib.hid hm
        clear hm
        generalize ho : strOfNums (digs n j) = o
        have hol : o.size ≤ 8 := by rw [← ho, strOfNums_size, digs_length]; omega
        have HO := Lib.hid ho
        clear ho
        have hc := run_one_byte
        have hz : ∀ c, (strOfNums [c]).size = 1 := fun c => by rw [strOfNums_size]; rfl
        go_wp2_with fail
        go_roundw
        case rel => exact ⟨j + 1, by omega, by go_num, by rw [← HM.out, div_more], by rw [← HO.out, ← HM.out, digs_snoc, str_append], hB.alloc (hB.size) _⟩
        case measure => simp [intOf]; omega
      · go_wp2_with fail
        go_ret
        obtain rfl : j = 4 := by omega
        exact ⟨ret_str (putS_yes (k := 4) (by decide)).symm, hB⟩
  · go_enter Tryz.func34, Tryz.ntmps34
    go_wp2_with fail
    go_loopw [0, 5, 6] (fun m out i wr => RputHead n 8 w m out i wr) (fun _ _ i _ => 8 - (intOf i).toNat)
    case atStart => exact ⟨0, by omega, rfl, by simp, by simp [digs, strOfNums], Below.refl _ _⟩
    case round =>
      obtain ⟨j, hj, rfl, rfl, rfl, hB⟩ := hrel
      by_cases hlt : j < 8
      · generalize hm : n / 256 ^ j = m
        have hm0 : 0 ≤ m := by rw [← hm]; exact Int.ediv_nonneg h0 (Int.le_of_lt (pow_bd j (by omega)).1)
        have hm1 : m < 18446744073709551616 := by have := Int.ediv_le_self (256 ^ j) h0; rw [hm] at this; omega
        have HM := Lib.hid hm
        clear hm
        generalize ho : strOfNums (digs n j) = o
        have hol : o.size ≤ 8 := by rw [← ho, strOfNums_size, digs_length]; omega
        have HO := Lib.hid ho
        clear ho
        have hc := run_one_byte
        have hz : ∀ c, (strOfNums [c]).size = 1 := fun c => by rw [strOfNums_size]; rfl
        go_wp2_with fail
        go_roundw
        case rel => exact ⟨j + 1, by omega, by go_num, by rw [← HM.out, div_more], by rw [← HO.out, ← HM.out, digs_snoc, str_append], hB.alloc (hB.size) _⟩
        case measure => simp [intOf]; omega
      · go_wp2_with fail
        go_ret
        obtain rfl : j = 8 := by omega
        exact ⟨ret_str (putS_yes (k := 8) (by decide)).symm, hB⟩

/-- Where the loop of Put stands. -/
def PutHead (n : Int) (k : Nat) (w : World) (i : Value) (wr : World) : Prop :=
  ∃ j : Nat, j ≤ k ∧ i = .int .i64 j ∧ wr.ownsRow w.heap.size 5 1 (.slice (some ⟨w.heap.size, 0, none⟩) k k) k ((digs n j ++ List.replicate (k - j) 0).map (Value.int .u8)) ∧ Below w.heap.size w wr

theorem Tryz.info5 : (Tryz.prog.info? 5).map (fun i => (i.zero, i.size, i.bytes)) = some (some (.int .u8 0), 1, 1) := by kernel_rfl

theorem replicate_more (k j : Nat) (h : j < k) : List.replicate (k - j) (0 : Int) = 0 :: List.replicate (k - (j + 1)) 0 := by
  rw [show k - j = (k - (j + 1)) + 1 from by omega, List.replicate_succ]
theorem put_cell {w wr : World} {n : Int} {k j : Nat} (h : wr.ownsRow w.heap.size 5 1 (.slice (some ⟨w.heap.size, 0, none⟩) k k) k ((digs n j ++ List.replicate (k - j) 0).map (Value.int .u8))) (hj : j < k) :
    wr.cell? ⟨w.heap.size, j, none⟩ = some (.int .u8 0) ∧ wr.frozen? ⟨w.heap.size, j, none⟩ = false := by
  refine ⟨(h.cellAt j (by omega)).trans ?_, h.frozenAt j⟩
  rw [replicate_more k j hj, List.getElem?_map, List.getElem?_append_right (by rw [digs_length]; omega), digs_length]
  simp
theorem put_next {w wr : World} {n : Int} {k j : Nat} (h : wr.ownsRow w.heap.size 5 1 (.slice (some ⟨w.heap.size, 0, none⟩) k k) k ((digs n j ++ List.replicate (k - j) 0).map (Value.int .u8))) (hj : j < k) :
    (wr.setCell ⟨w.heap.size, j, none⟩ (.int .u8 (n / 256 ^ j % 256))).ownsRow w.heap.size 5 1 (.slice (some ⟨w.heap.size, 0, none⟩) k k) k ((digs n (j + 1) ++ List.replicate (k - (j + 1)) 0).map (Value.int .u8)) := by
  have := (h.stored j (.int .u8 (n / 256 ^ j % 256))).1
  rw [replicate_more k j hj, ← List.map_set, List.set_append_right _ _ (by rw [digs_length]; omega), digs_length] at this
  rw [digs_snoc, List.append_assoc]
  simpa using this
theorem put_last {w wr : World} {n : Int} {j : Nat} (h : wr.ownsRow w.heap.size 5 1 (.slice (some ⟨w.heap.size, 0, none⟩) j j) j ((digs n j ++ List.replicate (j - j) 0).map (Value.int .u8))) :
    (convert 105 9 (.slice (some ⟨w.heap.size, 0, none⟩) j j)).run Tryz.prog wr = .ok (.string (strOfNums (digs n j))) wr :=
  run_convert_bytes_arg _ 105 5 Tryz.underlying105 Tryz.underlying5 w.heap.size 0 j j (digs n j) (digs_length _ _) (fun i hi => by
    rw [Nat.zero_add]
    refine (h.cellAt i (by omega)).trans ?_
    rw [Nat.sub_self, List.replicate_zero, List.append_nil, List.getElem?_map, List.getD_eq_getElem?_getD, List.getElem?_eq_getElem (by rw [digs_length]; exact hi)]
    rfl) 9 Tryz.underlying9

end Go.Proofs.YtjclklppnkoehaaGreatDoor.Oc
