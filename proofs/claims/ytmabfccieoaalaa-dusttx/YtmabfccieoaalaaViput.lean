/-
  Numbers put into bytes: the program's and the document's.
  Numbers in as few bytes as may be: plain mathematics.
  Layer 3's calls: contracts over the translation.
-/
import Derived.Test.YtmabfccieoaalaaVileaf

namespace Go.Proofs.Ytmabfccieoaalaa.Vi
open Go.RowKit

/-- What both of Put answer. -/
def PutEnd (n k : Int) (w : World) (e : Ending) (w' : World) : Prop := e = .returned (.string (putS n k)) ∧ Below w.heap.size w w'

theorem putS_no {n k : Int} (h : szB k = false) : putS n k = ByteArray.empty := by simp [putS, h]
theorem putS_yes {n : Int} {k : Nat} (h : szB k = true) : putS n k = strOfNums (digs n k) := by simp [putS, h]
theorem str_append (l r : List Int) : strOfNums (l ++ r) = strOfNums l ++ strOfNums r := by
  refine ByteArray.ext ?_
  rw [ByteArray.data_append]
  simp [strOfNums]
theorem div_more (n : Int) (j : Nat) : n / 256 ^ j / 256 = n / 256 ^ (j + 1) := by
  rw [Int.ediv_ediv_of_nonneg (Int.le_of_lt (Int.pow_pos (by decide))), Int.pow_succ]

theorem run_one_byte (wx : World) (c : Int) :
    (convert 41 9 (.slice (some ⟨wx.heap.size, 0, none⟩) 1 1)).run Try.prog (wx.alloc (.cells #[.int .u8 c] 5)) = .ok (.string (strOfNums [c])) (wx.alloc (.cells #[.int .u8 c] 5)) :=
  run_convert_bytes_arg _ 41 5 Try.underlying41 Try.underlying5 wx.heap.size 0 1 1 [c] rfl (fun i hi => by
    obtain rfl : i = 0 := by omega
    simp) 9 Try.underlying9

/-- Where the loop of the document's Put stands. -/
def RputHead (n : Int) (k : Nat) (w : World) (m out i : Value) (wr : World) : Prop :=
  ∃ j : Nat, j ≤ k ∧ i = .int .i64 j ∧ m = .int .u64 (n / 256 ^ j) ∧ out = .string (strOfNums (digs n j)) ∧ Below w.heap.size w wr

theorem sz_no_b {k : Int} (h : szB k = false) : (k != 1) = true ∧ (k != 2) = true ∧ (k != 4) = true ∧ (k != 8) = true := by
  have := sz_no h
  simpa using this

set_option maxHeartbeats 1000000 in
theorem rput_any (n k : Int) (w : World) (h0 : 0 ≤ n) (h1 : n < 18446744073709551616) : Calls Try.prog 20 #[.int .u64 n, .int .i64 k] w (PutEnd n k w) := by
  cases hk : szB k
  · have H := Lib.hid (putS_no (n := n) hk)
    obtain ⟨n1, n2, n4, n8⟩ := sz_no_b hk
    go_enter Try.func20, Try.ntmps20
    go_wp2_with fail
    go_ret
    exact ⟨ret_str H.out.symm, Below.refl _ _⟩
  rcases (szB_iff k).1 hk with rfl | rfl | rfl | rfl
  · go_enter Try.func20, Try.ntmps20
    go_wp2_with fail
    go_loopw [0, 5, 6] (fun m out i wr => RputHead n 1 w m out i wr) (fun _ _ i _ => 1 - (intOf i).toNat)
    case atStart => exact ⟨0, by omega, rfl, by simp, by simp [digs, strOfNums], Below.refl _ _⟩
    case round =>
      obtain ⟨j, hj, rfl, rfl, rfl, hB⟩ := hrel
      by_cases hlt : j < 1
      · generalize hm : n / 256 ^ j = m
        have hm0 : 0 ≤ m := by rw [← hm]; exact Int.ediv_nonneg h0 (Int.le_of_lt (pow_bd j (by omega)).1)
        have hm1 : m < 18446744073709551616 := by have := Int.ediv_le_self (256 ^ j) h0; rw [hm] at this; omega
        have HM := Lib.hid hm
        clear hm
        generalize ho : strOfNums (digs n j) = o
        have hol : o.size ≤ 8 := by rw [← ho, strOfNums_size, digs_length]; omega
        have HO := Lib.hid ho
        clear ho
        have hc := run_one_byte
        have hz : ∀ c, (strOfNums [c]).size = 1 := fun c => by rw [strOfNums_size]; rfl
        go_wp2_with fail
        go_roundw
        case rel => exact ⟨j + 1, by omega, by go_num, by rw [← HM.out, div_more], by rw [← HO.out, ← HM.out, digs_snoc, str_append], hB.alloc (hB.size) _⟩
        case measure => simp [intOf]; omega
      · go_wp2_with fail
        go_ret
        obtain rfl : j = 1 := by omega
        exact ⟨ret_str (putS_yes (k := 1) (by decide)).symm, hB⟩
  · go_enter Try.func20, Try.ntmps20
    go_wp2_with fail
    go_loopw [0, 5, 6] (fun m out i wr => RputHead n 2 w m out i wr) (fun _ _ i _ => 2 - (intOf i).toNat)
    case atStart => exact ⟨0, by omega, rfl, by simp, by simp [digs, strOfNums], Below.refl _ _⟩
    case round =>
      obtain ⟨j, hj, rfl, rfl, rfl, hB⟩ := hrel
      by_cases hlt : j < 2
      · generalize hm : n / 256 ^ j = m
        have hm0 : 0 ≤ m := by rw [← hm]; exact Int.ediv_nonneg h0 (Int.le_of_lt (pow_bd j (by omega)).1)
        have hm1 : m < 18446744073709551616 := by have := Int.ediv_le_self (256 ^ j) h0; rw [hm] at this; omega
        have HM := Lib.hid hm
        clear hm
        generalize ho : strOfNums (digs n j) = o
        have hol : o.size ≤ 8 := by rw [← ho, strOfNums_size, digs_length]; omega
        have HO := Lib.hid ho
        clear ho
        have hc := run_one_byte
        have hz : ∀ c, (strOfNums [c]).size = 1 := fun c => by rw [strOfNums_size]; rfl
        go_wp2_with fail
        go_roundw
        case rel => exact ⟨j + 1, by omega, by go_num, by rw [← HM.out, div_more], by rw [← HO.out, ← HM.out, digs_snoc, str_append], hB.alloc (hB.size) _⟩
        case measure => simp [intOf]; omega
      · go_wp2_with fail
        go_ret
        obtain rfl : j = 2 := by omega
        exact ⟨ret_str (putS_yes (k := 2) (by decide)).symm, hB⟩
  · go_enter Try.func20, Try.ntmps20
    go_wp2_with fail
    go_loopw [0, 5, 6] (fun m out i wr => RputHead n 4 w m out i wr) (fun _ _ i _ => 4 - (intOf i).toNat)
    case atStart => exact ⟨0, by omega, rfl, by simp, by simp [digs, strOfNums], Below.refl _ _⟩
    case round =>
      obtain ⟨j, hj, rfl, rfl, rfl, hB⟩ := hrel
      by_cases hlt : j < 4
      · generalize hm : n / 256 ^ j = m
        have hm0 : 0 ≤ m := by rw [← hm]; exact Int.ediv_nonneg h0 (Int.le_of_lt (pow_bd j (by omega)).1)
        have hm1 : m < 18446744073709551616 := by have := Int.ediv_le_self (256 ^ j) h0; rw [hm] at this; omega
        have HM := Lib.hid hm
        clear hm
        generalize ho : strOfNums (digs n j) = o
        have hol : o.size ≤ 8 := by rw [← ho, strOfNums_size, digs_length]; omega
        have HO := Lib.hid ho
        clear ho
        have hc := run_one_byte
        have hz : ∀ c, (strOfNums [c]).size = 1 := fun c => by rw [strOfNums_size]; rfl
        go_wp2_with fail
        go_roundw
        case rel => exact ⟨j + 1, by omega, by go_num, by rw [← HM.out, div_more], by rw [← HO.out, ← HM.out, digs_snoc, str_append], hB.alloc (hB.size) _⟩
        case measure => simp [intOf]; omega
      · go_wp2_with fail
        go_ret
        obtain rfl : j = 4 := by omega
        exact ⟨ret_str (putS_yes (k := 4) (by decide)).symm, hB⟩
  · go_enter Try.func20, Try.ntmps20
    go_wp2_with fail
    go_loopw [0, 5, 6] (fun m out i wr => RputHead n 8 w m out i wr) (fun _ _ i _ => 8 - (intOf i).toNat)
    case atStart => exact ⟨0, by omega, rfl, by simp, by simp [digs, strOfNums], Below.refl _ _⟩
    case round =>
      obtain ⟨j, hj, rfl, rfl, rfl, hB⟩ := hrel
      by_cases hlt : j < 8
      · generalize hm : n / 256 ^ j = m
        have hm0 : 0 ≤ m := by rw [← hm]; exact Int.ediv_nonneg h0 (Int.le_of_lt (pow_bd j (by omega)).1)
        have hm1 : m < 18446744073709551616 := by have := Int.ediv_le_self (256 ^ j) h0; rw [hm] at this; omega
        have HM := Lib.hid hm
        clear hm
        generalize ho : strOfNums (digs n j) = o
        have hol : o.size ≤ 8 := by rw [← ho, strOfNums_size, digs_length]; omega
        have HO := Lib.hid ho
        clear ho
        have hc := run_one_byte
        have hz : ∀ c, (strOfNums [c]).size = 1 := fun c => by rw [strOfNums_size]; rfl
        go_wp2_with fail
        go_roundw
        case rel => exact ⟨j + 1, by omega, by go_num, by rw [← HM.out, div_more], by rw [← HO.out, ← HM.out, digs_snoc, str_append], hB.alloc (hB.size) _⟩
        case measure => simp [intOf]; omega
      · go_wp2_with fail
        go_ret
        obtain rfl : j = 8 := by omega
        exact ⟨ret_str (putS_yes (k := 8) (by decide)).symm, hB⟩

/-- Where the loop of Put stands. -/
def PutHead (n : Int) (k : Nat) (w : World) (i : Value) (wr : World) : Prop :=
  ∃ j : Nat, j ≤ k ∧ i = .int .i64 j ∧ wr.ownsRow w.heap.size 5 1 (.slice (some ⟨w.heap.size, 0, none⟩) k k) k ((digs n j ++ List.replicate (k - j) 0).map (Value.int .u8)) ∧ Below w.heap.size w wr

theorem Try.info5 : (Try.prog.info? 5).map (fun i => (i.zero, i.size, i.bytes)) = some (some (.int .u8 0), 1, 1) := by kernel_rfl

theorem replicate_more (k j : Nat) (h : j < k) : List.replicate (k - j) (0 : Int) = 0 :: List.replicate (k - (j + 1)) 0 := by
  rw [show k - j = (k - (j + 1)) + 1 from by omega, List.replicate_succ]
theorem put_cell {w wr : World} {n : Int} {k j : Nat} (h : wr.ownsRow w.heap.size 5 1 (.slice (some ⟨w.heap.size, 0, none⟩) k k) k ((digs n j ++ List.replicate (k - j) 0).map (Value.int .u8))) (hj : j < k) :
    wr.cell? ⟨w.heap.size, j, none⟩ = some (.int .u8 0) ∧ wr.frozen? ⟨w.heap.size, j, none⟩ = false := by
  refine ⟨(h.cellAt j (by omega)).trans ?_, h.frozenAt j⟩
  rw [replicate_more k j hj, List.getElem?_map, List.getElem?_append_right (by rw [digs_length]; omega), digs_length]
  simp
theorem put_next {w wr : World} {n : Int} {k j : Nat} (h : wr.ownsRow w.heap.size 5 1 (.slice (some ⟨w.heap.size, 0, none⟩) k k) k ((digs n j ++ List.replicate (k - j) 0).map (Value.int .u8))) (hj : j < k) :
    (wr.setCell ⟨w.heap.size, j, none⟩ (.int .u8 (n / 256 ^ j % 256))).ownsRow w.heap.size 5 1 (.slice (some ⟨w.heap.size, 0, none⟩) k k) k ((digs n (j + 1) ++ List.replicate (k - (j + 1)) 0).map (Value.int .u8)) := by
  have := (h.stored j (.int .u8 (n / 256 ^ j % 256))).1
  rw [replicate_more k j hj, ← List.map_set, List.set_append_right _ _ (by rw [digs_length]; omega), digs_length] at this
  rw [digs_snoc, List.append_assoc]
  simpa using this
theorem put_last {w wr : World} {n : Int} {j : Nat} (h : wr.ownsRow w.heap.size 5 1 (.slice (some ⟨w.heap.size, 0, none⟩) j j) j ((digs n j ++ List.replicate (j - j) 0).map (Value.int .u8))) :
    (convert 41 9 (.slice (some ⟨w.heap.size, 0, none⟩) j j)).run Try.prog wr = .ok (.string (strOfNums (digs n j))) wr :=
  run_convert_bytes_arg _ 41 5 Try.underlying41 Try.underlying5 w.heap.size 0 j j (digs n j) (digs_length _ _) (fun i hi => by
    rw [Nat.zero_add]
    refine (h.cellAt i (by omega)).trans ?_
    rw [Nat.sub_self, List.replicate_zero, List.append_nil, List.getElem?_map, List.getD_eq_getElem?_getD, List.getElem?_eq_getElem (by rw [digs_length]; exact hi)]
    rfl) 9 Try.underlying9

set_option maxHeartbeats 1000000 in
theorem put_any (n k : Int) (w : World) (_h0 : 0 ≤ n) (_h1 : n < 18446744073709551616) : Calls Try.prog 19 #[.int .u64 n, .int .i64 k] w (PutEnd n k w) := by
  cases hk : szB k
  · have H := Lib.hid (putS_no (n := n) hk)
    go_enter Try.func19, Try.ntmps19
    go_wp2_with (go_at_call 22; refine (isSize_any _ _).mono ?_; rintro e w' ⟨rfl, rfl⟩)
    go_ret
    exact ⟨ret_str H.out.symm, Below.refl _ _⟩
  have k8 : 1 ≤ k ∧ k ≤ 8 := by have := (szB_iff k).1 hk; omega
  obtain ⟨k, rfl⟩ := Int.eq_ofNat_of_zero_le (show 0 ≤ k by omega)
  obtain ⟨i0, hi, hz0, hz1, hz2⟩ := info_parts Try.info5
  obtain ⟨w1, hrun, hown, hgrow⟩ := run_make_full (P := Try.prog) w w.heap.size 41 5 i0 (.int .u8 0) 1 Try.underlying41 hi hz0 hz1 .i64 .i64 k (by rw [hz2]; omega) (by unfold maxLen; omega) (Nat.le_refl _)
  have hB := (Below.refl w.heap.size w).grown hgrow (Nat.le_refl _) (by simp)
  clear hi hz0 hz1 hz2 hgrow
  have e0 : (madeCells (Value.int .u8 0).cells (k * 1)).toList = (digs n 0 ++ List.replicate (k - 0) 0).map (Value.int .u8) := by
    show (madeCells #[Value.int .u8 0] (k * 1)).toList = _
    rw [toList_madeCells_one]
    simp [digs]
  rw [e0] at hown
  clear e0
  go_enter Try.func19, Try.ntmps19
  go_wp2_with (go_at_call 22; refine (isSize_any _ _).mono ?_; rintro e w' ⟨rfl, rfl⟩)
  go_loopw [13] (fun i wr => PutHead n k w i wr) (fun i _ => k - (intOf i).toNat)
  case atStart => exact ⟨0, by omega, rfl, hown, hB⟩
  case round =>
    obtain ⟨j, hj, rfl, hown, hB⟩ := hrel
    by_cases hlt : j < k
    · obtain ⟨hc, hf⟩ := put_cell hown hlt
      have hs := put_next hown hlt
      have hB2 := hB.setCell (p := ⟨w.heap.size, j, none⟩) (Nat.le_refl _) (Value.int .u8 (n / 256 ^ j % 256))
      have HS := Lib.hid hs
      have HB := Lib.hid hB2
      clear hown hB hs hB2
      have ep := pow256 j
      go_wp2_with fail
      go_roundw
      case rel => exact ⟨j + 1, by omega, by go_num, HS.out, HB.out⟩
      case measure => simp [intOf]; omega
    · obtain rfl : j = k := by omega
      have hr := put_last hown
      clear hown
      go_wp2_with fail
      go_ret
      exact ⟨ret_str (putS_yes hk).symm, hB⟩
end Go.Proofs.Ytmabfccieoaalaa.Vi

namespace Go.Proofs.Ytmabfccieoaalaa.Vi
open Go.RowKit

theorem nums_append (a b : ByteArray) : nums (a ++ b) = nums a ++ nums b := by
  unfold nums
  rw [ByteArray.data_append]
  simp
theorem nums_inj {a b : ByteArray} (h : nums a = nums b) : a = b := by rw [← strOfNums_nums a, h, strOfNums_nums]
theorem putS_size {n : Int} {k : Nat} (h : szB k = true) : (putS n k).size = k := by rw [putS_yes h, strOfNums_size, digs_length]

/-- The bytes of a number. -/
def vlist (n : Int) : List Int := if n < 253 then digs n 1 else if n < 65536 then 253 :: digs n 2 else if n < 4294967296 then 254 :: digs n 4 else 255 :: digs n 8
/-- How many there are. -/
def vlen (n : Int) : Nat := if n < 253 then 1 else if n < 65536 then 3 else if n < 4294967296 then 5 else 9
/-- The text of a number. -/
def vstr (n : Int) : ByteArray := strOfNums (vlist n)

theorem vlist_length (n : Int) : (vlist n).length = vlen n := by
  unfold vlist vlen
  repeat' split
  all_goals simp [digs_length]
theorem vstr_size (n : Int) : (vstr n).size = vlen n := by rw [vstr, strOfNums_size, vlist_length]
theorem vlist_bd (n : Int) : ∀ b ∈ vlist n, 0 ≤ b ∧ b < 256 := by
  intro b h
  unfold vlist at h
  repeat' split at h
  · exact digs_bd _ _ _ h
  all_goals
    rcases List.mem_cons.1 h with rfl | h
    · omega
    · exact digs_bd _ _ _ h
theorem vstr_nums (n : Int) : nums (vstr n) = vlist n := nums_strOfNums _ (vlist_bd n)
theorem vlen_pos (n : Int) : 1 ≤ vlen n ∧ vlen n ≤ 9 := by unfold vlen; (repeat' split) <;> omega
theorem vlen_mono {a b : Int} (h : a ≤ b) : vlen a ≤ vlen b := by unfold vlen; (repeat' split) <;> omega

/-- How many bytes stand behind a first one. -/
def wid (b : Int) : Int := if b < 253 then 0 else if b = 253 then 2 else if b = 254 then 4 else 8
/-- The first byte at a place. -/
def fst (s : ByteArray) (a : Int) : Int := getN s a 1
/-- The number there. -/
def body (s : ByteArray) (a : Int) : Int := if fst s a < 253 then fst s a else getN s (a + 1) (wid (fst s a))
/-- The error there. -/
def gotE (s : ByteArray) (a : Int) : Int :=
  if a < 0 ∨ (s.size : Int) < a then 2 else if (s.size : Int) ≤ a then 5 else if (s.size : Int) < a + 1 + wid (fst s a) then 5
    else if (vlen (body s a) : Int) = 1 + wid (fst s a) then 0 else 4
/-- What is got there. -/
def gotN (s : ByteArray) (a : Int) : Int := if gotE s a = 0 then body s a else 0
/-- The place behind. -/
def gotT (s : ByteArray) (a : Int) : Int := if gotE s a = 0 then a + 1 + wid (fst s a) else 0

theorem gotE_arg {s : ByteArray} {a : Int} (h : a < 0 ∨ (s.size : Int) < a) : gotE s a = 2 := by simp [gotE, h]
theorem gotE_end {s : ByteArray} {a : Int} (h : a = (s.size : Int)) : gotE s a = 5 := by
  unfold gotE
  rw [if_neg (by omega), if_pos (by omega)]
theorem gotE_short {s : ByteArray} {a : Int} (h0 : 0 ≤ a) (h1 : a < (s.size : Int)) (h : (s.size : Int) < a + 1 + wid (fst s a)) : gotE s a = 5 := by
  unfold gotE
  rw [if_neg (by omega), if_neg (by omega), if_pos h]
theorem wid_nn (b : Int) : 0 ≤ wid b ∧ wid b ≤ 8 := by unfold wid; (repeat' split) <;> omega
theorem gotE_form {s : ByteArray} {a : Int} (h0 : 0 ≤ a) (h : a + 1 + wid (fst s a) ≤ (s.size : Int)) (hv : ¬ (vlen (body s a) : Int) = 1 + wid (fst s a)) : gotE s a = 4 := by
  have := wid_nn (fst s a)
  unfold gotE
  rw [if_neg (by omega), if_neg (by omega), if_neg (by omega), if_neg hv]
theorem gotE_ok {s : ByteArray} {a : Int} (h0 : 0 ≤ a) (h : a + 1 + wid (fst s a) ≤ (s.size : Int)) (hv : (vlen (body s a) : Int) = 1 + wid (fst s a)) : gotE s a = 0 := by
  have := wid_nn (fst s a)
  unfold gotE
  rw [if_neg (by omega), if_neg (by omega), if_neg (by omega), if_pos hv]

/-- What both of Get answer. -/
def GotEnd (s : ByteArray) (a : Int) (w : World) (e : Ending) (w' : World) : Prop :=
  e = .returned (.tuple #[.int .u64 (gotN s a), .int .i64 (gotT s a), .int .i64 (gotE s a)]) ∧ Below w.heap.size w w'
theorem ret_nnn {k l m : IntKind} {a b c d f g : Int} (h1 : a = b) (h2 : c = d) (h3 : f = g) :
    Ending.returned (.tuple #[.int k a, .int l c, .int m f]) = .returned (.tuple #[.int k b, .int l d, .int m g]) := by rw [h1, h2, h3]
theorem GotEnd.bad {s : ByteArray} {a c : Int} {w w' : World} (h : gotE s a = c) (hc : c ≠ 0) (hB : Below w.heap.size w w') :
    GotEnd s a w (.returned (.tuple #[.int .u64 0, .int .i64 0, .int .i64 c])) w' :=
  ⟨ret_nnn (by simp [gotN, h, hc]) (by simp [gotT, h, hc]) h.symm, hB⟩
theorem GotEnd.ok {s : ByteArray} {a n t : Int} {w w' : World} (h : gotE s a = 0) (hn : body s a = n) (ht : a + 1 + wid (fst s a) = t) (hB : Below w.heap.size w w') :
    GotEnd s a w (.returned (.tuple #[.int .u64 n, .int .i64 t, .int .i64 0])) w' :=
  ⟨ret_nnn (by simp [gotN, h, hn]) (by simp [gotT, h, ht]) h.symm, hB⟩

/-- A byte of a text, as it is got. -/
theorem fst_at (s : ByteArray) (a : Nat) (h : a < s.size) : fst s a = (s[a].toNat : Int) := by
  unfold fst
  rw [show (1 : Int) = ((1 : Nat) : Int) from rfl, getN_yes (by decide) (by omega), part_snoc s a 0 (by omega)]
  simp [part, num]
theorem fst_bd (s : ByteArray) (a : Nat) (h : a < s.size) : 0 ≤ fst s a ∧ fst s a < 256 := by rw [fst_at s a h]; exact byte_bd _
theorem part_one (s : ByteArray) (a : Nat) (h : a < s.size) : part s a 1 = [fst s a] := by
  rw [fst_at s a h, part_snoc s a 0 (by omega)]
  simp [part]
theorem part_cons (s : ByteArray) (a k : Nat) (h : a < s.size) : part s a (1 + k) = fst s a :: part s (a + 1) k := by
  have := part_one s a h
  unfold part at this ⊢
  rw [List.take_add, this, List.drop_drop]
  rfl
theorem extract_part (s : ByteArray) (a m : Nat) : s.extract a (a + m) = strOfNums (part s a m) := by
  refine nums_inj ?_
  rw [nums_strOfNums _ (part_bd s a m)]
  unfold nums part nums
  rw [ByteArray.data_extract]
  simp [List.map_take, List.map_drop]

theorem szB_wid {b : Int} (h : ¬ b < 253) : szB (wid b) = true := by unfold wid; rw [if_neg h]; (repeat' split) <;> decide

/-- A form of so many bytes is the number's own. -/
theorem vlist_of (b : Int) (l : List Int) (h0 : 0 ≤ b) (h1 : ¬ b < 253) (h2 : b < 256) (hl : ∀ c ∈ l, 0 ≤ c ∧ c < 256) (hk : (l.length : Int) = wid b) (hv : (vlen (num l) : Int) = 1 + wid b) : vlist (num l) = b :: l := by
  have hd := digs_num l hl
  have hb := num_bd l hl
  have : b = 253 ∨ b = 254 ∨ b = 255 := by omega
  rcases this with rfl | rfl | rfl
  · have hk : l.length = 2 := by simp [wid] at hk; omega
    rw [hk] at hd hb
    simp [wid, vlen] at hv
    unfold vlist
    rw [if_neg (by split at hv <;> omega), if_pos (by simpa using hb.2), hd]
  · have hk : l.length = 4 := by simp [wid] at hk; omega
    rw [hk] at hd hb
    simp [wid, vlen] at hv
    unfold vlist
    rw [if_neg (by split at hv <;> omega), if_neg (by (repeat' split at hv) <;> omega), if_pos (by simpa using hb.2), hd]
  · have hk : l.length = 8 := by simp [wid] at hk; omega
    rw [hk] at hd hb
    simp [wid, vlen] at hv
    unfold vlist
    rw [if_neg (by split at hv <;> omega), if_neg (by (repeat' split at hv) <;> omega), if_neg (by (repeat' split at hv) <;> omega), hd]

theorem body_less {s : ByteArray} {a : Int} (h : fst s a < 253) : body s a = fst s a := by simp [body, h]
theorem body_more {s : ByteArray} {a : Int} (h : ¬ fst s a < 253) : body s a = getN s (a + 1) (wid (fst s a)) := by simp [body, h]

/-- What stands at a place, in the length that its first byte says, is the text of the number exactly where the lengths agree. -/
theorem vstr_at (s : ByteArray) (a k : Nat) (h : a + 1 + k ≤ s.size) (hk : (k : Int) = wid (fst s a)) (hv : (vlen (body s a) : Int) = 1 + wid (fst s a)) :
    vstr (body s a) = s.extract a (a + 1 + k) := by
  have hb := fst_bd s a (by omega)
  rw [show a + 1 + k = a + (1 + k) from by omega, extract_part s a (1 + k), part_cons s a k (by omega), vstr]
  congr 1
  by_cases h3 : fst s a < 253
  · have : k = 0 := by simp [wid, h3] at hk; omega
    subst this
    rw [body_less h3]
    simp [vlist, h3, digs, part]
    omega
  · have hz : szB k = true := by rw [hk]; exact szB_wid h3
    have e : getN s (a + 1) (wid (fst s a)) = num (part s (a + 1) k) := by
      rw [← hk]
      exact getN_yes (a := a + 1) hz (by omega)
    rw [body_more h3, e] at hv ⊢
    exact vlist_of _ _ hb.1 h3 hb.2 (part_bd _ _ _) (by rw [part_length _ _ _ (by omega), hk]) hv
theorem vstr_not (s : ByteArray) (a k : Nat) (h : a + 1 + k ≤ s.size) (hk : (k : Int) = wid (fst s a)) (hv : ¬ (vlen (body s a) : Int) = 1 + wid (fst s a)) :
    vstr (body s a) ≠ s.extract a (a + 1 + k) := by
  intro e
  have := congrArg ByteArray.size e
  rw [vstr_size, ByteArray.size_extract] at this
  omega

theorem body_bd (s : ByteArray) (a : Nat) (h : a < s.size) : 0 ≤ body s a ∧ body s a < 18446744073709551616 := by
  have hb := fst_bd s a h
  by_cases h3 : fst s a < 253
  · rw [body_less h3]; omega
  · rw [body_more h3]
    have hz := szB_wid h3
    unfold getN
    split
    · rename_i ho
      have hw := wid_nn (fst s a)
      obtain ⟨k, hk⟩ := Int.eq_ofNat_of_zero_le hw.1
      rw [hk] at ho hz hw ⊢
      simp [okB, hz] at ho
      have hp := part_num_bd s (a + 1) k (by omega)
      have h2 : (256 : Int) ^ k ≤ 18446744073709551616 := by
        rcases (szB_iff k).1 hz with e | e | e | e
        · obtain rfl : k = 1 := by omega
          decide
        · obtain rfl : k = 2 := by omega
          decide
        · obtain rfl : k = 4 := by omega
          decide
        · obtain rfl : k = 8 := by omega
          decide
      show 0 ≤ num (part s (a + 1) k) ∧ num (part s (a + 1) k) < _
      omega
    · omega
end Go.Proofs.Ytmabfccieoaalaa.Vi

namespace Go.Proofs.Ytmabfccieoaalaa.Vi
open Go.RowKit

theorem vstr1 {n : Int} (h : n < 253) : putS n 1 = vstr n := by
  rw [vstr, vlist, if_pos h]; rfl
theorem vstr3 {n : Int} (h : ¬ n < 253) (h2 : n < 65536) : strOfNums [253] ++ putS n 2 = vstr n := by
  rw [vstr, vlist, if_neg h, if_pos h2, show (253 :: digs n 2) = [253] ++ digs n 2 from rfl, str_append]; rfl
theorem vstr5 {n : Int} (h : ¬ n < 253) (h2 : ¬ n < 65536) (h3 : n < 4294967296) : strOfNums [254] ++ putS n 4 = vstr n := by
  rw [vstr, vlist, if_neg h, if_neg h2, if_pos h3, show (254 :: digs n 4) = [254] ++ digs n 4 from rfl, str_append]; rfl
theorem vstr9 {n : Int} (h : ¬ n < 253) (h2 : ¬ n < 65536) (h3 : ¬ n < 4294967296) : strOfNums [255] ++ putS n 8 = vstr n := by
  rw [vstr, vlist, if_neg h, if_neg h2, if_neg h3, show (255 :: digs n 8) = [255] ++ digs n 8 from rfl, str_append]; rfl

/-- What both of Put answer. -/
def VputEnd (n : Int) (w : World) (e : Ending) (w' : World) : Prop := e = .returned (.string (vstr n)) ∧ Below w.heap.size w w'

theorem putS_sz1 (n : Int) : (putS n 1).size = 1 := putS_size (k := 1) (by decide)
theorem putS_sz2 (n : Int) : (putS n 2).size = 2 := putS_size (k := 2) (by decide)
theorem putS_sz4 (n : Int) : (putS n 4).size = 4 := putS_size (k := 4) (by decide)
theorem putS_sz8 (n : Int) : (putS n 8).size = 8 := putS_size (k := 8) (by decide)

set_option maxHeartbeats 1000000 in
theorem vput_any (n : Int) (w : World) (h0 : 0 ≤ n) (h1 : n < 18446744073709551616) : Calls Try.prog 15 #[.int .u64 n] w (VputEnd n w) := by
  by_cases c1 : n < 253
  · have H := Lib.hid (vstr1 c1)
    go_enter Try.func15, Try.ntmps15
    go_wp2_with fail
    refine (put_any n 1 w h0 h1).mono ?_
    rintro e w1 ⟨rfl, hB⟩
    go_wp2_with fail
    go_ret
    exact ⟨ret_str H.out, hB⟩
  by_cases c2 : n < 65536
  · have H := Lib.hid (vstr3 c1 c2)
    have z1 := putS_sz1 253
    have z2 := putS_sz2 n
    go_enter Try.func15, Try.ntmps15
    go_wp2_with fail
    refine (put_any 253 1 w (by decide) (by decide)).mono ?_
    rintro e w1 ⟨rfl, hB⟩
    go_wp2_with fail
    refine (put_any n 2 w1 h0 h1).mono ?_
    rintro e w2 ⟨rfl, hB2⟩
    go_wp2_with fail
    go_ret
    exact ⟨ret_str H.out, hB.trans (hB2.mono hB.size)⟩
  by_cases c3 : n < 4294967296
  · have H := Lib.hid (vstr5 c1 c2 c3)
    have z1 := putS_sz1 254
    have z2 := putS_sz4 n
    go_enter Try.func15, Try.ntmps15
    go_wp2_with fail
    refine (put_any 254 1 w (by decide) (by decide)).mono ?_
    rintro e w1 ⟨rfl, hB⟩
    go_wp2_with fail
    refine (put_any n 4 w1 h0 h1).mono ?_
    rintro e w2 ⟨rfl, hB2⟩
    go_wp2_with fail
    go_ret
    exact ⟨ret_str H.out, hB.trans (hB2.mono hB.size)⟩
  · have H := Lib.hid (vstr9 c1 c2 c3)
    have z1 := putS_sz1 255
    have z2 := putS_sz8 n
    go_enter Try.func15, Try.ntmps15
    go_wp2_with fail
    refine (put_any 255 1 w (by decide) (by decide)).mono ?_
    rintro e w1 ⟨rfl, hB⟩
    go_wp2_with fail
    refine (put_any n 8 w1 h0 h1).mono ?_
    rintro e w2 ⟨rfl, hB2⟩
    go_wp2_with fail
    go_ret
    exact ⟨ret_str H.out, hB.trans (hB2.mono hB.size)⟩

set_option maxHeartbeats 1000000 in
theorem rvput_any (n : Int) (w : World) (h0 : 0 ≤ n) (h1 : n < 18446744073709551616) : Calls Try.prog 16 #[.int .u64 n] w (VputEnd n w) := by
  by_cases c1 : n < 253
  · have H := Lib.hid (vstr1 c1)
    go_enter Try.func16, Try.ntmps16
    go_wp2_with fail
    refine (rput_any n 1 w h0 h1).mono ?_
    rintro e w1 ⟨rfl, hB⟩
    go_wp2_with fail
    go_ret
    exact ⟨ret_str H.out, hB⟩
  by_cases c2 : n < 65536
  · have H := Lib.hid (vstr3 c1 c2)
    have z2 := putS_sz2 n
    go_enter Try.func16, Try.ntmps16
    go_wp2_with fail
    refine (rput_any n 2 w h0 h1).mono ?_
    rintro e w1 ⟨rfl, hB⟩
    go_wp2_with fail
    go_ret
    exact ⟨ret_str H.out, hB⟩
  by_cases c3 : n < 4294967296
  · have H := Lib.hid (vstr5 c1 c2 c3)
    have z2 := putS_sz4 n
    go_enter Try.func16, Try.ntmps16
    go_wp2_with fail
    refine (rput_any n 4 w h0 h1).mono ?_
    rintro e w1 ⟨rfl, hB⟩
    go_wp2_with fail
    go_ret
    exact ⟨ret_str H.out, hB⟩
  · have H := Lib.hid (vstr9 c1 c2 c3)
    have z2 := putS_sz8 n
    go_enter Try.func16, Try.ntmps16
    go_wp2_with fail
    refine (rput_any n 8 w h0 h1).mono ?_
    rintro e w1 ⟨rfl, hB⟩
    go_wp2_with fail
    go_ret
    exact ⟨ret_str H.out, hB⟩

end Go.Proofs.Ytmabfccieoaalaa.Vi
