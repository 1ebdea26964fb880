/-
  Numbers in bytes, the lowest first: plain mathematics.
  A byte put behind others of a number: by or, and by a sum.
  What each call of layer 2 does: contracts over the translation.
  Numbers put into bytes: the program's and the document's.
  Numbers in as few bytes as may be: plain mathematics.
  Layer 3's calls: contracts over the translation.
  Numbers got: the program's Get.
  Numbers got: the document's Get.
-/
import Derived.Laws.BytesArg
import Derived.WalkKit
import Derived.Laws.BitsAllLaws
import Derived.Test.YtnmfjnfdnjjngaaGreatDoorRows
import Derived.WalkSpells
import Derived.WalkLawsBesides
import Derived.Deep.QuietTactic
import Derived.BigQuiet
import Derived.Lib.Hide
import Derived.OwnWalk

namespace Go.Proofs.YtnmfjnfdnjjngaaGreatDoor.Vi

/-- The sizes that there are. -/
def szB (k : Int) : Bool := decide (k = 1 ∨ k = 2 ∨ k = 4 ∨ k = 8)

theorem szB_iff (k : Int) : szB k = true ↔ (k = 1 ∨ k = 2 ∨ k = 4 ∨ k = 8) := by simp [szB]
theorem szB_not (k : Int) : szB k = false ↔ ¬ (k = 1 ∨ k = 2 ∨ k = 4 ∨ k = 8) := by simp [szB]

/-- The k lowest bytes of n, the lowest first. -/
def digs (n : Int) : Nat → List Int
  | 0 => []
  | k + 1 => n % 256 :: digs (n / 256) k

theorem digs_length (k : Nat) : ∀ n, (digs n k).length = k := by
  induction k with
  | zero => intro n; rfl
  | succ k ih => intro n; simp [digs, ih]

theorem digs_bd (k : Nat) : ∀ n, ∀ b ∈ digs n k, 0 ≤ b ∧ b < 256 := by
  induction k with
  | zero => intro n b h; simp [digs] at h
  | succ k ih =>
    intro n b h
    simp only [digs, List.mem_cons] at h
    rcases h with rfl | h
    · omega
    · exact ih _ _ h

theorem div_pow (n : Int) (k : Nat) : n / 256 / 256 ^ k = n / 256 ^ (k + 1) := by
  rw [Int.ediv_ediv_of_nonneg (by decide), Int.pow_succ, Int.mul_comm]

theorem digs_snoc (k : Nat) : ∀ n, digs n (k + 1) = digs n k ++ [n / 256 ^ k % 256] := by
  induction k with
  | zero => intro n; simp [digs]
  | succ k ih =>
    intro n
    rw [digs, ih, digs, List.cons_append, div_pow]

theorem digs_get (k : Nat) : ∀ (n : Int) (j : Nat), j < k → (digs n k).getD j 0 = n / 256 ^ j % 256 := by
  induction k with
  | zero => intro n j h; omega
  | succ k ih =>
    intro n j h
    cases j with
    | zero => simp [digs]
    | succ j =>
      have := ih (n / 256) j (by omega)
      rw [div_pow] at this
      simpa [digs] using this

theorem digs_append (k : Nat) : ∀ (n : Int) (m : Nat), digs n (k + m) = digs n k ++ digs (n / 256 ^ k) m := by
  induction k with
  | zero => intro n m; simp [digs]
  | succ k ih =>
    intro n m
    rw [show k + 1 + m = (k + m) + 1 from by omega, digs, ih, digs, List.cons_append, div_pow]

/-- The number of bytes, the lowest first. -/
def num : List Int → Int
  | [] => 0
  | b :: r => b + 256 * num r

theorem num_append (l r : List Int) : num (l ++ r) = num l + 256 ^ l.length * num r := by
  induction l with
  | nil => simp [num]
  | cons b l ih =>
    simp only [List.cons_append, num, ih, List.length_cons, Int.pow_succ, Int.mul_add]
    rw [Int.mul_comm (256 ^ l.length) 256, Int.mul_assoc, Int.add_assoc]

theorem num_snoc (l : List Int) (b : Int) : num (l ++ [b]) = num l + 256 ^ l.length * b := by
  rw [num_append]; simp [num]

theorem num_bd (l : List Int) : (∀ b ∈ l, 0 ≤ b ∧ b < 256) → 0 ≤ num l ∧ num l < 256 ^ l.length := by
  induction l with
  | nil => intro _; simp [num]
  | cons b l ih =>
    intro h
    have h1 := h b (by simp)
    have h2 := ih fun c hc => h c (by simp [hc])
    simp only [num, List.length_cons, Int.pow_succ]
    omega

theorem num_digs (k : Nat) : ∀ n : Int, num (digs n k) = n % 256 ^ k := by
  induction k with
  | zero => intro n; simp [digs, num]
  | succ k ih =>
    intro n
    simp only [digs, num, ih]
    have e : (256 : Int) ^ (k + 1) = 256 * 256 ^ k := by rw [Int.pow_succ, Int.mul_comm]
    rw [e]
    generalize hm : (256 : Int) ^ k = m
    have hp : 0 < m := by rw [← hm]; exact Int.pow_pos (by decide)
    rw [Int.emod_def n (256 * m), Int.emod_def (n / 256) m, ← Int.ediv_ediv_of_nonneg (by decide)]
    have := Int.mul_assoc 256 m (n / 256 / m)
    have := Int.mul_ediv_add_emod n 256
    have := Int.mul_sub 256 (n / 256) (m * (n / 256 / m))
    omega

theorem digs_num (l : List Int) : (∀ b ∈ l, 0 ≤ b ∧ b < 256) → digs (num l) l.length = l := by
  induction l with
  | nil => intro _; rfl
  | cons b l ih =>
    intro h
    have h1 := h b (by simp)
    have h2 := ih fun c hc => h c (by simp [hc])
    simp only [num, List.length_cons, digs]
    rw [show (b + 256 * num l) / 256 = num l from by omega, h2, show (b + 256 * num l) % 256 = b from by omega]

/-- A text's bytes as numbers. -/
def nums (s : ByteArray) : List Int := s.data.toList.map fun b => (b.toNat : Int)

theorem nums_length (s : ByteArray) : (nums s).length = s.size := by show _ = s.data.size; simp [nums]
theorem nums_bd (s : ByteArray) : ∀ b ∈ nums s, 0 ≤ b ∧ b < 256 := by
  intro b h
  simp only [nums, List.mem_map] at h
  obtain ⟨c, _, rfl⟩ := h
  have := c.toNat_lt
  omega

theorem strOfNums_nums (s : ByteArray) : strOfNums (nums s) = s := by
  cases s with
  | mk d => simp [strOfNums, nums, Function.comp_def]

theorem nums_strOfNums (l : List Int) (h : ∀ b ∈ l, 0 ≤ b ∧ b < 256) : nums (strOfNums l) = l := by
  simp only [nums, strOfNums_data, List.map_map]
  conv => rhs; rw [← List.map_id l]
  refine List.map_congr_left fun b hb => ?_
  have := h b hb
  simp only [Function.comp, id]
  rw [UInt8.toNat_ofNat_of_lt' (by show b.toNat < 2 ^ 8; omega)]
  omega

/-- The k bytes of s at a. -/
def part (s : ByteArray) (a k : Nat) : List Int := ((nums s).drop a).take k

theorem part_length (s : ByteArray) (a k : Nat) (h : a + k ≤ s.size) : (part s a k).length = k := by
  simp [part, nums_length]; omega
theorem part_bd (s : ByteArray) (a k : Nat) : ∀ b ∈ part s a k, 0 ≤ b ∧ b < 256 := fun b h => nums_bd s b (List.mem_of_mem_drop (List.mem_of_mem_take h))
theorem part_snoc (s : ByteArray) (a k : Nat) (h : a + k < s.size) : part s a (k + 1) = part s a k ++ [(s[a + k].toNat : Int)] := by
  unfold part
  rw [List.take_succ_eq_append_getElem (by simp [nums_length]; omega)]
  simp [nums]
  rfl

/-- What is put: so many bytes of n. -/
def putS (n k : Int) : ByteArray := if szB k = true then strOfNums (digs n k.toNat) else ByteArray.empty

/-- Whether so many bytes stand in s at a. -/
def okB (s : ByteArray) (a k : Int) : Bool := szB k && decide (0 ≤ a) && decide (a ≤ (s.size : Int) - k)

/-- What is got. -/
def getN (s : ByteArray) (a k : Int) : Int := if okB s a k = true then num (part s a.toNat k.toNat) else 0

end Go.Proofs.YtnmfjnfdnjjngaaGreatDoor.Vi

namespace Go.Proofs.YtnmfjnfdnjjngaaGreatDoor.Vi
open Go.RowKit
set_option maxRecDepth 100000

theorem pow256 (j : Nat) : (2 : Int) ^ (8 * j) = 256 ^ j := by rw [Int.pow_mul]; rfl
theorem pow_bd (j : Nat) (hj : j < 8) : (0 : Int) < 256 ^ j ∧ (256 : Int) ^ j ≤ 72057594037927936 := by
  have : j = 0 ∨ j = 1 ∨ j = 2 ∨ j = 3 ∨ j = 4 ∨ j = 5 ∨ j = 6 ∨ j = 7 := by omega
  rcases this with rfl | rfl | rfl | rfl | rfl | rfl | rfl | rfl <;> decide
theorem mul_bd (b p : Int) (h0 : 0 ≤ b) (h1 : b < 256) (p0 : 0 < p) (p1 : p ≤ 72057594037927936) : 0 ≤ b * p ∧ b * p < 18446744073709551616 := by
  refine ⟨Int.mul_nonneg h0 (by omega), ?_⟩
  have : b * p ≤ 255 * p := Int.mul_le_mul_of_nonneg_right (by omega) (by omega)
  omega

theorem or_place (x b : Int) (j : Nat) (hj : j < 8) (h0 : 0 ≤ x) (h1 : x < 256 ^ j) (b0 : 0 ≤ b) (b1 : b < 256) :
    bits BinOp.or IntKind.u64 x (IntKind.u64.wrap (IntKind.u64.wrap b * 2 ^ (8 * j))) = x + 256 ^ j * b := by
  obtain ⟨p0, p1⟩ := pow_bd j hj
  have hm := mul_bd b (256 ^ j) b0 b1 p0 p1
  rw [pow256, IntWalk.u64_in b (by omega), IntWalk.u64_in (b * 256 ^ j) (by omega), u64_or x _ h0 (by omega) hm.1 hm.2]
  obtain ⟨m, rfl⟩ := Int.eq_ofNat_of_zero_le b0
  obtain ⟨y, rfl⟩ := Int.eq_ofNat_of_zero_le h0
  have e : ((256 : Int) ^ j) = ((2 ^ (8 * j) : Nat) : Int) := by rw [← pow256]; simp
  rw [e] at h1 hm ⊢
  rw [Int.mul_comm, ← Int.natCast_mul, Int.toNat_natCast, Int.toNat_natCast, Nat.or_comm, ← Nat.two_pow_add_eq_or_of_lt (by omega)]
  omega

/-- The weight of the byte at j, as 64 bits have it. -/
def pw (j : Nat) : Int := if j < 8 then 256 ^ j else 0
theorem pw_lt {j : Nat} (h : j < 8) : pw j = 256 ^ j := by simp [pw, h]
theorem pw_next {j : Nat} (h : j < 8) : IntKind.u64.wrap (pw j * 256) = pw (j + 1) := by
  have : j = 0 ∨ j = 1 ∨ j = 2 ∨ j = 3 ∨ j = 4 ∨ j = 5 ∨ j = 6 ∨ j = 7 := by omega
  rcases this with rfl | rfl | rfl | rfl | rfl | rfl | rfl | rfl <;> decide
theorem add_place (x b : Int) (j : Nat) (hj : j < 8) (h0 : 0 ≤ x) (h1 : x < 256 ^ j) (b0 : 0 ≤ b) (b1 : b < 256) :
    IntKind.u64.wrap (x + IntKind.u64.wrap (IntKind.u64.wrap b * pw j)) = x + 256 ^ j * b := by
  obtain ⟨p0, p1⟩ := pow_bd j hj
  have hm := mul_bd b (256 ^ j) b0 b1 p0 p1
  have h2 : x + b * 256 ^ j < 18446744073709551616 := by
    have : b * 256 ^ j ≤ 255 * 256 ^ j := Int.mul_le_mul_of_nonneg_right (by omega) (by omega)
    omega
  rw [pw_lt hj, IntWalk.u64_in b (by omega), IntWalk.u64_in (b * 256 ^ j) (by omega), IntWalk.u64_in _ (by omega), Int.mul_comm]

theorem part_step (s : ByteArray) (a j : Nat) (h : a + j < s.size) : num (part s a (j + 1)) = num (part s a j) + 256 ^ j * (s[a + j].toNat : Int) := by
  rw [part_snoc s a j h, num_snoc, part_length s a j (by omega)]
theorem part_num_bd (s : ByteArray) (a j : Nat) (h : a + j ≤ s.size) : 0 ≤ num (part s a j) ∧ num (part s a j) < 256 ^ j := by
  have := num_bd _ (part_bd s a j)
  rwa [part_length s a j h] at this
theorem byte_bd (b : UInt8) : 0 ≤ (b.toNat : Int) ∧ (b.toNat : Int) < 256 := by have := b.toNat_lt; omega
theorem get_or (s : ByteArray) (a j : Nat) (hj : j < 8) (h : a + j < s.size) :
    bits BinOp.or IntKind.u64 (num (part s a j)) (IntKind.u64.wrap (IntKind.u64.wrap (s[a + j].toNat : Int) * 2 ^ (8 * j))) = num (part s a (j + 1)) := by
  have h1 := part_num_bd s a j (by omega)
  have h2 := byte_bd s[a + j]
  rw [or_place _ _ j hj h1.1 h1.2 h2.1 h2.2, part_step s a j h]
theorem get_add (s : ByteArray) (a j : Nat) (hj : j < 8) (h : a + j < s.size) :
    IntKind.u64.wrap (num (part s a j) + IntKind.u64.wrap (IntKind.u64.wrap (s[a + j].toNat : Int) * pw j)) = num (part s a (j + 1)) := by
  have h1 := part_num_bd s a j (by omega)
  have h2 := byte_bd s[a + j]
  rw [add_place _ _ j hj h1.1 h1.2 h2.1 h2.2, part_step s a j h]
end Go.Proofs.YtnmfjnfdnjjngaaGreatDoor.Vi

namespace Go.Proofs.YtnmfjnfdnjjngaaGreatDoor.Vi
open Go.RowKit

theorem ret_int {k : IntKind} {a b : Int} (h : a = b) : Ending.returned (.int k a) = .returned (.int k b) := by rw [h]
theorem ret_bool {a b : Bool} (h : a = b) : Ending.returned (.bool a) = .returned (.bool b) := by rw [h]
theorem ret_str {a b : ByteArray} (h : a = b) : Ending.returned (.string a) = .returned (.string b) := by rw [h]
theorem ret_nb {k : IntKind} {a b : Int} {c d : Bool} (h : a = b) (g : c = d) : Ending.returned (.tuple #[.int k a, .bool c]) = .returned (.tuple #[.int k b, .bool d]) := by rw [h, g]

set_option maxHeartbeats 400000 in
theorem isSize_any (k : Int) (w : World) :
    Calls Tryz.prog 165 #[.int .i64 k] w fun e w' => e = .returned (.bool (szB k)) ∧ w = w' := by
  go_enter Tryz.func165, Tryz.ntmps165
  go_wp2
  all_goals
    go_ret
    exact ⟨ret_bool (by rw [Bool.eq_iff_iff]; simp [szB] <;> omega), rfl⟩

theorem okB_no {s : ByteArray} {a k : Int} (h : szB k = false) : okB s a k = false := by simp [okB, h]
theorem getN_no {s : ByteArray} {a k : Int} (h : okB s a k = false) : getN s a k = 0 := by simp [getN, h]
theorem okB_neg {s : ByteArray} {a k : Int} (h : a < 0) : okB s a k = false := by simp [okB]; omega
theorem okB_far {s : ByteArray} {a k : Int} (h : (s.size : Int) - k < a) : okB s a k = false := by simp [okB]; omega
theorem okB_yes {s : ByteArray} {a k : Nat} (h : szB k = true) (hb : a + k ≤ s.size) : okB s a k = true := by simp [okB, h]; omega
theorem getN_yes {s : ByteArray} {a k : Nat} (h : szB k = true) (hb : a + k ≤ s.size) : getN s a k = num (part s a k) := by simp [getN, okB_yes h hb]

/-- What both of Get answer. -/
def GetEnd (s : ByteArray) (a k : Int) (w : World) (e : Ending) (w' : World) : Prop := e = .returned (.tuple #[.int .u64 (getN s a k), .bool (okB s a k)]) ∧ w = w'

theorem GetEnd.no {s : ByteArray} {a k : Int} {w : World} (h : okB s a k = false) : GetEnd s a k w (.returned (.tuple #[.int .u64 0, .bool false])) w :=
  ⟨ret_nb (getN_no h).symm h.symm, rfl⟩

/-- Where the loop of Get stands. -/
def GetHead (s : ByteArray) (a k : Nat) (n i : Value) : Prop := ∃ j : Nat, j ≤ k ∧ i = .int .i64 j ∧ n = .int .u64 (num (part s a j))

set_option maxHeartbeats 400000 in
theorem get_any (s : ByteArray) (a k : Int) (w : World) (hs : s.size ≤ maxLen) : Calls Tryz.prog 166 #[.string s, .int .i64 a, .int .i64 k] w (GetEnd s a k w) := by
  unfold maxLen at hs
  cases hk : szB k
  · have H := Lib.hid (okB_no (s := s) (a := a) hk)
    go_enter Tryz.func166, Tryz.ntmps166
    go_wp2_with (go_at_call 165; refine (isSize_any _ _).mono ?_; rintro e w' ⟨rfl, rfl⟩)
    go_ret2
    exact GetEnd.no H.out
  have k8 : 1 ≤ k ∧ k ≤ 8 := by have := (szB_iff k).1 hk; omega
  by_cases h1 : a < 0
  · have H := Lib.hid (okB_neg (s := s) (k := k) h1)
    go_enter Tryz.func166, Tryz.ntmps166
    go_wp2_with (go_at_call 165; refine (isSize_any _ _).mono ?_; rintro e w' ⟨rfl, rfl⟩)
    go_ret2
    exact GetEnd.no H.out
  by_cases h2 : (s.size : Int) - k < a
  · have H := Lib.hid (okB_far h2)
    go_enter Tryz.func166, Tryz.ntmps166
    go_wp2_with (go_at_call 165; refine (isSize_any _ _).mono ?_; rintro e w' ⟨rfl, rfl⟩)
    go_ret2
    exact GetEnd.no H.out
  obtain ⟨a, rfl⟩ := Int.eq_ofNat_of_zero_le (show 0 ≤ a by omega)
  obtain ⟨k, rfl⟩ := Int.eq_ofNat_of_zero_le (show 0 ≤ k by omega)
  have d1 : decide ((a : Int) < 0) = false := decide_eq_false h1
  have d2 : decide ((s.size : Int) - (k : Int) < (a : Int)) = false := decide_eq_false h2
  have hb : a + k ≤ s.size := by omega
  go_enter Tryz.func166, Tryz.ntmps166
  go_wp2_with (go_at_call 165; refine (isSize_any _ _).mono ?_; rintro e w' ⟨rfl, rfl⟩)
  go_loop [8, 26] (fun n i => GetHead s a k n i) (fun _ i => k - (intOf i).toNat)
  case atStart => exact ⟨0, by omega, rfl, by simp [part, num]⟩
  case round =>
    obtain ⟨j, hj, rfl, rfl⟩ := hrel
    by_cases hlt : j < k
    · have e1 : (8 * (j : Int)).toNat = 8 * j := by omega
      go_wp2_with fail
      go_round
      case rel => exact ⟨j + 1, by omega, by go_num, by rw [get_or s a j (by omega) (by omega)]⟩
      case measure => simp [intOf]; omega
    · go_wp2_with fail
      go_ret2
      obtain rfl : j = k := by omega
      exact ⟨ret_nb (getN_yes hk hb).symm (okB_yes hk hb).symm, rfl⟩

theorem sz_no {k : Int} (h : szB k = false) : ¬ k = 1 ∧ ¬ k = 2 ∧ ¬ k = 4 ∧ ¬ k = 8 := by have := (szB_not k).1 h; omega

/-- Where the loop of the document's Get stands. -/
def RgetHead (s : ByteArray) (a k : Nat) (n p i : Value) : Prop := ∃ j : Nat, j ≤ k ∧ i = .int .i64 j ∧ n = .int .u64 (num (part s a j)) ∧ p = .int .u64 (pw j)

end Go.Proofs.YtnmfjnfdnjjngaaGreatDoor.Vi

namespace Go.Proofs.YtnmfjnfdnjjngaaGreatDoor.Vi
open Go.RowKit
set_option maxRecDepth 100000

/-- What both of Put answer. -/
def PutEnd (n k : Int) (w : World) (e : Ending) (w' : World) : Prop := e = .returned (.string (putS n k)) ∧ Below w.heap.size w w'

theorem putS_no {n k : Int} (h : szB k = false) : putS n k = ByteArray.empty := by simp [putS, h]
theorem putS_yes {n : Int} {k : Nat} (h : szB k = true) : putS n k = strOfNums (digs n k) := by simp [putS, h]
theorem str_append (l r : List Int) : strOfNums (l ++ r) = strOfNums l ++ strOfNums r := by
  refine ByteArray.ext ?_
  rw [ByteArray.data_append]
  simp [strOfNums]
theorem div_more (n : Int) (j : Nat) : n / 256 ^ j / 256 = n / 256 ^ (j + 1) := by
  rw [Int.ediv_ediv_of_nonneg (Int.le_of_lt (Int.pow_pos (by decide))), Int.pow_succ]

theorem run_one_byte (wx : World) (c : Int) :
    (convert 79 9 (.slice (some ⟨wx.heap.size, 0, none⟩) 1 1)).run Tryz.prog (wx.alloc (.cells #[.int .u8 c] 5)) = .ok (.string (strOfNums [c])) (wx.alloc (.cells #[.int .u8 c] 5)) :=
  run_convert_bytes_arg _ 79 5 Tryz.underlying79 Tryz.underlying5 wx.heap.size 0 1 1 [c] rfl (fun i hi => by
    obtain rfl : i = 0 := by omega
    simp) 9 Tryz.underlying9

/-- Where the loop of the document's Put stands. -/
def RputHead (n : Int) (k : Nat) (w : World) (m out i : Value) (wr : World) : Prop :=
  ∃ j : Nat, j ≤ k ∧ i = .int .i64 j ∧ m = .int .u64 (n / 256 ^ j) ∧ out = .string (strOfNums (digs n j)) ∧ Below w.heap.size w wr

theorem sz_no_b {k : Int} (h : szB k = false) : (k != 1) = true ∧ (k != 2) = true ∧ (k != 4) = true ∧ (k != 8) = true := by
  have := sz_no h
  simpa using this

set_option maxHeartbeats 1000000 in
theorem rput_any (n k : Int) (w : World) (h0 : 0 ≤ n) (h1 : n < 18446744073709551616) : Calls Tryz.prog 104 #[.int .u64 n, .int .i64 k] w (PutEnd n k w) := by
  cases hk : szB k
  · have H := Lib.hid (putS_no (n := n) hk)
    obtain ⟨n1, n2, n4, n8⟩ := sz_no_b hk
    go_enter Tryz.func104, Tryz.ntmps104
    go_wp2_with fail
    go_ret
    exact ⟨ret_str H.out.symm, Below.refl _ _⟩
  rcases (szB_iff k).1 hk with rfl | rfl | rfl | rfl
  · go_enter Tryz.func104, Tryz.ntmps104
    go_wp2_with fail
    go_loopw [0, 5, 6] (fun m out i wr => RputHead n 1 w m out i wr) (fun _ _ i _ => 1 - (intOf i).toNat)
    case atStart => exact ⟨0, by omega, rfl, by simp, by simp [digs, strOfNums], Below.refl _ _⟩
    case round =>
      obtain ⟨j, hj, rfl, rfl, rfl, hB⟩ := hrel
      by_cases hlt : j < 1
      · generalize hm : n / 256 ^ j = m
        have hm0 : 0 ≤ m := by rw [← hm]; exact Int.ediv_nonneg h0 (Int.le_of_lt (pow_bd j (by omega)).1)
        have hm1 : m < 18446744073709551616 := by have := Int.ediv_le_self (256 ^ j) h0; rw [hm] at this; omega
        have HM := Lib.hid hm
        clear hm
        generalize ho : strOfNums (digs n j) = o
        have hol : o.size ≤ 8 := by rw [← ho, strOfNums_size, digs_length]; omega
        have HO := Lib.hid ho
        clear ho
        have hc := run_one_byte
        have hz : ∀ c, (strOfNums [c]).size = 1 := fun c => by rw [strOfNums_size]; rfl
        go_wp2_with fail
        go_roundw
        case rel => exact ⟨j + 1, by omega, by go_num, by rw [← HM.out, div_more], by rw [← HO.out, ← HM.out, digs_snoc, str_append], hB.alloc (hB.size) _⟩
        case measure => simp [intOf]; omega
      · go_wp2_with fail
        go_ret
        obtain rfl : j = 1 := by omega
        exact ⟨ret_str (putS_yes (k := 1) (by decide)).symm, hB⟩
  · go_enter Tryz.func104, Tryz.ntmps104
    go_wp2_with fail
    go_loopw [0, 5, 6] (fun m out i wr => RputHead n 2 w m out i wr) (fun _ _ i _ => 2 - (intOf i).toNat)
    case atStart => exact ⟨0, by omega, rfl, by simp, by simp [digs, strOfNums], Below.refl _ _⟩
    case round =>
      obtain ⟨j, hj, rfl, rfl, rfl, hB⟩ := hrel
      by_cases hlt : j < 2
      · generalize hm : n / 256 ^ j = m
        have hm0 : 0 ≤ m := by rw [← hm]; exact Int.ediv_nonneg h0 (Int.le_of_lt (pow_bd j (by omega)).1)
        have hm1 : m < 18446744073709551616 := by have := Int.ediv_le_self (256 ^ j) h0; rw [hm] at this; omega
        have HM := Lib.hid hm
        clear hm
        generalize ho : strOfNums (digs n j) = o
        have hol : o.size ≤ 8 := by rw [← ho, strOfNums_size, digs_length]; omega
        have HO := Lib.hid ho
        clear ho
        have hc := run_one_byte
        have hz : ∀ c, (strOfNums [c]).size = 1 := fun c => by rw [strOfNums_size]; rfl
        go_wp2_with fail
        go_roundw
        case rel => exact ⟨j + 1, by omega, by go_num, by rw [← HM.out, div_more], by rw [← HO.out, ← HM.out, digs_snoc, str_append], hB.alloc (hB.size) _⟩
        case measure => simp [intOf]; omega
      · go_wp2_with fail
        go_ret
        obtain rfl : j = 2 := by omega
        exact ⟨ret_str (putS_yes (k := 2) (by decide)).symm, hB⟩
  · go_enter Tryz.func104, Tryz.ntmps104
    go_wp2_with fail
    go_loopw [0, 5, 6] (fun m out i wr => RputHead n 4 w m out i wr) (fun _ _ i _ => 4 - (intOf i).toNat)
    case atStart => exact ⟨0, by omega, rfl, by simp, by simp [digs, strOfNums], Below.refl _ _⟩
    case round =>
      obtain ⟨j, hj, rfl, rfl, rfl, hB⟩ := hrel
      by_cases hlt : j < 4
      · generalize hm : n / 256 ^ j = m
        have hm0 : 0 ≤ m := by rw [← hm]; exact Int.ediv_nonneg h0 (Int.le_of_lt (pow_bd j (by omega)).1)
        have hm1 : m < 18446744073709551616 := by have := Int.ediv_le_self (256 ^ j) h0; rw [hm] at this; omega
        have HM := Lib.hid hm
        clear hm
        generalize ho : strOfNums (digs n j) = o
        have hol : o.size ≤ 8 := by rw [← ho, strOfNums_size, digs_length]; omega
        have HO := Lib.hid ho
        clear ho
        have hc := run_one_byte
        have hz : ∀ c, (strOfNums [c]).size = 1 := fun c => by rw [strOfNums_size]; rfl
        go_wp2_with fail
        go_roundw
        case rel => exact ⟨j + 1, by omega, by go_num, by rw [← HM.out, div_more], by rw [← HO.out, ← HM.out, digs_snoc, str_append], hB.alloc (hB.size) _⟩
        case measure => simp [intOf]; omega
      · go_wp2_with fail
        go_ret
        obtain rfl : j = 4 := by omega
        exact ⟨ret_str (putS_yes (k := 4) (by decide)).symm, hB⟩
  · go_enter Tryz.func104, Tryz.ntmps104
    go_wp2_with fail
    go_loopw [0, 5, 6] (fun m out i wr => RputHead n 8 w m out i wr) (fun _ _ i _ => 8 - (intOf i).toNat)
    case atStart => exact ⟨0, by omega, rfl, by simp, by simp [digs, strOfNums], Below.refl _ _⟩
    case round =>
      obtain ⟨j, hj, rfl, rfl, rfl, hB⟩ := hrel
      by_cases hlt : j < 8
      · generalize hm : n / 256 ^ j = m
        have hm0 : 0 ≤ m := by rw [← hm]; exact Int.ediv_nonneg h0 (Int.le_of_lt (pow_bd j (by omega)).1)
        have hm1 : m < 18446744073709551616 := by have := Int.ediv_le_self (256 ^ j) h0; rw [hm] at this; omega
        have HM := Lib.hid hm
        clear hm
        generalize ho : strOfNums (digs n j) = o
        have hol : o.size ≤ 8 := by rw [← ho, strOfNums_size, digs_length]; omega
        have HO := Lib.hid ho
        clear ho
        have hc := run_one_byte
        have hz : ∀ c, (strOfNums [c]).size = 1 := fun c => by rw [strOfNums_size]; rfl
        go_wp2_with fail
        go_roundw
        case rel => exact ⟨j + 1, by omega, by go_num, by rw [← HM.out, div_more], by rw [← HO.out, ← HM.out, digs_snoc, str_append], hB.alloc (hB.size) _⟩
        case measure => simp [intOf]; omega
      · go_wp2_with fail
        go_ret
        obtain rfl : j = 8 := by omega
        exact ⟨ret_str (putS_yes (k := 8) (by decide)).symm, hB⟩

/-- Where the loop of Put stands. -/
def PutHead (n : Int) (k : Nat) (w : World) (i : Value) (wr : World) : Prop :=
  ∃ j : Nat, j ≤ k ∧ i = .int .i64 j ∧ wr.ownsRow w.heap.size 5 1 (.slice (some ⟨w.heap.size, 0, none⟩) k k) k ((digs n j ++ List.replicate (k - j) 0).map (Value.int .u8)) ∧ Below w.heap.size w wr

theorem Tryz.info5 : (Tryz.prog.info? 5).map (fun i => (i.zero, i.size, i.bytes)) = some (some (.int .u8 0), 1, 1) := by kernel_rfl

theorem replicate_more (k j : Nat) (h : j < k) : List.replicate (k - j) (0 : Int) = 0 :: List.replicate (k - (j + 1)) 0 := by
  rw [show k - j = (k - (j + 1)) + 1 from by omega, List.replicate_succ]
theorem put_cell {w wr : World} {n : Int} {k j : Nat} (h : wr.ownsRow w.heap.size 5 1 (.slice (some ⟨w.heap.size, 0, none⟩) k k) k ((digs n j ++ List.replicate (k - j) 0).map (Value.int .u8))) (hj : j < k) :
    wr.cell? ⟨w.heap.size, j, none⟩ = some (.int .u8 0) ∧ wr.frozen? ⟨w.heap.size, j, none⟩ = false := by
  refine ⟨(h.cellAt j (by omega)).trans ?_, h.frozenAt j⟩
  rw [replicate_more k j hj, List.getElem?_map, List.getElem?_append_right (by rw [digs_length]; omega), digs_length]
  simp
theorem put_next {w wr : World} {n : Int} {k j : Nat} (h : wr.ownsRow w.heap.size 5 1 (.slice (some ⟨w.heap.size, 0, none⟩) k k) k ((digs n j ++ List.replicate (k - j) 0).map (Value.int .u8))) (hj : j < k) :
    (wr.setCell ⟨w.heap.size, j, none⟩ (.int .u8 (n / 256 ^ j % 256))).ownsRow w.heap.size 5 1 (.slice (some ⟨w.heap.size, 0, none⟩) k k) k ((digs n (j + 1) ++ List.replicate (k - (j + 1)) 0).map (Value.int .u8)) := by
  have := (h.stored j (.int .u8 (n / 256 ^ j % 256))).1
  rw [replicate_more k j hj, ← List.map_set, List.set_append_right _ _ (by rw [digs_length]; omega), digs_length] at this
  rw [digs_snoc, List.append_assoc]
  simpa using this
theorem put_last {w wr : World} {n : Int} {j : Nat} (h : wr.ownsRow w.heap.size 5 1 (.slice (some ⟨w.heap.size, 0, none⟩) j j) j ((digs n j ++ List.replicate (j - j) 0).map (Value.int .u8))) :
    (convert 79 9 (.slice (some ⟨w.heap.size, 0, none⟩) j j)).run Tryz.prog wr = .ok (.string (strOfNums (digs n j))) wr :=
  run_convert_bytes_arg _ 79 5 Tryz.underlying79 Tryz.underlying5 w.heap.size 0 j j (digs n j) (digs_length _ _) (fun i hi => by
    rw [Nat.zero_add]
    refine (h.cellAt i (by omega)).trans ?_
    rw [Nat.sub_self, List.replicate_zero, List.append_nil, List.getElem?_map, List.getD_eq_getElem?_getD, List.getElem?_eq_getElem (by rw [digs_length]; exact hi)]
    rfl) 9 Tryz.underlying9

set_option maxHeartbeats 1000000 in
theorem put_any (n k : Int) (w : World) (_h0 : 0 ≤ n) (_h1 : n < 18446744073709551616) : Calls Tryz.prog 155 #[.int .u64 n, .int .i64 k] w (PutEnd n k w) := by
  cases hk : szB k
  · have H := Lib.hid (putS_no (n := n) hk)
    go_enter Tryz.func155, Tryz.ntmps155
    go_wp2_with (go_at_call 165; refine (isSize_any _ _).mono ?_; rintro e w' ⟨rfl, rfl⟩)
    go_ret
    exact ⟨ret_str H.out.symm, Below.refl _ _⟩
  have k8 : 1 ≤ k ∧ k ≤ 8 := by have := (szB_iff k).1 hk; omega
  obtain ⟨k, rfl⟩ := Int.eq_ofNat_of_zero_le (show 0 ≤ k by omega)
  obtain ⟨i0, hi, hz0, hz1, hz2⟩ := info_parts Tryz.info5
  obtain ⟨w1, hrun, hown, hgrow⟩ := run_make_full (P := Tryz.prog) w w.heap.size 79 5 i0 (.int .u8 0) 1 Tryz.underlying79 hi hz0 hz1 .i64 .i64 k (by rw [hz2]; omega) (by unfold maxLen; omega) (Nat.le_refl _)
  have hB := (Below.refl w.heap.size w).grown hgrow (Nat.le_refl _) (by simp)
  clear hi hz0 hz1 hz2 hgrow
  have e0 : (madeCells (Value.int .u8 0).cells (k * 1)).toList = (digs n 0 ++ List.replicate (k - 0) 0).map (Value.int .u8) := by
    show (madeCells #[Value.int .u8 0] (k * 1)).toList = _
    rw [toList_madeCells_one]
    simp [digs]
  rw [e0] at hown
  clear e0
  go_enter Tryz.func155, Tryz.ntmps155
  go_wp2_with (go_at_call 165; refine (isSize_any _ _).mono ?_; rintro e w' ⟨rfl, rfl⟩)
  go_loopw [13] (fun i wr => PutHead n k w i wr) (fun i _ => k - (intOf i).toNat)
  case atStart => exact ⟨0, by omega, rfl, hown, hB⟩
  case round =>
    obtain ⟨j, hj, rfl, hown, hB⟩ := hrel
    by_cases hlt : j < k
    · obtain ⟨hc, hf⟩ := put_cell hown hlt
      have hs := put_next hown hlt
      have hB2 := hB.setCell (p := ⟨w.heap.size, j, none⟩) (Nat.le_refl _) (Value.int .u8 (n / 256 ^ j % 256))
      have HS := Lib.hid hs
      have HB := Lib.hid hB2
      clear hown hB hs hB2
      have ep := pow256 j
      go_wp2_with fail
      go_roundw
      case rel => exact ⟨j + 1, by omega, by go_num, HS.out, HB.out⟩
      case measure => simp [intOf]; omega
    · obtain rfl : j = k := by omega
      have hr := put_last hown
      clear hown
      go_wp2_with fail
      go_ret
      exact ⟨ret_str (putS_yes hk).symm, hB⟩
end Go.Proofs.YtnmfjnfdnjjngaaGreatDoor.Vi

namespace Go.Proofs.YtnmfjnfdnjjngaaGreatDoor.Vi
open Go.RowKit

theorem nums_append (a b : ByteArray) : nums (a ++ b) = nums a ++ nums b := by
  unfold nums
  rw [ByteArray.data_append]
  simp
theorem nums_inj {a b : ByteArray} (h : nums a = nums b) : a = b := by rw [← strOfNums_nums a, h, strOfNums_nums]
theorem putS_size {n : Int} {k : Nat} (h : szB k = true) : (putS n k).size = k := by rw [putS_yes h, strOfNums_size, digs_length]

/-- The bytes of a number. -/
def vlist (n : Int) : List Int := if n < 253 then digs n 1 else if n < 65536 then 253 :: digs n 2 else if n < 4294967296 then 254 :: digs n 4 else 255 :: digs n 8
/-- How many there are. -/
def vlen (n : Int) : Nat := if n < 253 then 1 else if n < 65536 then 3 else if n < 4294967296 then 5 else 9
/-- The text of a number. -/
def vstr (n : Int) : ByteArray := strOfNums (vlist n)

theorem vlist_length (n : Int) : (vlist n).length = vlen n := by
  unfold vlist vlen
  repeat' split
  all_goals simp [digs_length]
theorem vstr_size (n : Int) : (vstr n).size = vlen n := by rw [vstr, strOfNums_size, vlist_length]
theorem vlist_bd (n : Int) : ∀ b ∈ vlist n, 0 ≤ b ∧ b < 256 := by
  intro b h
  unfold vlist at h
  repeat' split at h
  · exact digs_bd _ _ _ h
  all_goals
    rcases List.mem_cons.1 h with rfl | h
    · omega
    · exact digs_bd _ _ _ h
theorem vstr_nums (n : Int) : nums (vstr n) = vlist n := nums_strOfNums _ (vlist_bd n)
theorem vlen_pos (n : Int) : 1 ≤ vlen n ∧ vlen n ≤ 9 := by unfold vlen; (repeat' split) <;> omega
theorem vlen_mono {a b : Int} (h : a ≤ b) : vlen a ≤ vlen b := by unfold vlen; (repeat' split) <;> omega

/-- How many bytes stand behind a first one. -/
def wid (b : Int) : Int := if b < 253 then 0 else if b = 253 then 2 else if b = 254 then 4 else 8
/-- The first byte at a place. -/
def fst (s : ByteArray) (a : Int) : Int := getN s a 1
/-- The number there. -/
def body (s : ByteArray) (a : Int) : Int := if fst s a < 253 then fst s a else getN s (a + 1) (wid (fst s a))
/-- The error there. -/
def gotE (s : ByteArray) (a : Int) : Int :=
  if a < 0 ∨ (s.size : Int) < a then 2 else if (s.size : Int) ≤ a then 5 else if (s.size : Int) < a + 1 + wid (fst s a) then 5
    else if (vlen (body s a) : Int) = 1 + wid (fst s a) then 0 else 4
/-- What is got there. -/
def gotN (s : ByteArray) (a : Int) : Int := if gotE s a = 0 then body s a else 0
/-- The place behind. -/
def gotT (s : ByteArray) (a : Int) : Int := if gotE s a = 0 then a + 1 + wid (fst s a) else 0

theorem gotE_arg {s : ByteArray} {a : Int} (h : a < 0 ∨ (s.size : Int) < a) : gotE s a = 2 := by simp [gotE, h]
theorem gotE_end {s : ByteArray} {a : Int} (h : a = (s.size : Int)) : gotE s a = 5 := by
  unfold gotE
  rw [if_neg (by omega), if_pos (by omega)]
theorem gotE_short {s : ByteArray} {a : Int} (h0 : 0 ≤ a) (h1 : a < (s.size : Int)) (h : (s.size : Int) < a + 1 + wid (fst s a)) : gotE s a = 5 := by
  unfold gotE
  rw [if_neg (by omega), if_neg (by omega), if_pos h]
theorem wid_nn (b : Int) : 0 ≤ wid b ∧ wid b ≤ 8 := by unfold wid; (repeat' split) <;> omega
theorem gotE_form {s : ByteArray} {a : Int} (h0 : 0 ≤ a) (h : a + 1 + wid (fst s a) ≤ (s.size : Int)) (hv : ¬ (vlen (body s a) : Int) = 1 + wid (fst s a)) : gotE s a = 4 := by
  have := wid_nn (fst s a)
  unfold gotE
  rw [if_neg (by omega), if_neg (by omega), if_neg (by omega), if_neg hv]
theorem gotE_ok {s : ByteArray} {a : Int} (h0 : 0 ≤ a) (h : a + 1 + wid (fst s a) ≤ (s.size : Int)) (hv : (vlen (body s a) : Int) = 1 + wid (fst s a)) : gotE s a = 0 := by
  have := wid_nn (fst s a)
  unfold gotE
  rw [if_neg (by omega), if_neg (by omega), if_neg (by omega), if_pos hv]

/-- What both of Get answer. -/
def GotEnd (s : ByteArray) (a : Int) (w : World) (e : Ending) (w' : World) : Prop :=
  e = .returned (.tuple #[.int .u64 (gotN s a), .int .i64 (gotT s a), .int .i64 (gotE s a)]) ∧ Below w.heap.size w w'
theorem ret_nnn {k l m : IntKind} {a b c d f g : Int} (h1 : a = b) (h2 : c = d) (h3 : f = g) :
    Ending.returned (.tuple #[.int k a, .int l c, .int m f]) = .returned (.tuple #[.int k b, .int l d, .int m g]) := by rw [h1, h2, h3]
theorem GotEnd.bad {s : ByteArray} {a c : Int} {w w' : World} (h : gotE s a = c) (hc : c ≠ 0) (hB : Below w.heap.size w w') :
    GotEnd s a w (.returned (.tuple #[.int .u64 0, .int .i64 0, .int .i64 c])) w' :=
  ⟨ret_nnn (by simp [gotN, h, hc]) (by simp [gotT, h, hc]) h.symm, hB⟩
theorem GotEnd.ok {s : ByteArray} {a n t : Int} {w w' : World} (h : gotE s a = 0) (hn : body s a = n) (ht : a + 1 + wid (fst s a) = t) (hB : Below w.heap.size w w') :
    GotEnd s a w (.returned (.tuple #[.int .u64 n, .int .i64 t, .int .i64 0])) w' :=
  ⟨ret_nnn (by simp [gotN, h, hn]) (by simp [gotT, h, ht]) h.symm, hB⟩

/-- A byte of a text, as it is got. -/
theorem fst_at (s : ByteArray) (a : Nat) (h : a < s.size) : fst s a = (s[a].toNat : Int) := by
  unfold fst
  rw [show (1 : Int) = ((1 : Nat) : Int) from rfl, getN_yes (by decide) (by omega), part_snoc s a 0 (by omega)]
  simp [part, num]
theorem fst_bd (s : ByteArray) (a : Nat) (h : a < s.size) : 0 ≤ fst s a ∧ fst s a < 256 := by rw [fst_at s a h]; exact byte_bd _
theorem part_one (s : ByteArray) (a : Nat) (h : a < s.size) : part s a 1 = [fst s a] := by
  rw [fst_at s a h, part_snoc s a 0 (by omega)]
  simp [part]
theorem part_cons (s : ByteArray) (a k : Nat) (h : a < s.size) : part s a (1 + k) = fst s a :: part s (a + 1) k := by
  have := part_one s a h
  unfold part at this ⊢
  rw [List.take_add, this, List.drop_drop]
  rfl
theorem extract_part (s : ByteArray) (a m : Nat) : s.extract a (a + m) = strOfNums (part s a m) := by
  refine nums_inj ?_
  rw [nums_strOfNums _ (part_bd s a m)]
  unfold nums part nums
  rw [ByteArray.data_extract]
  simp [List.map_take, List.map_drop]

theorem szB_wid {b : Int} (h : ¬ b < 253) : szB (wid b) = true := by unfold wid; rw [if_neg h]; (repeat' split) <;> decide

/-- A form of so many bytes is the number's own. -/
theorem vlist_of (b : Int) (l : List Int) (h0 : 0 ≤ b) (h1 : ¬ b < 253) (h2 : b < 256) (hl : ∀ c ∈ l, 0 ≤ c ∧ c < 256) (hk : (l.length : Int) = wid b) (hv : (vlen (num l) : Int) = 1 + wid b) : vlist (num l) = b :: l := by
  have hd := digs_num l hl
  have hb := num_bd l hl
  have : b = 253 ∨ b = 254 ∨ b = 255 := by omega
  rcases this with rfl | rfl | rfl
  · have hk : l.length = 2 := by simp [wid] at hk; omega
    rw [hk] at hd hb
    simp [wid, vlen] at hv
    unfold vlist
    rw [if_neg (by split at hv <;> omega), if_pos (by simpa using hb.2), hd]
  · have hk : l.length = 4 := by simp [wid] at hk; omega
    rw [hk] at hd hb
    simp [wid, vlen] at hv
    unfold vlist
    rw [if_neg (by split at hv <;> omega), if_neg (by (repeat' split at hv) <;> omega), if_pos (by simpa using hb.2), hd]
  · have hk : l.length = 8 := by simp [wid] at hk; omega
    rw [hk] at hd hb
    simp [wid, vlen] at hv
    unfold vlist
    rw [if_neg (by split at hv <;> omega), if_neg (by (repeat' split at hv) <;> omega), if_neg (by (repeat' split at hv) <;> omega), hd]

theorem body_less {s : ByteArray} {a : Int} (h : fst s a < 253) : body s a = fst s a := by simp [body, h]
theorem body_more {s : ByteArray} {a : Int} (h : ¬ fst s a < 253) : body s a = getN s (a + 1) (wid (fst s a)) := by simp [body, h]

/-- What stands at a place, in the length that its first byte says, is the text of the number exactly where the lengths agree. -/
theorem vstr_at (s : ByteArray) (a k : Nat) (h : a + 1 + k ≤ s.size) (hk : (k : Int) = wid (fst s a)) (hv : (vlen (body s a) : Int) = 1 + wid (fst s a)) :
    vstr (body s a) = s.extract a (a + 1 + k) := by
  have hb := fst_bd s a (by omega)
  rw [show a + 1 + k = a + (1 + k) from by omega, extract_part s a (1 + k), part_cons s a k (by omega), vstr]
  congr 1
  by_cases h3 : fst s a < 253
  · have : k = 0 := by simp [wid, h3] at hk; omega
    subst this
    rw [body_less h3]
    simp [vlist, h3, digs, part]
    omega
  · have hz : szB k = true := by rw [hk]; exact szB_wid h3
    have e : getN s (a + 1) (wid (fst s a)) = num (part s (a + 1) k) := by
      rw [← hk]
      exact getN_yes (a := a + 1) hz (by omega)
    rw [body_more h3, e] at hv ⊢
    exact vlist_of _ _ hb.1 h3 hb.2 (part_bd _ _ _) (by rw [part_length _ _ _ (by omega), hk]) hv
theorem vstr_not (s : ByteArray) (a k : Nat) (h : a + 1 + k ≤ s.size) (hk : (k : Int) = wid (fst s a)) (hv : ¬ (vlen (body s a) : Int) = 1 + wid (fst s a)) :
    vstr (body s a) ≠ s.extract a (a + 1 + k) := by
  intro e
  have := congrArg ByteArray.size e
  rw [vstr_size, ByteArray.size_extract] at this
  omega

theorem body_bd (s : ByteArray) (a : Nat) (h : a < s.size) : 0 ≤ body s a ∧ body s a < 18446744073709551616 := by
  have hb := fst_bd s a h
  by_cases h3 : fst s a < 253
  · rw [body_less h3]; omega
  · rw [body_more h3]
    have hz := szB_wid h3
    unfold getN
    split
    · rename_i ho
      have hw := wid_nn (fst s a)
      obtain ⟨k, hk⟩ := Int.eq_ofNat_of_zero_le hw.1
      rw [hk] at ho hz hw ⊢
      simp [okB, hz] at ho
      have hp := part_num_bd s (a + 1) k (by omega)
      have h2 : (256 : Int) ^ k ≤ 18446744073709551616 := by
        rcases (szB_iff k).1 hz with e | e | e | e
        · obtain rfl : k = 1 := by omega
          decide
        · obtain rfl : k = 2 := by omega
          decide
        · obtain rfl : k = 4 := by omega
          decide
        · obtain rfl : k = 8 := by omega
          decide
      show 0 ≤ num (part s (a + 1) k) ∧ num (part s (a + 1) k) < _
      omega
    · omega
end Go.Proofs.YtnmfjnfdnjjngaaGreatDoor.Vi

namespace Go.Proofs.YtnmfjnfdnjjngaaGreatDoor.Vi
open Go.RowKit

theorem vstr1 {n : Int} (h : n < 253) : putS n 1 = vstr n := by
  rw [vstr, vlist, if_pos h]; rfl
theorem vstr3 {n : Int} (h : ¬ n < 253) (h2 : n < 65536) : strOfNums [253] ++ putS n 2 = vstr n := by
  rw [vstr, vlist, if_neg h, if_pos h2, show (253 :: digs n 2) = [253] ++ digs n 2 from rfl, str_append]; rfl
theorem vstr5 {n : Int} (h : ¬ n < 253) (h2 : ¬ n < 65536) (h3 : n < 4294967296) : strOfNums [254] ++ putS n 4 = vstr n := by
  rw [vstr, vlist, if_neg h, if_neg h2, if_pos h3, show (254 :: digs n 4) = [254] ++ digs n 4 from rfl, str_append]; rfl
theorem vstr9 {n : Int} (h : ¬ n < 253) (h2 : ¬ n < 65536) (h3 : ¬ n < 4294967296) : strOfNums [255] ++ putS n 8 = vstr n := by
  rw [vstr, vlist, if_neg h, if_neg h2, if_neg h3, show (255 :: digs n 8) = [255] ++ digs n 8 from rfl, str_append]; rfl

/-- What both of Put answer. -/
def VputEnd (n : Int) (w : World) (e : Ending) (w' : World) : Prop := e = .returned (.string (vstr n)) ∧ Below w.heap.size w w'

theorem putS_sz1 (n : Int) : (putS n 1).size = 1 := putS_size (k := 1) (by decide)
theorem putS_sz2 (n : Int) : (putS n 2).size = 2 := putS_size (k := 2) (by decide)
theorem putS_sz4 (n : Int) : (putS n 4).size = 4 := putS_size (k := 4) (by decide)
theorem putS_sz8 (n : Int) : (putS n 8).size = 8 := putS_size (k := 8) (by decide)

set_option maxHeartbeats 1000000 in
theorem vput_any (n : Int) (w : World) (h0 : 0 ≤ n) (h1 : n < 18446744073709551616) : Calls Tryz.prog 157 #[.int .u64 n] w (VputEnd n w) := by
  by_cases c1 : n < 253
  · have H := Lib.hid (vstr1 c1)
    go_enter Tryz.func157, Tryz.ntmps157
    go_wp2_with fail
    refine (put_any n 1 w h0 h1).mono ?_
    rintro e w1 ⟨rfl, hB⟩
    go_wp2_with fail
    go_ret
    exact ⟨ret_str H.out, hB⟩
  by_cases c2 : n < 65536
  · have H := Lib.hid (vstr3 c1 c2)
    have z1 := putS_sz1 253
    have z2 := putS_sz2 n
    go_enter Tryz.func157, Tryz.ntmps157
    go_wp2_with fail
    refine (put_any 253 1 w (by decide) (by decide)).mono ?_
    rintro e w1 ⟨rfl, hB⟩
    go_wp2_with fail
    refine (put_any n 2 w1 h0 h1).mono ?_
    rintro e w2 ⟨rfl, hB2⟩
    go_wp2_with fail
    go_ret
    exact ⟨ret_str H.out, hB.trans (hB2.mono hB.size)⟩
  by_cases c3 : n < 4294967296
  · have H := Lib.hid (vstr5 c1 c2 c3)
    have z1 := putS_sz1 254
    have z2 := putS_sz4 n
    go_enter Tryz.func157, Tryz.ntmps157
    go_wp2_with fail
    refine (put_any 254 1 w (by decide) (by decide)).mono ?_
    rintro e w1 ⟨rfl, hB⟩
    go_wp2_with fail
    refine (put_any n 4 w1 h0 h1).mono ?_
    rintro e w2 ⟨rfl, hB2⟩
    go_wp2_with fail
    go_ret
    exact ⟨ret_str H.out, hB.trans (hB2.mono hB.size)⟩
  · have H := Lib.hid (vstr9 c1 c2 c3)
    have z1 := putS_sz1 255
    have z2 := putS_sz8 n
    go_enter Tryz.func157, Tryz.ntmps157
    go_wp2_with fail
    refine (put_any 255 1 w (by decide) (by decide)).mono ?_
    rintro e w1 ⟨rfl, hB⟩
    go_wp2_with fail
    refine (put_any n 8 w1 h0 h1).mono ?_
    rintro e w2 ⟨rfl, hB2⟩
    go_wp2_with fail
    go_ret
    exact ⟨ret_str H.out, hB.trans (hB2.mono hB.size)⟩

set_option maxHeartbeats 1000000 in
theorem rvput_any (n : Int) (w : World) (h0 : 0 ≤ n) (h1 : n < 18446744073709551616) : Calls Tryz.prog 120 #[.int .u64 n] w (VputEnd n w) := by
  by_cases c1 : n < 253
  · have H := Lib.hid (vstr1 c1)
    go_enter Tryz.func120, Tryz.ntmps120
    go_wp2_with fail
    refine (rput_any n 1 w h0 h1).mono ?_
    rintro e w1 ⟨rfl, hB⟩
    go_wp2_with fail
    go_ret
    exact ⟨ret_str H.out, hB⟩
  by_cases c2 : n < 65536
  · have H := Lib.hid (vstr3 c1 c2)
    have z2 := putS_sz2 n
    go_enter Tryz.func120, Tryz.ntmps120
    go_wp2_with fail
    refine (rput_any n 2 w h0 h1).mono ?_
    rintro e w1 ⟨rfl, hB⟩
    go_wp2_with fail
    go_ret
    exact ⟨ret_str H.out, hB⟩
  by_cases c3 : n < 4294967296
  · have H := Lib.hid (vstr5 c1 c2 c3)
    have z2 := putS_sz4 n
    go_enter Tryz.func120, Tryz.ntmps120
    go_wp2_with fail
    refine (rput_any n 4 w h0 h1).mono ?_
    rintro e w1 ⟨rfl, hB⟩
    go_wp2_with fail
    go_ret
    exact ⟨ret_str H.out, hB⟩
  · have H := Lib.hid (vstr9 c1 c2 c3)
    have z2 := putS_sz8 n
    go_enter Tryz.func120, Tryz.ntmps120
    go_wp2_with fail
    refine (rput_any n 8 w h0 h1).mono ?_
    rintro e w1 ⟨rfl, hB⟩
    go_wp2_with fail
    go_ret
    exact ⟨ret_str H.out, hB⟩

end Go.Proofs.YtnmfjnfdnjjngaaGreatDoor.Vi

namespace Go.Proofs.YtnmfjnfdnjjngaaGreatDoor.Vi
open Go.RowKit
set_option maxRecDepth 100000

theorem get_is (s : ByteArray) (a k n : Int) (o : Bool) (w : World) (hs : s.size ≤ maxLen) (hn : getN s a k = n) (ho : okB s a k = o) :
    Calls Tryz.prog 166 #[.string s, .int .i64 a, .int .i64 k] w fun e w' => e = .returned (.tuple #[.int .u64 n, .bool o]) ∧ w = w' :=
  (get_any s a k w hs).mono fun _ _ ⟨he, hw⟩ => ⟨he.trans (ret_nb hn ho), hw⟩
theorem okB_one {s : ByteArray} {a : Nat} (h : a < s.size) : okB s a 1 = true := okB_yes (k := 1) (by decide) (by omega)
theorem vput_is (n : Int) (m : Nat) (w : World) (h0 : 0 ≤ n) (h1 : n < 18446744073709551616) (hm : vlen n = m) :
    Calls Tryz.prog 157 #[.int .u64 n] w fun e w' => (∃ t : ByteArray, t.size = m ∧ e = .returned (.string t)) ∧ Below w.heap.size w w' :=
  (vput_any n w h0 h1).mono fun _ _ ⟨he, hw⟩ => ⟨⟨vstr n, (vstr_size n).trans hm, he⟩, hw⟩

end Go.Proofs.YtnmfjnfdnjjngaaGreatDoor.Vi

namespace Go.Proofs.YtnmfjnfdnjjngaaGreatDoor.Vi
open Go.RowKit

theorem toList_inj {a b : ByteArray} (h : a.toList = b.toList) : a = b := by
  rw [Go.ByteArray.toList_eq, Go.ByteArray.toList_eq] at h
  exact ByteArray.ext (Array.ext' h)
theorem bytes_ne {a b : ByteArray} (h : a ≠ b) : (a.toList == b.toList) = false := by
  rw [Bool.eq_false_iff]
  intro e
  exact h (toList_inj (by simpa using e))

theorem rvput_is (n : Int) (t : ByteArray) (w : World) (h0 : 0 ≤ n) (h1 : n < 18446744073709551616) (ht : vstr n = t) :
    Calls Tryz.prog 120 #[.int .u64 n] w fun e w' => e = .returned (.string t) ∧ Below w.heap.size w w' :=
  (rvput_any n w h0 h1).mono fun _ _ ⟨he, hw⟩ => ⟨he.trans (ret_str ht), hw⟩

theorem index_fst (s : ByteArray) (a : Nat) (h : a < s.size) (w : World) :
    (Instr.index 9 (.string s) (.int .i64 (a : Int))).run Tryz.prog w = .ok (.int .u8 (fst s a)) w := by
  rw [run_index_string w 9 s .i64 a Tryz.underlying9, fst_at s a h]
  simp [h]

end Go.Proofs.YtnmfjnfdnjjngaaGreatDoor.Vi
