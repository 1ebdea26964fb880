/-
  Numbers in bytes, the lowest first: plain mathematics.
  A byte put behind others of a number: by or, and by a sum.
  What each call of layer 2 does: contracts over the translation.
  Numbers put into bytes: the program's and the document's.
-/
import Derived.Laws.BytesArg
import Derived.WalkKit
import Derived.Laws.BitsAllLaws
import Derived.Test.YtnmfjnfdnjjngaaGreatDoorRows
import Derived.WalkSpells
import Derived.WalkLawsBesides
import Derived.Deep.QuietTactic
import Derived.BigQuiet
import Derived.Lib.Hide

namespace Go.Proofs.YtnmfjnfdnjjngaaGreatDoor.Oc

/-- The sizes that there are. -/
def szB (k : Int) : Bool := decide (k = 1 ∨ k = 2 ∨ k = 4 ∨ k = 8)

theorem szB_iff (k : Int) : szB k = true ↔ (k = 1 ∨ k = 2 ∨ k = 4 ∨ k = 8) := by simp [szB]
theorem szB_not (k : Int) : szB k = false ↔ ¬ (k = 1 ∨ k = 2 ∨ k = 4 ∨ k = 8) := by simp [szB]

/-- The k lowest bytes of n, the lowest first. -/
def digs (n : Int) : Nat → List Int
  | 0 => []
  | k + 1 => n % 256 :: digs (n / 256) k

theorem digs_length (k : Nat) : ∀ n, (digs n k).length = k := by
  induction k with
  | zero => intro n; rfl
  | succ k ih => intro n; simp [digs, ih]

theorem digs_bd (k : Nat) : ∀ n, ∀ b ∈ digs n k, 0 ≤ b ∧ b < 256 := by
  induction k with
  | zero => intro n b h; simp [digs] at h
  | succ k ih =>
    intro n b h
    simp only [digs, List.mem_cons] at h
    rcases h with rfl | h
    · omega
    · exact ih _ _ h

theorem div_pow (n : Int) (k : Nat) : n / 256 / 256 ^ k = n / 256 ^ (k + 1) := by
  rw [Int.ediv_ediv_of_nonneg (by decide), Int.pow_succ, Int.mul_comm]

theorem digs_snoc (k : Nat) : ∀ n, digs n (k + 1) = digs n k ++ [n / 256 ^ k % 256] := by
  induction k with
  | zero => intro n; simp [digs]
  | succ k ih =>
    intro n
    rw [digs, ih, digs, List.cons_append, div_pow]

theorem digs_get (k : Nat) : ∀ (n : Int) (j : Nat), j < k → (digs n k).getD j 0 = n / 256 ^ j % 256 := by
  induction k with
  | zero => intro n j h; omega
  | succ k ih =>
    intro n j h
    cases j with
    | zero => simp [digs]
    | succ j =>
      have := ih (n / 256) j (by omega)
      rw [div_pow] at this
      simpa [digs] using this

theorem digs_append (k : Nat) : ∀ (n : Int) (m : Nat), digs n (k + m) = digs n k ++ digs (n / 256 ^ k) m := by
  induction k with
  | zero => intro n m; simp [digs]
  | succ k ih =>
    intro n m
    rw [show k + 1 + m = (k + m) + 1 from by omega, digs, ih, digs, List.cons_append, div_pow]

/-- The number of bytes, the lowest first. -/
def num : List Int → Int
  | [] => 0
  | b :: r => b + 256 * num r

theorem num_append (l r : List Int) : num (l ++ r) = num l + 256 ^ l.length * num r := by
  induction l with
  | nil => simp [num]
  | cons b l ih =>
    simp only [List.cons_append, num, ih, List.length_cons, Int.pow_succ, Int.mul_add]
    rw [Int.mul_comm (256 ^ l.length) 256, Int.mul_assoc, Int.add_assoc]

theorem num_snoc (l : List Int) (b : Int) : num (l ++ [b]) = num l + 256 ^ l.length * b := by
  rw [num_append]; simp [num]

theorem num_bd (l : List Int) : (∀ b ∈ l, 0 ≤ b ∧ b < 256) → 0 ≤ num l ∧ num l < 256 ^ l.length := by
  induction l with
  | nil => intro _; simp [num]
  | cons b l ih =>
    intro h
    have h1 := h b (by simp)
    have h2 := ih fun c hc => h c (by simp [hc])
    simp only [num, List.length_cons, Int.pow_succ]
    omega

theorem num_digs (k : Nat) : ∀ n : Int, num (digs n k) = n % 256 ^ k := by
  induction k with
  | zero => intro n; simp [digs, num]
  | succ k ih =>
    intro n
    simp only [digs, num, ih]
    have e : (256 : Int) ^ (k + 1) = 256 * 256 ^ k := by rw [Int.pow_succ, Int.mul_comm]
    rw [e]
    generalize hm : (256 : Int) ^ k = m
    have hp : 0 < m := by rw [← hm]; exact Int.pow_pos (by decide)
    rw [Int.emod_def n (256 * m), Int.emod_def (n / 256) m, ← Int.ediv_ediv_of_nonneg (by decide)]
    have := Int.mul_assoc 256 m (n / 256 / m)
    have := Int.mul_ediv_add_emod n 256
    have := Int.mul_sub 256 (n / 256) (m * (n / 256 / m))
    omega

theorem digs_num (l : List Int) : (∀ b ∈ l, 0 ≤ b ∧ b < 256) → digs (num l) l.length = l := by
  induction l with
  | nil => intro _; rfl
  | cons b l ih =>
    intro h
    have h1 := h b (by simp)
    have h2 := ih fun c hc => h c (by simp [hc])
    simp only [num, List.length_cons, digs]
    rw [show (b + 256 * num l) / 256 = num l from by omega, h2, show (b + 256 * num l) % 256 = b from by omega]

/-- A text's bytes as numbers. -/
def nums (s : ByteArray) : List Int := s.data.toList.map fun b => (b.toNat : Int)

theorem nums_length (s : ByteArray) : (nums s).length = s.size := by show _ = s.data.size; simp [nums]
theorem nums_bd (s : ByteArray) : ∀ b ∈ nums s, 0 ≤ b ∧ b < 256 := by
  intro b h
  simp only [nums, List.mem_map] at h
  obtain ⟨c, _, rfl⟩ := h
  have := c.toNat_lt
  omega

theorem strOfNums_nums (s : ByteArray) : strOfNums (nums s) = s := by
  cases s with
  | mk d => simp [strOfNums, nums, Function.comp_def]

theorem nums_strOfNums (l : List Int) (h : ∀ b ∈ l, 0 ≤ b ∧ b < 256) : nums (strOfNums l) = l := by
  simp only [nums, strOfNums_data, List.map_map]
  conv => rhs; rw [← List.map_id l]
  refine List.map_congr_left fun b hb => ?_
  have := h b hb
  simp only [Function.comp, id]
  rw [UInt8.toNat_ofNat_of_lt' (by show b.toNat < 2 ^ 8; omega)]
  omega

/-- The k bytes of s at a. -/
def part (s : ByteArray) (a k : Nat) : List Int := ((nums s).drop a).take k

theorem part_length (s : ByteArray) (a k : Nat) (h : a + k ≤ s.size) : (part s a k).length = k := by
  simp [part, nums_length]; omega
theorem part_bd (s : ByteArray) (a k : Nat) : ∀ b ∈ part s a k, 0 ≤ b ∧ b < 256 := fun b h => nums_bd s b (List.mem_of_mem_drop (List.mem_of_mem_take h))
theorem part_snoc (s : ByteArray) (a k : Nat) (h : a + k < s.size) : part s a (k + 1) = part s a k ++ [(s[a + k].toNat : Int)] := by
  unfold part
  rw [List.take_succ_eq_append_getElem (by simp [nums_length]; omega)]
  simp [nums]
  rfl

/-- What is put: so many bytes of n. -/
def putS (n k : Int) : ByteArray := if szB k = true then strOfNums (digs n k.toNat) else ByteArray.empty

/-- Whether so many bytes stand in s at a. -/
def okB (s : ByteArray) (a k : Int) : Bool := szB k && decide (0 ≤ a) && decide (a ≤ (s.size : Int) - k)

/-- What is got. -/
def getN (s : ByteArray) (a k : Int) : Int := if okB s a k = true then num (part s a.toNat k.toNat) else 0

end Go.Proofs.YtnmfjnfdnjjngaaGreatDoor.Oc

namespace Go.Proofs.YtnmfjnfdnjjngaaGreatDoor.Oc
open Go.RowKit
set_option maxRecDepth 100000

theorem pow256 (j : Nat) : (2 : Int) ^ (8 * j) = 256 ^ j := by rw [Int.pow_mul]; rfl
theorem pow_bd (j : Nat) (hj : j < 8) : (0 : Int) < 256 ^ j ∧ (256 : Int) ^ j ≤ 72057594037927936 := by
  have : j = 0 ∨ j = 1 ∨ j = 2 ∨ j = 3 ∨ j = 4 ∨ j = 5 ∨ j = 6 ∨ j = 7 := by omega
  rcases this with rfl | rfl | rfl | rfl | rfl | rfl | rfl | rfl <;> decide
theorem mul_bd (b p : Int) (h0 : 0 ≤ b) (h1 : b < 256) (p0 : 0 < p) (p1 : p ≤ 72057594037927936) : 0 ≤ b * p ∧ b * p < 18446744073709551616 := by
  refine ⟨Int.mul_nonneg h0 (by omega), ?_⟩
  have : b * p ≤ 255 * p := Int.mul_le_mul_of_nonneg_right (by omega) (by omega)
  omega

theorem or_place (x b : Int) (j : Nat) (hj : j < 8) (h0 : 0 ≤ x) (h1 : x < 256 ^ j) (b0 : 0 ≤ b) (b1 : b < 256) :
    bits BinOp.or IntKind.u64 x (IntKind.u64.wrap (IntKind.u64.wrap b * 2 ^ (8 * j))) = x + 256 ^ j * b := by
  obtain ⟨p0, p1⟩ := pow_bd j hj
  have hm := mul_bd b (256 ^ j) b0 b1 p0 p1
  rw [pow256, IntWalk.u64_in b (by omega), IntWalk.u64_in (b * 256 ^ j) (by omega), u64_or x _ h0 (by omega) hm.1 hm.2]
  obtain ⟨m, rfl⟩ := Int.eq_ofNat_of_zero_le b0
  obtain ⟨y, rfl⟩ := Int.eq_ofNat_of_zero_le h0
  have e : ((256 : Int) ^ j) = ((2 ^ (8 * j) : Nat) : Int) := by rw [← pow256]; simp
  rw [e] at h1 hm ⊢
  rw [Int.mul_comm, ← Int.natCast_mul, Int.toNat_natCast, Int.toNat_natCast, Nat.or_comm, ← Nat.two_pow_add_eq_or_of_lt (by omega)]
  omega

/-- The weight of the byte at j, as 64 bits have it. -/
def pw (j : Nat) : Int := if j < 8 then 256 ^ j else 0
theorem pw_lt {j : Nat} (h : j < 8) : pw j = 256 ^ j := by simp [pw, h]
theorem pw_next {j : Nat} (h : j < 8) : IntKind.u64.wrap (pw j * 256) = pw (j + 1) := by
  have : j = 0 ∨ j = 1 ∨ j = 2 ∨ j = 3 ∨ j = 4 ∨ j = 5 ∨ j = 6 ∨ j = 7 := by omega
  rcases this with rfl | rfl | rfl | rfl | rfl | rfl | rfl | rfl <;> decide
theorem add_place (x b : Int) (j : Nat) (hj : j < 8) (h0 : 0 ≤ x) (h1 : x < 256 ^ j) (b0 : 0 ≤ b) (b1 : b < 256) :
    IntKind.u64.wrap (x + IntKind.u64.wrap (IntKind.u64.wrap b * pw j)) = x + 256 ^ j * b := by
  obtain ⟨p0, p1⟩ := pow_bd j hj
  have hm := mul_bd b (256 ^ j) b0 b1 p0 p1
  have h2 : x + b * 256 ^ j < 18446744073709551616 := by
    have : b * 256 ^ j ≤ 255 * 256 ^ j := Int.mul_le_mul_of_nonneg_right (by omega) (by omega)
    omega
  rw [pw_lt hj, IntWalk.u64_in b (by omega), IntWalk.u64_in (b * 256 ^ j) (by omega), IntWalk.u64_in _ (by omega), Int.mul_comm]

theorem part_step (s : ByteArray) (a j : Nat) (h : a + j < s.size) : num (part s a (j + 1)) = num (part s a j) + 256 ^ j * (s[a + j].toNat : Int) := by
  rw [part_snoc s a j h, num_snoc, part_length s a j (by omega)]
theorem part_num_bd (s : ByteArray) (a j : Nat) (h : a + j ≤ s.size) : 0 ≤ num (part s a j) ∧ num (part s a j) < 256 ^ j := by
  have := num_bd _ (part_bd s a j)
  rwa [part_length s a j h] at this
theorem byte_bd (b : UInt8) : 0 ≤ (b.toNat : Int) ∧ (b.toNat : Int) < 256 := by have := b.toNat_lt; omega
theorem get_or (s : ByteArray) (a j : Nat) (hj : j < 8) (h : a + j < s.size) :
    bits BinOp.or IntKind.u64 (num (part s a j)) (IntKind.u64.wrap (IntKind.u64.wrap (s[a + j].toNat : Int) * 2 ^ (8 * j))) = num (part s a (j + 1)) := by
  have h1 := part_num_bd s a j (by omega)
  have h2 := byte_bd s[a + j]
  rw [or_place _ _ j hj h1.1 h1.2 h2.1 h2.2, part_step s a j h]
theorem get_add (s : ByteArray) (a j : Nat) (hj : j < 8) (h : a + j < s.size) :
    IntKind.u64.wrap (num (part s a j) + IntKind.u64.wrap (IntKind.u64.wrap (s[a + j].toNat : Int) * pw j)) = num (part s a (j + 1)) := by
  have h1 := part_num_bd s a j (by omega)
  have h2 := byte_bd s[a + j]
  rw [add_place _ _ j hj h1.1 h1.2 h2.1 h2.2, part_step s a j h]
end Go.Proofs.YtnmfjnfdnjjngaaGreatDoor.Oc

namespace Go.Proofs.YtnmfjnfdnjjngaaGreatDoor.Oc
open Go.RowKit
set_option maxRecDepth 100000

theorem ret_int {k : IntKind} {a b : Int} (h : a = b) : Ending.returned (.int k a) = .returned (.int k b) := by rw [h]
theorem ret_bool {a b : Bool} (h : a = b) : Ending.returned (.bool a) = .returned (.bool b) := by rw [h]
theorem ret_str {a b : ByteArray} (h : a = b) : Ending.returned (.string a) = .returned (.string b) := by rw [h]
theorem ret_nb {k : IntKind} {a b : Int} {c d : Bool} (h : a = b) (g : c = d) : Ending.returned (.tuple #[.int k a, .bool c]) = .returned (.tuple #[.int k b, .bool d]) := by rw [h, g]

set_option maxHeartbeats 400000 in
theorem isSize_any (k : Int) (w : World) :
    Calls Tryz.prog 165 #[.int .i64 k] w fun e w' => e = .returned (.bool (szB k)) ∧ w = w' := by
  go_enter Tryz.func165, Tryz.ntmps165
  go_wp2
  all_goals
    go_ret
    exact ⟨ret_bool (by rw [Bool.eq_iff_iff]; simp [szB] <;> omega), rfl⟩

theorem okB_no {s : ByteArray} {a k : Int} (h : szB k = false) : okB s a k = false := by simp [okB, h]
theorem getN_no {s : ByteArray} {a k : Int} (h : okB s a k = false) : getN s a k = 0 := by simp [getN, h]
theorem okB_neg {s : ByteArray} {a k : Int} (h : a < 0) : okB s a k = false := by simp [okB]; omega
theorem okB_far {s : ByteArray} {a k : Int} (h : (s.size : Int) - k < a) : okB s a k = false := by simp [okB]; omega
theorem okB_yes {s : ByteArray} {a k : Nat} (h : szB k = true) (hb : a + k ≤ s.size) : okB s a k = true := by simp [okB, h]; omega
theorem getN_yes {s : ByteArray} {a k : Nat} (h : szB k = true) (hb : a + k ≤ s.size) : getN s a k = num (part s a k) := by simp [getN, okB_yes h hb]

/-- What both of Get answer. -/
def GetEnd (s : ByteArray) (a k : Int) (w : World) (e : Ending) (w' : World) : Prop := e = .returned (.tuple #[.int .u64 (getN s a k), .bool (okB s a k)]) ∧ w = w'

theorem GetEnd.no {s : ByteArray} {a k : Int} {w : World} (h : okB s a k = false) : GetEnd s a k w (.returned (.tuple #[.int .u64 0, .bool false])) w :=
  ⟨ret_nb (getN_no h).symm h.symm, rfl⟩

/-- Where the loop of Get stands. -/
def GetHead (s : ByteArray) (a k : Nat) (n i : Value) : Prop := ∃ j : Nat, j ≤ k ∧ i = .int .i64 j ∧ n = .int .u64 (num (part s a j))

set_option maxHeartbeats 400000 in
theorem get_any (s : ByteArray) (a k : Int) (w : World) (hs : s.size ≤ maxLen) : Calls Tryz.prog 166 #[.string s, .int .i64 a, .int .i64 k] w (GetEnd s a k w) := by
  unfold maxLen at hs
  cases hk : szB k
  · have H := Lib.hid (okB_no (s := s) (a := a) hk)
    go_enter Tryz.func166, Tryz.ntmps166
    go_wp2_with (go_at_call 165; refine (isSize_any _ _).mono ?_; rintro e w' ⟨rfl, rfl⟩)
    go_ret2
    exact GetEnd.no H.out
  have k8 : 1 ≤ k ∧ k ≤ 8 := by have := (szB_iff k).1 hk; omega
  by_cases h1 : a < 0
  · have H := Lib.hid (okB_neg (s := s) (k := k) h1)
    go_enter Tryz.func166, Tryz.ntmps166
    go_wp2_with (go_at_call 165; refine (isSize_any _ _).mono ?_; rintro e w' ⟨rfl, rfl⟩)
    go_ret2
    exact GetEnd.no H.out
  by_cases h2 : (s.size : Int) - k < a
  · have H := Lib.hid (okB_far h2)
    go_enter Tryz.func166, Tryz.ntmps166
    go_wp2_with (go_at_call 165; refine (isSize_any _ _).mono ?_; rintro e w' ⟨rfl, rfl⟩)
    go_ret2
    exact GetEnd.no H.out
  obtain ⟨a, rfl⟩ := Int.eq_ofNat_of_zero_le (show 0 ≤ a by omega)
  obtain ⟨k, rfl⟩ := Int.eq_ofNat_of_zero_le (show 0 ≤ k by omega)
  have d1 : decide ((a : Int) < 0) = false := decide_eq_false h1
  have d2 : decide ((s.size : Int) - (k : Int) < (a : Int)) = false := decide_eq_false h2
  have hb : a + k ≤ s.size := by omega
  go_enter Tryz.func166, Tryz.ntmps166
  go_wp2_with (go_at_call 165; refine (isSize_any _ _).mono ?_; rintro e w' ⟨rfl, rfl⟩)
  go_loop [8, 26] (fun n i => GetHead s a k n i) (fun _ i => k - (intOf i).toNat)
  case atStart => exact ⟨0, by omega, rfl, by simp [part, num]⟩
  case round =>
    obtain ⟨j, hj, rfl, rfl⟩ := hrel
    by_cases hlt : j < k
    · have e1 : (8 * (j : Int)).toNat = 8 * j := by omega
      go_wp2_with fail
      go_round
      case rel => exact ⟨j + 1, by omega, by go_num, by rw [get_or s a j (by omega) (by omega)]⟩
      case measure => simp [intOf]; omega
    · go_wp2_with fail
      go_ret2
      obtain rfl : j = k := by omega
      exact ⟨ret_nb (getN_yes hk hb).symm (okB_yes hk hb).symm, rfl⟩

theorem sz_no {k : Int} (h : szB k = false) : ¬ k = 1 ∧ ¬ k = 2 ∧ ¬ k = 4 ∧ ¬ k = 8 := by have := (szB_not k).1 h; omega

/-- Where the loop of the document's Get stands. -/
def RgetHead (s : ByteArray) (a k : Nat) (n p i : Value) : Prop := ∃ j : Nat, j ≤ k ∧ i = .int .i64 j ∧ n = .int .u64 (num (part s a j)) ∧ p = .int .u64 (pw j)

set_option maxHeartbeats 1000000 in
theorem rget_any (s : ByteArray) (a k : Int) (w : World) (hs : s.size ≤ maxLen) : Calls Tryz.prog 119 #[.string s, .int .i64 a, .int .i64 k] w (GetEnd s a k w) := by
  unfold maxLen at hs
  cases hk : szB k
  · have H := Lib.hid (okB_no (s := s) (a := a) hk)
    obtain ⟨n1, n2, n4, n8⟩ := sz_no hk
    go_enter Tryz.func119, Tryz.ntmps119
    go_wp2_with fail
    go_ret2
    exact GetEnd.no H.out
  have k8 : 1 ≤ k ∧ k ≤ 8 := by have := (szB_iff k).1 hk; omega
  by_cases h1 : a < 0
  · have H := Lib.hid (okB_neg (s := s) (k := k) h1)
    go_enter Tryz.func119, Tryz.ntmps119
    go_wp2_with fail
    all_goals
      go_ret2
      first | exact GetEnd.no H.out | exact GetEnd.no (okB_far (by omega))
  by_cases h2 : (s.size : Int) - k < a
  · have H := Lib.hid (okB_far h2)
    go_enter Tryz.func119, Tryz.ntmps119
    go_wp2_with fail
    all_goals
      go_ret2
      first | exact GetEnd.no H.out | exact GetEnd.no (okB_far (by omega))
  obtain ⟨a, rfl⟩ := Int.eq_ofNat_of_zero_le (show 0 ≤ a by omega)
  have d1 : decide ((a : Int) < 0) = false := decide_eq_false h1
  have d2 : decide ((s.size : Int) - k < (a : Int)) = false := decide_eq_false h2
  rcases (szB_iff k).1 hk with rfl | rfl | rfl | rfl
  · have hb : a + 1 ≤ s.size := by omega
    go_enter Tryz.func119, Tryz.ntmps119
    go_wp2_with fail
    go_loop [8, 9, 10] (fun n p i => RgetHead s a 1 n p i) (fun _ _ i => 1 - (intOf i).toNat)
    case atStart => exact ⟨0, by omega, rfl, by simp [part, num], by simp [pw]⟩
    case round =>
      obtain ⟨j, hj, rfl, rfl, rfl⟩ := hrel
      by_cases hlt : j < 1
      · go_wp2_with fail
        go_round
        case rel => exact ⟨j + 1, by omega, by go_num, by rw [get_add s a j (by omega) (by omega)], by rw [pw_next (by omega)]⟩
        case measure => simp [intOf]; omega
      · go_wp2_with fail
        go_ret2
        obtain rfl : j = 1 := by omega
        exact ⟨ret_nb (getN_yes (k := 1) (by decide) hb).symm (okB_yes (k := 1) (by decide) hb).symm, rfl⟩
  · have hb : a + 2 ≤ s.size := by omega
    go_enter Tryz.func119, Tryz.ntmps119
    go_wp2_with fail
    go_loop [8, 9, 10] (fun n p i => RgetHead s a 2 n p i) (fun _ _ i => 2 - (intOf i).toNat)
    case atStart => exact ⟨0, by omega, rfl, by simp [part, num], by simp [pw]⟩
    case round =>
      obtain ⟨j, hj, rfl, rfl, rfl⟩ := hrel
      by_cases hlt : j < 2
      · go_wp2_with fail
        go_round
        case rel => exact ⟨j + 1, by omega, by go_num, by rw [get_add s a j (by omega) (by omega)], by rw [pw_next (by omega)]⟩
        case measure => simp [intOf]; omega
      · go_wp2_with fail
        go_ret2
        obtain rfl : j = 2 := by omega
        exact ⟨ret_nb (getN_yes (k := 2) (by decide) hb).symm (okB_yes (k := 2) (by decide) hb).symm, rfl⟩
  · have hb : a + 4 ≤ s.size := by omega
    go_enter Tryz.func119, Tryz.ntmps119
    go_wp2_with fail
    go_loop [8, 9, 10] (fun n p i => RgetHead s a 4 n p i) (fun _ _ i => 4 - (intOf i).toNat)
    case atStart => exact ⟨0, by omega, rfl, by simp [part, num], by simp [pw]⟩
    case round =>
      obtain ⟨j, hj, rfl, rfl, rfl⟩ := hrel
      by_cases hlt : j < 4
      · go_wp2_with fail
        go_round
        case rel => exact ⟨j + 1, by omega, by go_num, by rw [get_add s a j (by omega) (by omega)], by rw [pw_next (by omega)]⟩
        case measure => simp [intOf]; omega
      · go_wp2_with fail
        go_ret2
        obtain rfl : j = 4 := by omega
        exact ⟨ret_nb (getN_yes (k := 4) (by decide) hb).symm (okB_yes (k := 4) (by decide) hb).symm, rfl⟩
  · have hb : a + 8 ≤ s.size := by omega
    go_enter Tryz.func119, Tryz.ntmps119
    go_wp2_with fail
    go_loop [8, 9, 10] (fun n p i => RgetHead s a 8 n p i) (fun _ _ i => 8 - (intOf i).toNat)
    case atStart => exact ⟨0, by omega, rfl, by simp [part, num], by simp [pw]⟩
    case round =>
      obtain ⟨j, hj, rfl, rfl, rfl⟩ := hrel
      by_cases hlt : j < 8
      · go_wp2_with fail
        go_round
        case rel => exact ⟨j + 1, by omega, by go_num, by rw [get_add s a j (by omega) (by omega)], by rw [pw_next (by omega)]⟩
        case measure => simp [intOf]; omega
      · go_wp2_with fail
        go_ret2
        obtain rfl : j = 8 := by omega
        exact ⟨ret_nb (getN_yes (k := 8) (by decide) hb).symm (okB_yes (k := 8) (by decide) hb).symm, rfl⟩
end Go.Proofs.YtnmfjnfdnjjngaaGreatDoor.Oc

namespace Go.Proofs.YtnmfjnfdnjjngaaGreatDoor.Oc
open Go.RowKit
set_option maxRecDepth 100000

/-- What both of Put answer. -/
def PutEnd (n k : Int) (w : World) (e : Ending) (w' : World) : Prop := e = .returned (.string (putS n k)) ∧ Below w.heap.size w w'

theorem putS_no {n k : Int} (h : szB k = false) : putS n k = ByteArray.empty := by simp [putS, h]
theorem putS_yes {n : Int} {k : Nat} (h : szB k = true) : putS n k = strOfNums (digs n k) := by simp [putS, h]
theorem str_append (l r : List Int) : strOfNums (l ++ r) = strOfNums l ++ strOfNums r := by
  refine ByteArray.ext ?_
  rw [ByteArray.data_append]
  simp [strOfNums]
theorem div_more (n : Int) (j : Nat) : n / 256 ^ j / 256 = n / 256 ^ (j + 1) := by
  rw [Int.ediv_ediv_of_nonneg (Int.le_of_lt (Int.pow_pos (by decide))), Int.pow_succ]

theorem run_one_byte (wx : World) (c : Int) :
    (convert 79 9 (.slice (some ⟨wx.heap.size, 0, none⟩) 1 1)).run Tryz.prog (wx.alloc (.cells #[.int .u8 c] 5)) = .ok (.string (strOfNums [c])) (wx.alloc (.cells #[.int .u8 c] 5)) :=
  run_convert_bytes_arg _ 79 5 Tryz.underlying79 Tryz.underlying5 wx.heap.size 0 1 1 [c] rfl (fun i hi => by
    obtain rfl : i = 0 := by omega
    simp) 9 Tryz.underlying9

/-- Where the loop of the document's Put stands. -/
def RputHead (n : Int) (k : Nat) (w : World) (m out i : Value) (wr : World) : Prop :=
  ∃ j : Nat, j ≤ k ∧ i = .int .i64 j ∧ m = .int .u64 (n / 256 ^ j) ∧ out = .string (strOfNums (digs n j)) ∧ Below w.heap.size w wr

theorem sz_no_b {k : Int} (h : szB k = false) : (k != 1) = true ∧ (k != 2) = true ∧ (k != 4) = true ∧ (k != 8) = true := by
  have := sz_no h
  simpa using this

set_option maxHeartbeats 1000000 in
theorem rput_any (n k : Int) (w : World) (h0 : 0 ≤ n) (h1 : n < 18446744073709551616) : Calls Tryz.prog 104 #[.int .u64 n, .int .i64 k] w (PutEnd n k w) := by
  cases hk : szB k
  · have H := Lib.hid (putS_no (n := n) hk)
    obtain ⟨n1, n2, n4, n8⟩ := sz_no_b hk
    go_enter Tryz.func104, Tryz.ntmps104
    go_wp2_with fail
    go_ret
    exact ⟨ret_str H.out.symm, Below.refl _ _⟩
  rcases (szB_iff k).1 hk with rfl | rfl | rfl | rfl
  · go_enter Tryz.func104, Tryz.ntmps104
    go_wp2_with fail
    go_loopw [0, 5, 6] (fun m out i wr => RputHead n 1 w m out i wr) (fun _ _ i _ => 1 - (intOf i).toNat)
    case atStart => exact ⟨0, by omega, rfl, by simp, by simp [digs, strOfNums], Below.refl _ _⟩
    case round =>
      obtain ⟨j, hj, rfl, rfl, rfl, hB⟩ := hrel
      by_cases hlt : j < 1
      · generalize hm : n / 256 ^ j = m
        have hm0 : 0 ≤ m := by rw [← hm]; exact Int.ediv_nonneg h0 (Int.le_of_lt (pow_bd j (by omega)).1)
        have hm1 : m < 18446744073709551616 := by have := Int.ediv_le_self (256 ^ j) h0; rw [hm] at this; omega
        have HM := Lib.hid hm
        clear hm
        generalize ho : strOfNums (digs n j) = o
        have hol : o.size ≤ 8 := by rw [← ho, strOfNums_size, digs_length]; omega
        have HO := Lib.hid ho
        clear ho
        have hc := run_one_byte
        have hz : ∀ c, (strOfNums [c]).size = 1 := fun c => by rw [strOfNums_size]; rfl
        go_wp2_with fail
        go_roundw
        case rel => exact ⟨j + 1, by omega, by go_num, by rw [← HM.out, div_more], by rw [← HO.out, ← HM.out, digs_snoc, str_append], hB.alloc (hB.size) _⟩
        case measure => simp [intOf]; omega
      · go_wp2_with fail
        go_ret
        obtain rfl : j = 1 := by omega
        exact ⟨ret_str (putS_yes (k := 1) (by decide)).symm, hB⟩
  · go_enter Tryz.func104, Tryz.ntmps104
    go_wp2_with fail
    go_loopw [0, 5, 6] (fun m out i wr => RputHead n 2 w m out i wr) (fun _ _ i _ => 2 - (intOf i).toNat)
    case atStart => exact ⟨0, by omega, rfl, by simp, by simp [digs, strOfNums], Below.refl _ _⟩
    case round =>
      obtain ⟨j, hj, rfl, rfl, rfl, hB⟩ := hrel
      by_cases hlt : j < 2
      · generalize hm : n / 256 ^ j = m
        have hm0 : 0 ≤ m := by rw [← hm]; exact Int.ediv_nonneg h0 (Int.le_of_lt (pow_bd j (by omega)).1)
        have hm1 : m < 18446744073709551616 := by have := Int.ediv_le_self (256 ^ j) h0; rw [hm] at this; omega
        have HM := Lib.hid hm
        clear hm
        generalize ho : strOfNums (digs n j) = o
        have hol : o.size ≤ 8 := by rw [← ho, strOfNums_size, digs_length]; omega
        have HO := Lib.hid ho
        clear ho
        have hc := run_one_byte
        have hz : ∀ c, (strOfNums [c]).size = 1 := fun c => by rw [strOfNums_size]; rfl
        go_wp2_with fail
        go_roundw
        case rel => exact ⟨j + 1, by omega, by go_num, by rw [← HM.out, div_more], by rw [← HO.out, ← HM.out, digs_snoc, str_append], hB.alloc (hB.size) _⟩
        case measure => simp [intOf]; omega
      · go_wp2_with fail
        go_ret
        obtain rfl : j = 2 := by omega
        exact ⟨ret_str (putS_yes (k := 2) (by decide)).symm, hB⟩
  · go_enter Tryz.func104, Tryz.ntmps104
    go_wp2_with fail
    go_loopw [0, 5, 6] (fun m out i wr => RputHead n 4 w m out i wr) (fun _ _ i _ => 4 - (intOf i).toNat)
    case atStart => exact ⟨0, by omega, rfl, by simp, by simp [digs, strOfNums], Below.refl _ _⟩
    case round =>
      obtain ⟨j, hj, rfl, rfl, rfl, hB⟩ := hrel
      by_cases hlt : j < 4
      · generalize hm : n / 256 ^ j = m
        have hm0 : 0 ≤ m := by rw [← hm]; exact Int.ediv_nonneg h0 (Int.le_of_lt (pow_bd j (by omega)).1)
        have hm1 : m < 18446744073709551616 := by have := Int.ediv_le_self (256 ^ j) h0; rw [hm] at this; omega
        have HM := Lib.hid hm
        clear hm
        generalize ho : strOfNums (digs n j) = o
        have hol : o.size ≤ 8 := by rw [← ho, strOfNums_size, digs_length]; omega
        have HO := Lib.hid ho
        clear ho
        have hc := run_one_byte
        have hz : ∀ c, (strOfNums [c]).size = 1 := fun c => by rw [strOfNums_size]; rfl
        go_wp2_with fail
        go_roundw
        case rel => exact ⟨j + 1, by omega, by go_num, by rw [← HM.out, div_more], by rw [← HO.out, ← HM.out, digs_snoc, str_append], hB.alloc (hB.size) _⟩
        case measure => simp [intOf]; omega
      · go_wp2_with fail
        go_ret
        obtain rfl : j = 4 := by omega
        exact ⟨ret_str (putS_yes (k := 4) (by decide)).symm, hB⟩
  · go_enter Tryz.func104, Tryz.ntmps104
    go_wp2_with fail
    go_loopw [0, 5, 6] (fun m out i wr => RputHead n 8 w m out i wr) (fun _ _ i _ => 8 - (intOf i).toNat)
    case atStart => exact ⟨0, by omega, rfl, by simp, by simp [digs, strOfNums], Below.refl _ _⟩
    case round =>
      obtain ⟨j, hj, rfl, rfl, rfl, hB⟩ := hrel
      by_cases hlt : j < 8
      · generalize hm : n / 256 ^ j = m
        have hm0 : 0 ≤ m := by rw [← hm]; exact Int.ediv_nonneg h0 (Int.le_of_lt (pow_bd j (by omega)).1)
        have hm1 : m < 18446744073709551616 := by have := Int.ediv_le_self (256 ^ j) h0; rw [hm] at this; omega
        have HM := Lib.hid hm
        clear hm
        generalize ho : strOfNums (digs n j) = o
        have hol : o.size ≤ 8 := by rw [← ho, strOfNums_size, digs_length]; omega
        have HO := Lib.hid ho
        clear ho
        have hc := run_one_byte
        have hz : ∀ c, (strOfNums [c]).size = 1 := fun c => by rw [strOfNums_size]; rfl
        go_wp2_with fail
        go_roundw
        case rel => exact ⟨j + 1, by omega, by go_num, by rw [← HM.out, div_more], by rw [← HO.out, ← HM.out, digs_snoc, str_append], hB.alloc (hB.size) _⟩
        case measure => simp [intOf]; omega
      · go_wp2_with fail
        go_ret
        obtain rfl : j = 8 := by omega
        exact ⟨ret_str (putS_yes (k := 8) (by decide)).symm, hB⟩

/-- Where the loop of Put stands. -/
def PutHead (n : Int) (k : Nat) (w : World) (i : Value) (wr : World) : Prop :=
  ∃ j : Nat, j ≤ k ∧ i = .int .i64 j ∧ wr.ownsRow w.heap.size 5 1 (.slice (some ⟨w.heap.size, 0, none⟩) k k) k ((digs n j ++ List.replicate (k - j) 0).map (Value.int .u8)) ∧ Below w.heap.size w wr

theorem Tryz.info5 : (Tryz.prog.info? 5).map (fun i => (i.zero, i.size, i.bytes)) = some (some (.int .u8 0), 1, 1) := by kernel_rfl

theorem replicate_more (k j : Nat) (h : j < k) : List.replicate (k - j) (0 : Int) = 0 :: List.replicate (k - (j + 1)) 0 := by
  rw [show k - j = (k - (j + 1)) + 1 from by omega, List.replicate_succ]
theorem put_cell {w wr : World} {n : Int} {k j : Nat} (h : wr.ownsRow w.heap.size 5 1 (.slice (some ⟨w.heap.size, 0, none⟩) k k) k ((digs n j ++ List.replicate (k - j) 0).map (Value.int .u8))) (hj : j < k) :
    wr.cell? ⟨w.heap.size, j, none⟩ = some (.int .u8 0) ∧ wr.frozen? ⟨w.heap.size, j, none⟩ = false := by
  refine ⟨(h.cellAt j (by omega)).trans ?_, h.frozenAt j⟩
  rw [replicate_more k j hj, List.getElem?_map, List.getElem?_append_right (by rw [digs_length]; omega), digs_length]
  simp
theorem put_next {w wr : World} {n : Int} {k j : Nat} (h : wr.ownsRow w.heap.size 5 1 (.slice (some ⟨w.heap.size, 0, none⟩) k k) k ((digs n j ++ List.replicate (k - j) 0).map (Value.int .u8))) (hj : j < k) :
    (wr.setCell ⟨w.heap.size, j, none⟩ (.int .u8 (n / 256 ^ j % 256))).ownsRow w.heap.size 5 1 (.slice (some ⟨w.heap.size, 0, none⟩) k k) k ((digs n (j + 1) ++ List.replicate (k - (j + 1)) 0).map (Value.int .u8)) := by
  have := (h.stored j (.int .u8 (n / 256 ^ j % 256))).1
  rw [replicate_more k j hj, ← List.map_set, List.set_append_right _ _ (by rw [digs_length]; omega), digs_length] at this
  rw [digs_snoc, List.append_assoc]
  simpa using this
theorem put_last {w wr : World} {n : Int} {j : Nat} (h : wr.ownsRow w.heap.size 5 1 (.slice (some ⟨w.heap.size, 0, none⟩) j j) j ((digs n j ++ List.replicate (j - j) 0).map (Value.int .u8))) :
    (convert 79 9 (.slice (some ⟨w.heap.size, 0, none⟩) j j)).run Tryz.prog wr = .ok (.string (strOfNums (digs n j))) wr :=
  run_convert_bytes_arg _ 79 5 Tryz.underlying79 Tryz.underlying5 w.heap.size 0 j j (digs n j) (digs_length _ _) (fun i hi => by
    rw [Nat.zero_add]
    refine (h.cellAt i (by omega)).trans ?_
    rw [Nat.sub_self, List.replicate_zero, List.append_nil, List.getElem?_map, List.getD_eq_getElem?_getD, List.getElem?_eq_getElem (by rw [digs_length]; exact hi)]
    rfl) 9 Tryz.underlying9

set_option maxHeartbeats 1000000 in
theorem put_any (n k : Int) (w : World) (_h0 : 0 ≤ n) (_h1 : n < 18446744073709551616) : Calls Tryz.prog 155 #[.int .u64 n, .int .i64 k] w (PutEnd n k w) := by
  cases hk : szB k
  · have H := Lib.hid (putS_no (n := n) hk)
    go_enter Tryz.func155, Tryz.ntmps155
    go_wp2_with (go_at_call 165; refine (isSize_any _ _).mono ?_; rintro e w' ⟨rfl, rfl⟩)
    go_ret
    exact ⟨ret_str H.out.symm, Below.refl _ _⟩
  have k8 : 1 ≤ k ∧ k ≤ 8 := by have := (szB_iff k).1 hk; omega
  obtain ⟨k, rfl⟩ := Int.eq_ofNat_of_zero_le (show 0 ≤ k by omega)
  obtain ⟨i0, hi, hz0, hz1, hz2⟩ := info_parts Tryz.info5
  obtain ⟨w1, hrun, hown, hgrow⟩ := run_make_full (P := Tryz.prog) w w.heap.size 79 5 i0 (.int .u8 0) 1 Tryz.underlying79 hi hz0 hz1 .i64 .i64 k (by rw [hz2]; omega) (by unfold maxLen; omega) (Nat.le_refl _)
  have hB := (Below.refl w.heap.size w).grown hgrow (Nat.le_refl _) (by simp)
  clear hi hz0 hz1 hz2 hgrow
  have e0 : (madeCells (Value.int .u8 0).cells (k * 1)).toList = (digs n 0 ++ List.replicate (k - 0) 0).map (Value.int .u8) := by
    show (madeCells #[Value.int .u8 0] (k * 1)).toList = _
    rw [toList_madeCells_one]
    simp [digs]
  rw [e0] at hown
  clear e0
  go_enter Tryz.func155, Tryz.ntmps155
  go_wp2_with (go_at_call 165; refine (isSize_any _ _).mono ?_; rintro e w' ⟨rfl, rfl⟩)
  go_loopw [13] (fun i wr => PutHead n k w i wr) (fun i _ => k - (intOf i).toNat)
  case atStart => exact ⟨0, by omega, rfl, hown, hB⟩
  case round =>
    obtain ⟨j, hj, rfl, hown, hB⟩ := hrel
    by_cases hlt : j < k
    · obtain ⟨hc, hf⟩ := put_cell hown hlt
      have hs := put_next hown hlt
      have hB2 := hB.setCell (p := ⟨w.heap.size, j, none⟩) (Nat.le_refl _) (Value.int .u8 (n / 256 ^ j % 256))
      have HS := Lib.hid hs
      have HB := Lib.hid hB2
      clear hown hB hs hB2
      have ep := pow256 j
      go_wp2_with fail
      go_roundw
      case rel => exact ⟨j + 1, by omega, by go_num, HS.out, HB.out⟩
      case measure => simp [intOf]; omega
    · obtain rfl : j = k := by omega
      have hr := put_last hown
      clear hown
      go_wp2_with fail
      go_ret
      exact ⟨ret_str (putS_yes hk).symm, hB⟩
end Go.Proofs.YtnmfjnfdnjjngaaGreatDoor.Oc
