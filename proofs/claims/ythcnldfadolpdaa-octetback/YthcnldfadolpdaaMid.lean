/-
  What stands between two texts; what is got at a text's beginning, put again.
-/
import Derived.Test.YthcnldfadolpdaaGwalk
namespace Go.Proofs.Ythcnldfadolpdaa
open Go.RowKit

theorem nums_append (a b : ByteArray) : nums (a ++ b) = nums a ++ nums b := by
  unfold nums
  rw [ByteArray.data_append]
  simp
theorem digs_byte (n : Int) (k : Nat) : ∀ b ∈ digs n k, 0 ≤ b ∧ b < 256 := digs_bd k n
theorem putS_size {n : Int} {k : Nat} (h : szB k = true) : (putS n k).size = k := by rw [putS_yes h, strOfNums_size, digs_length]

theorem part_mid (a b : ByteArray) (n : Int) (k : Nat) (h : szB k = true) : part (a ++ putS n k ++ b) a.size k = digs n k := by
  unfold part
  rw [nums_append, nums_append, List.append_assoc, List.drop_append_of_le_length (by rw [nums_length]; exact Nat.le_refl _), List.drop_of_length_le (by rw [nums_length]; exact Nat.le_refl _), List.nil_append, putS_yes h,
    nums_strOfNums _ (digs_byte n k), List.take_append_of_le_length (by rw [digs_length]; exact Nat.le_refl _), List.take_of_length_le (by rw [digs_length]; exact Nat.le_refl _)]

theorem okB_mid (a b : ByteArray) (n : Int) (k : Nat) (h : szB k = true) : okB (a ++ putS n k ++ b) a.size k = true :=
  okB_yes h (by rw [ByteArray.size_append, ByteArray.size_append, putS_size h]; omega)
theorem getN_mid (a b : ByteArray) (n : Int) (k : Nat) (h : szB k = true) : getN (a ++ putS n k ++ b) a.size k = n % 256 ^ k := by
  rw [getN_yes h (by rw [ByteArray.size_append, ByteArray.size_append, putS_size h]; omega), part_mid a b n k h, num_digs]

/-- What was put is got again, between any two texts. -/
theorem get_mid (a b : ByteArray) (n : Int) (k : Nat) (h : szB k = true) (w : World) (ha : a.size ≤ 140737488351232) (hb : b.size ≤ 140737488351232) :
    Calls Try.prog 11 #[.string (a ++ putS n k ++ b), .int .i64 a.size, .int .i64 k] w fun e w' => e = .returned (.tuple #[.int .u64 (n % 256 ^ k), .bool true]) ∧ w = w' := by
  refine (get_any _ _ _ w ?_).mono fun _ _ ⟨he, hw⟩ => ⟨he.trans (ret_nb (getN_mid a b n k h) (okB_mid a b n k h)), hw⟩
  have : k ≤ 8 := by have := (szB_iff k).1 h; omega
  rw [ByteArray.size_append, ByteArray.size_append, putS_size h]
  unfold maxLen
  omega

/-- The number at a text's beginning. -/
def first (b : ByteArray) (k : Nat) : Int := num (part b 0 k)
theorem first_bd (b : ByteArray) (k : Nat) (h : szB k = true) (hk : k ≤ b.size) : 0 ≤ first b k ∧ first b k < 18446744073709551616 := by
  have h1 := part_num_bd b 0 k (by omega)
  have h2 : (256 : Int) ^ k ≤ 18446744073709551616 := by
    rcases (szB_iff k).1 h with e | e | e | e
    · obtain rfl : k = 1 := by omega
      decide
    · obtain rfl : k = 2 := by omega
      decide
    · obtain rfl : k = 4 := by omega
      decide
    · obtain rfl : k = 8 := by omega
      decide
  unfold first
  omega
theorem get_head (b : ByteArray) (k : Nat) (h : szB k = true) (hk : k ≤ b.size) (w : World) (hb : b.size ≤ 140737488351232) :
    Calls Try.prog 11 #[.string b, .int .i64 0, .int .i64 k] w fun e w' => e = .returned (.tuple #[.int .u64 (first b k), .bool true]) ∧ w = w' :=
  (get_any b (0 : Nat) k w (by unfold maxLen; omega)).mono fun _ _ ⟨he, hw⟩ => ⟨he.trans (ret_nb (getN_yes h (by omega)) (okB_yes h (by omega))), hw⟩
theorem get_none (b : ByteArray) (k : Nat) (hk : ¬ k ≤ b.size) (w : World) (hb : b.size ≤ 140737488351232) :
    Calls Try.prog 11 #[.string b, .int .i64 0, .int .i64 k] w fun e w' => e = .returned (.tuple #[.int .u64 0, .bool false]) ∧ w = w' :=
  (get_any b 0 k w (by unfold maxLen; omega)).mono fun _ _ ⟨he, hw⟩ => ⟨he.trans (ret_nb (getN_no (okB_far (by omega))) (okB_far (by omega))), hw⟩

theorem putS_first (b : ByteArray) (k : Nat) (h : szB k = true) (hk : k ≤ b.size) : putS (first b k) k = b.extract 0 k := by
  rw [putS_yes h]
  have e := digs_num (part b 0 k) (part_bd b 0 k)
  rw [part_length b 0 k (by omega)] at e
  unfold first
  rw [e]
  refine ByteArray.ext (Array.ext' ?_)
  rw [strOfNums_data, ByteArray.data_extract]
  simp [part, nums, List.map_take, Function.comp_def]
theorem put_first (b : ByteArray) (k : Nat) (h : szB k = true) (hk : k ≤ b.size) (w : World) :
    Calls Try.prog 8 #[.int .u64 (first b k), .int .i64 k] w fun e w' => e = .returned (.string (b.extract 0 k)) ∧ Below w.heap.size w w' :=
  (put_any _ k w (first_bd b k h hk).1 (first_bd b k h hk).2).mono fun _ _ ⟨he, hw⟩ => ⟨he.trans (ret_str (putS_first b k h hk)), hw⟩
end Go.Proofs.Ythcnldfadolpdaa
