/-
  A byte put behind others of a number: by or, and by a sum.
-/
import Derived.Test.YtjclklppnkoehaaGreatDoorOmath
import Derived.WalkKit
import Derived.Laws.BitsAllLaws
namespace Go.Proofs.YtjclklppnkoehaaGreatDoor.Oc
open Go.RowKit
set_option maxRecDepth 100000

theorem pow256 (j : Nat) : (2 : Int) ^ (8 * j) = 256 ^ j := by rw [Int.pow_mul]; rfl
theorem pow_bd (j : Nat) (hj : j < 8) : (0 : Int) < 256 ^ j ∧ (256 : Int) ^ j ≤ 72057594037927936 := by
  have : j = 0 ∨ j = 1 ∨ j = 2 ∨ j = 3 ∨ j = 4 ∨ j = 5 ∨ j = 6 ∨ j = 7 := by omega
  rcases this with rfl | rfl | rfl | rfl | rfl | rfl | rfl | rfl <;> decide
theorem mul_bd (b p : Int) (h0 : 0 ≤ b) (h1 : b < 256) (p0 : 0 < p) (p1 : p ≤ 72057594037927936) : 0 ≤ b * p ∧ b * p < 18446744073709551616 := by
  refine ⟨Int.mul_nonneg h0 (by omega), ?_⟩
  have : b * p ≤ 255 * p := Int.mul_le_mul_of_nonneg_right (by omega) (by omega)
  omega

theorem or_place (x b : Int) (j : Nat) (hj : j < 8) (h0 : 0 ≤ x) (h1 : x < 256 ^ j) (b0 : 0 ≤ b) (b1 : b < 256) :
    bits BinOp.or IntKind.u64 x (IntKind.u64.wrap (IntKind.u64.wrap b * 2 ^ (8 * j))) = x + 256 ^ j * b := by
  obtain ⟨p0, p1⟩ := pow_bd j hj
  have hm := mul_bd b (256 ^ j) b0 b1 p0 p1
  rw [pow256, IntWalk.u64_in b (by omega), IntWalk.u64_in (b * 256 ^ j) (by omega), u64_or x _ h0 (by omega) hm.1 hm.2]
  obtain ⟨m, rfl⟩ := Int.eq_ofNat_of_zero_le b0
  obtain ⟨y, rfl⟩ := Int.eq_ofNat_of_zero_le h0
  have e : ((256 : Int) ^ j) = ((2 ^ (8 * j) : Nat) : Int) := by rw [← pow256]; simp
  rw [e] at h1 hm ⊢
  rw [Int.mul_comm, ← Int.natCast_mul, Int.toNat_natCast, Int.toNat_natCast, Nat.or_comm, ← Nat.two_pow_add_eq_or_of_lt (by omega)]
  omega

/-- The weight of the byte at j, as 64 bits have it. -/
def pw (j : Nat) : Int := if j < 8 then 256 ^ j else 0
theorem pw_lt {j : Nat} (h : j < 8) : pw j = 256 ^ j := by simp [pw, h]
theorem pw_next {j : Nat} (h : j < 8) : IntKind.u64.wrap (pw j * 256) = pw (j + 1) := by
  have : j = 0 ∨ j = 1 ∨ j = 2 ∨ j = 3 ∨ j = 4 ∨ j = 5 ∨ j = 6 ∨ j = 7 := by omega
  rcases this with rfl | rfl | rfl | rfl | rfl | rfl | rfl | rfl <;> decide
theorem add_place (x b : Int) (j : Nat) (hj : j < 8) (h0 : 0 ≤ x) (h1 : x < 256 ^ j) (b0 : 0 ≤ b) (b1 : b < 256) :
    IntKind.u64.wrap (x + IntKind.u64.wrap (IntKind.u64.wrap b * pw j)) = x + 256 ^ j * b := by
  obtain ⟨p0, p1⟩ := pow_bd j hj
  have hm := mul_bd b (256 ^ j) b0 b1 p0 p1
  have h2 : x + b * 256 ^ j < 18446744073709551616 := by
    have : b * 256 ^ j ≤ 255 * 256 ^ j := Int.mul_le_mul_of_nonneg_right (by omega) (by omega)
    omega
  rw [pw_lt hj, IntWalk.u64_in b (by omega), IntWalk.u64_in (b * 256 ^ j) (by omega), IntWalk.u64_in _ (by omega), Int.mul_comm]

theorem part_step (s : ByteArray) (a j : Nat) (h : a + j < s.size) : num (part s a (j + 1)) = num (part s a j) + 256 ^ j * (s[a + j].toNat : Int) := by
  rw [part_snoc s a j h, num_snoc, part_length s a j (by omega)]
theorem part_num_bd (s : ByteArray) (a j : Nat) (h : a + j ≤ s.size) : 0 ≤ num (part s a j) ∧ num (part s a j) < 256 ^ j := by
  have := num_bd _ (part_bd s a j)
  rwa [part_length s a j h] at this
theorem byte_bd (b : UInt8) : 0 ≤ (b.toNat : Int) ∧ (b.toNat : Int) < 256 := by have := b.toNat_lt; omega
theorem get_or (s : ByteArray) (a j : Nat) (hj : j < 8) (h : a + j < s.size) :
    bits BinOp.or IntKind.u64 (num (part s a j)) (IntKind.u64.wrap (IntKind.u64.wrap (s[a + j].toNat : Int) * 2 ^ (8 * j))) = num (part s a (j + 1)) := by
  have h1 := part_num_bd s a j (by omega)
  have h2 := byte_bd s[a + j]
  rw [or_place _ _ j hj h1.1 h1.2 h2.1 h2.2, part_step s a j h]
theorem get_add (s : ByteArray) (a j : Nat) (hj : j < 8) (h : a + j < s.size) :
    IntKind.u64.wrap (num (part s a j) + IntKind.u64.wrap (IntKind.u64.wrap (s[a + j].toNat : Int) * pw j)) = num (part s a (j + 1)) := by
  have h1 := part_num_bd s a j (by omega)
  have h2 := byte_bd s[a + j]
  rw [add_place _ _ j hj h1.1 h1.2 h2.1 h2.2, part_step s a j h]
end Go.Proofs.YtjclklppnkoehaaGreatDoor.Oc
