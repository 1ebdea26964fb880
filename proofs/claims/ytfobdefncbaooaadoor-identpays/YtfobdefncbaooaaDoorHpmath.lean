/-
  Texts padded: plain mathematics.
-/
import Derived.Laws.BytesArg
import Derived.WalkKit
namespace Go.Proofs.YtfobdefncbaooaaDoor.Sh

/-- A text's bytes as numbers. -/
def nums (s : ByteArray) : List Int := s.data.toList.map fun b => (b.toNat : Int)
theorem nums_length (s : ByteArray) : (nums s).length = s.size := by show _ = s.data.size; simp [nums]
theorem nums_bd (s : ByteArray) : ∀ b ∈ nums s, 0 ≤ b ∧ b < 256 := by
  intro b h
  simp only [nums, List.mem_map] at h
  obtain ⟨c, _, rfl⟩ := h
  have := c.toNat_lt
  omega
theorem nums_at (s : ByteArray) (k : Nat) (h : k < s.size) : (nums s).getD k 0 = (s[k].toNat : Int) := by
  have h2 : k < s.data.size := h
  simp [nums, List.getD_eq_getElem?_getD]
  rw [Array.getElem?_eq_getElem h2]
  rfl
theorem take_more (l : List Int) (k : Nat) (h : k < l.length) : l.take (k + 1) = l.take k ++ [l.getD k 0] := by
  rw [List.take_succ_eq_append_getElem h]
  simp [List.getD_eq_getElem?_getD, h]

/-- How many noughts are wanted behind so many bytes and one. -/
def zs (n : Nat) : Nat := (119 - n % 64) % 64
theorem zs_end (n : Nat) : (n + 1 + zs n) % 64 = 56 := by unfold zs; omega
theorem zs_less (n j : Nat) (h : j < zs n) : (n + 1 + j) % 64 ≠ 56 := by unfold zs at h; omega

/-- The last k of the eight bytes of a number, the highest first: as far as they are put when k are still to come. -/
def tail8 (n : Int) : Nat → List Int
  | 0 => []
  | k + 1 => tail8 n k ++ [n / 2 ^ (8 * (7 - k)) % 256]
theorem tail8_length (n : Int) : ∀ k, (tail8 n k).length = k
  | 0 => rfl
  | k + 1 => by simp [tail8, tail8_length n k]
theorem tail8_bd (n : Int) : ∀ k, ∀ b ∈ tail8 n k, 0 ≤ b ∧ b < 256
  | 0 => by simp [tail8]
  | k + 1 => by
    intro b h
    rcases List.mem_append.1 h with h | h
    · exact tail8_bd n k b h
    · simp at h; omega

/-- A text padded. -/
def padL (l : List Int) : List Int := l ++ [128] ++ List.replicate (zs l.length) 0 ++ tail8 ((l.length : Int) * 8) 8
theorem padL_length (l : List Int) : (padL l).length = l.length + 9 + zs l.length := by simp [padL, tail8_length]; omega
theorem padL_64 (l : List Int) : (padL l).length % 64 = 0 := by
  have := zs_end l.length
  rw [padL_length]
  omega
theorem padL_bd (l : List Int) (h : ∀ b ∈ l, 0 ≤ b ∧ b < 256) : ∀ b ∈ padL l, 0 ≤ b ∧ b < 256 := by
  intro b hb
  simp only [padL, List.mem_append, List.mem_singleton, List.mem_replicate] at hb
  rcases hb with ((hb | hb) | hb) | hb
  · exact h b hb
  · omega
  · omega
  · exact tail8_bd _ _ b hb
end Go.Proofs.YtfobdefncbaooaaDoor.Sh
