/-
  Numbers in bytes, the lowest first: plain mathematics.
-/
import Derived.Laws.BytesArg
namespace Go.Proofs.YtjclklppnkoehaaGreatDoor.Oc

/-- The sizes that there are. -/
def szB (k : Int) : Bool := decide (k = 1 ∨ k = 2 ∨ k = 4 ∨ k = 8)

theorem szB_iff (k : Int) : szB k = true ↔ (k = 1 ∨ k = 2 ∨ k = 4 ∨ k = 8) := by simp [szB]
theorem szB_not (k : Int) : szB k = false ↔ ¬ (k = 1 ∨ k = 2 ∨ k = 4 ∨ k = 8) := by simp [szB]

/-- The k lowest bytes of n, the lowest first. -/
def digs (n : Int) : Nat → List Int
  | 0 => []
  | k + 1 => n % 256 :: digs (n / 256) k

theorem digs_length (k : Nat) : ∀ n, (digs n k).length = k := by
  induction k with
  | zero => intro n; rfl
  | succ k ih => intro n; simp [digs, ih]

theorem digs_bd (k : Nat) : ∀ n, ∀ b ∈ digs n k, 0 ≤ b ∧ b < 256 := by
  induction k with
  | zero => intro n b h; simp [digs] at h
  | succ k ih =>
    intro n b h
    simp only [digs, List.mem_cons] at h
    rcases h with rfl | h
    · omega
    · exact ih _ _ h

theorem div_pow (n : Int) (k : Nat) : n / 256 / 256 ^ k = n / 256 ^ (k + 1) := by
  rw [Int.ediv_ediv_of_nonneg (by decide), Int.pow_succ, Int.mul_comm]

theorem digs_snoc (k : Nat) : ∀ n, digs n (k + 1) = digs n k ++ [n / 256 ^ k % 256] := by
  induction k with
  | zero => intro n; simp [digs]
  | succ k ih =>
    intro n
    rw [digs, ih, digs, List.cons_append, div_pow]

theorem digs_get (k : Nat) : ∀ (n : Int) (j : Nat), j < k → (digs n k).getD j 0 = n / 256 ^ j % 256 := by
  induction k with
  | zero => intro n j h; omega
  | succ k ih =>
    intro n j h
    cases j with
    | zero => simp [digs]
    | succ j =>
      have := ih (n / 256) j (by omega)
      rw [div_pow] at this
      simpa [digs] using this

theorem digs_append (k : Nat) : ∀ (n : Int) (m : Nat), digs n (k + m) = digs n k ++ digs (n / 256 ^ k) m := by
  induction k with
  | zero => intro n m; simp [digs]
  | succ k ih =>
    intro n m
    rw [show k + 1 + m = (k + m) + 1 from by omega, digs, ih, digs, List.cons_append, div_pow]

/-- The number of bytes, the lowest first. -/
def num : List Int → Int
  | [] => 0
  | b :: r => b + 256 * num r

theorem num_append (l r : List Int) : num (l ++ r) = num l + 256 ^ l.length * num r := by
  induction l with
  | nil => simp [num]
  | cons b l ih =>
    simp only [List.cons_append, num, ih, List.length_cons, Int.pow_succ, Int.mul_add]
    rw [Int.mul_comm (256 ^ l.length) 256, Int.mul_assoc, Int.add_assoc]

theorem num_snoc (l : List Int) (b : Int) : num (l ++ [b]) = num l + 256 ^ l.length * b := by
  rw [num_append]; simp [num]

theorem num_bd (l : List Int) : (∀ b ∈ l, 0 ≤ b ∧ b < 256) → 0 ≤ num l ∧ num l < 256 ^ l.length := by
  induction l with
  | nil => intro _; simp [num]
  | cons b l ih =>
    intro h
    have h1 := h b (by simp)
    have h2 := ih fun c hc => h c (by simp [hc])
    simp only [num, List.length_cons, Int.pow_succ]
    omega

theorem num_digs (k : Nat) : ∀ n : Int, num (digs n k) = n % 256 ^ k := by
  induction k with
  | zero => intro n; simp [digs, num]
  | succ k ih =>
    intro n
    simp only [digs, num, ih]
    have e : (256 : Int) ^ (k + 1) = 256 * 256 ^ k := by rw [Int.pow_succ, Int.mul_comm]
    rw [e]
    generalize hm : (256 : Int) ^ k = m
    have hp : 0 < m := by rw [← hm]; exact Int.pow_pos (by decide)
    rw [Int.emod_def n (256 * m), Int.emod_def (n / 256) m, ← Int.ediv_ediv_of_nonneg (by decide)]
    have := Int.mul_assoc 256 m (n / 256 / m)
    have := Int.mul_ediv_add_emod n 256
    have := Int.mul_sub 256 (n / 256) (m * (n / 256 / m))
    omega

theorem digs_num (l : List Int) : (∀ b ∈ l, 0 ≤ b ∧ b < 256) → digs (num l) l.length = l := by
  induction l with
  | nil => intro _; rfl
  | cons b l ih =>
    intro h
    have h1 := h b (by simp)
    have h2 := ih fun c hc => h c (by simp [hc])
    simp only [num, List.length_cons, digs]
    rw [show (b + 256 * num l) / 256 = num l from by omega, h2, show (b + 256 * num l) % 256 = b from by omega]

/-- A text's bytes as numbers. -/
def nums (s : ByteArray) : List Int := s.data.toList.map fun b => (b.toNat : Int)

theorem nums_length (s : ByteArray) : (nums s).length = s.size := by show _ = s.data.size; simp [nums]
theorem nums_bd (s : ByteArray) : ∀ b ∈ nums s, 0 ≤ b ∧ b < 256 := by
  intro b h
  simp only [nums, List.mem_map] at h
  obtain ⟨c, _, rfl⟩ := h
  have := c.toNat_lt
  omega

theorem strOfNums_nums (s : ByteArray) : strOfNums (nums s) = s := by
  cases s with
  | mk d => simp [strOfNums, nums, Function.comp_def]

theorem nums_strOfNums (l : List Int) (h : ∀ b ∈ l, 0 ≤ b ∧ b < 256) : nums (strOfNums l) = l := by
  simp only [nums, strOfNums_data, List.map_map]
  conv => rhs; rw [← List.map_id l]
  refine List.map_congr_left fun b hb => ?_
  have := h b hb
  simp only [Function.comp, id]
  rw [UInt8.toNat_ofNat_of_lt' (by show b.toNat < 2 ^ 8; omega)]
  omega

/-- The k bytes of s at a. -/
def part (s : ByteArray) (a k : Nat) : List Int := ((nums s).drop a).take k

theorem part_length (s : ByteArray) (a k : Nat) (h : a + k ≤ s.size) : (part s a k).length = k := by
  simp [part, nums_length]; omega
theorem part_bd (s : ByteArray) (a k : Nat) : ∀ b ∈ part s a k, 0 ≤ b ∧ b < 256 := fun b h => nums_bd s b (List.mem_of_mem_drop (List.mem_of_mem_take h))
theorem part_snoc (s : ByteArray) (a k : Nat) (h : a + k < s.size) : part s a (k + 1) = part s a k ++ [(s[a + k].toNat : Int)] := by
  unfold part
  rw [List.take_succ_eq_append_getElem (by simp [nums_length]; omega)]
  simp [nums]
  rfl

/-- What is put: so many bytes of n. -/
def putS (n k : Int) : ByteArray := if szB k = true then strOfNums (digs n k.toNat) else ByteArray.empty

/-- Whether so many bytes stand in s at a. -/
def okB (s : ByteArray) (a k : Int) : Bool := szB k && decide (0 ≤ a) && decide (a ≤ (s.size : Int) - k)

/-- What is got. -/
def getN (s : ByteArray) (a k : Int) : Int := if okB s a k = true then num (part s a.toNat k.toNat) else 0

end Go.Proofs.YtjclklppnkoehaaGreatDoor.Oc
