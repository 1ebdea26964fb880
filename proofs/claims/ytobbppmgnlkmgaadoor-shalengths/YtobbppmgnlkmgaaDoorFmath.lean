/-
  Digests: whole blocks and a padded rest, and the padded whole: plain mathematics.
-/
import Derived.Test.YtobbppmgnlkmgaaDoorAbls
import Derived.Test.YtobbppmgnlkmgaaDoorPadd
namespace Go.Proofs.YtobbppmgnlkmgaaDoor

theorem runs_hsh (p : List Int) : ∀ j, hsh p j = runs start p j
  | 0 => rfl
  | j + 1 => by simp only [hsh, runs, runs_hsh p j]
theorem runs_left (h p q : List Int) : ∀ j, 64 * j ≤ p.length → runs h (p ++ q) j = runs h p j
  | 0, _ => rfl
  | j + 1, hj => by
    simp only [runs]
    rw [runs_left h p q j (by omega), List.drop_append_of_le_length (by omega), List.take_append_of_le_length (by rw [List.length_drop]; omega)]
theorem runs_right (h p q : List Int) (a : Nat) (ha : p.length = 64 * a) : ∀ b, runs h (p ++ q) (a + b) = runs (runs h p a) q b
  | 0 => runs_left h p q a (by omega)
  | b + 1 => by
    show blk (runs h (p ++ q) (a + b)) (((p ++ q).drop (64 * (a + b))).take 64) = _
    rw [runs_right h p q a ha b, show 64 * (a + b) = p.length + 64 * b by omega, ← List.drop_drop, List.drop_left]
    rfl

theorem nums_str (l : List Int) (h : ∀ b ∈ l, 0 ≤ b ∧ b < 256) : nums (strOfNums l) = l := by
  induction l with
  | nil => rfl
  | cons a l ih =>
    have ha := h a (by simp)
    have := ih fun b hb => h b (by simp [hb])
    simp only [nums, strOfNums] at this ⊢
    simp only [List.map_cons, List.cons.injEq]
    refine ⟨?_, this⟩
    simp
    omega

/-- A padded text: whole blocks of it ahead, the rest padded behind. -/
theorem pad_parts (p r : List Int) (a : Nat) (ha : p.length = 64 * a) (n : Int) (hn : n = ((p ++ r).length : Int) * 8) : padL (p ++ r) = p ++ padR r n := by
  unfold padL padR
  rw [← hn, show zs (p ++ r).length = zs r.length by rw [List.length_append, ha]; unfold zs; omega]
  simp [List.append_assoc]
theorem padR_bd (l : List Int) (n : Int) (h : ∀ b ∈ l, 0 ≤ b ∧ b < 256) : ∀ b ∈ padR l n, 0 ≤ b ∧ b < 256 := by
  intro b hb
  simp only [padR, List.mem_append, List.mem_singleton, List.mem_replicate] at hb
  rcases hb with ((hb | hb) | hb) | hb
  · exact h b hb
  · omega
  · omega
  · exact tail8_bd _ _ b hb
theorem padR_length (l : List Int) (n : Int) : (padR l n).length = l.length + 9 + zs l.length := by simp [padR, tail8_length]; omega
theorem padR_64 (l : List Int) (n : Int) : (padR l n).length % 64 = 0 := by
  have := zs_end l.length
  rw [padR_length]
  omega

/-- The digest, by whole blocks of the text and the rest padded. -/
theorem digest_parts (s x y z : ByteArray) (W : Nat) (hW : W ≤ s.size) (h64 : W % 64 = 0) (hx : x = s.extract 0 W) (hy : y = s.extract W s.size) (hz : z = strOfNums (padR (nums y) ((s.size : Int) * 8))) :
    z.size % 64 = 0 ∧ z.size ≤ y.size + 72 ∧ strOfNums (wbytes (runs (runs start (nums x) (x.size / 64)) (nums z) (z.size / 64))) = digest s := by
  have ex : nums x = (nums s).take W := by rw [hx, nums_extract]; simp
  have ey : nums y = (nums s).drop W := by rw [hy, nums_extract, List.take_of_length_le (by rw [List.length_drop, nums_length]; exact Nat.le_refl _)]
  have es : nums s = nums x ++ nums y := by rw [ex, ey, List.take_append_drop]
  have ez : nums z = padR (nums y) ((s.size : Int) * 8) := by rw [hz]; exact nums_str _ (padR_bd _ _ (nums_bd y))
  have sx : x.size = W := by rw [hx, ByteArray.size_extract]; omega
  have sz : z.size = (padR (nums y) ((s.size : Int) * 8)).length := by rw [hz, strOfNums_size]
  have z64 := padR_64 (nums y) ((s.size : Int) * 8)
  have lx : (nums x).length = 64 * (W / 64) := by rw [nums_length, sx]; omega
  have hp : padL (nums s) = nums x ++ padR (nums y) ((s.size : Int) * 8) := by
    rw [es]
    exact pad_parts _ _ (W / 64) lx _ (by rw [← es, nums_length])
  refine ⟨by rw [sz]; exact z64, ?_, ?_⟩
  · rw [sz, padR_length, nums_length]
    unfold zs
    omega
  unfold digest
  rw [runs_hsh, hp, ez, sz, sx]
  rw [show (nums x ++ padR (nums y) ((s.size : Int) * 8)).length / 64 = W / 64 + (padR (nums y) ((s.size : Int) * 8)).length / 64 by rw [List.length_append, lx]; omega]
  rw [runs_right start (nums x) _ (W / 64) lx]
end Go.Proofs.YtobbppmgnlkmgaaDoor
