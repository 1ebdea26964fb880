/-
  Plain mathematics of TxSpends: the first place of a list, found from its end; an order of points in which one of two is first.
-/
import Derived.Test.YtdldhfhhhjenkaaFind
import Derived.Test.YtdldhfhhhjenkaaMap
namespace Go.Proofs.Ytdldhfhhhjenkaa

/-- The first place from j on at which p holds, and whether there is one. -/
def scan {α : Type} (p : α → Bool) (ys : List α) (j : Nat) : Int × Bool := match (ys.drop j).findIdx? p with | some k => (((j + k : Nat) : Int), true) | none => (0, false)

theorem scan_end {α : Type} (p : α → Bool) (ys : List α) : scan p ys ys.length = (0, false) := by simp [scan]
theorem scan_hit {α : Type} {p : α → Bool} {ys : List α} {j : Nat} {x : α} (hx : ys[j]? = some x) (hp : p x = true) : scan p ys j = ((j : Int), true) := by
  obtain ⟨hj, rfl⟩ := List.getElem?_eq_some_iff.1 hx
  unfold scan
  rw [List.drop_eq_getElem_cons hj, List.findIdx?_cons, hp]
  simp
theorem scan_miss {α : Type} {p : α → Bool} {ys : List α} {j : Nat} {x : α} (hx : ys[j]? = some x) (hp : p x = false) : scan p ys j = scan p ys (j + 1) := by
  obtain ⟨hj, rfl⟩ := List.getElem?_eq_some_iff.1 hx
  unfold scan
  rw [List.drop_eq_getElem_cons hj]
  simp only [List.findIdx?_cons, hp]
  cases h : (ys.drop (j + 1)).findIdx? p with
  | none => simp
  | some k => simp; omega
theorem scan_zero {α : Type} (p : α → Bool) (ys : List α) : scan p ys 0 = (if idxOf p ys < 0 then 0 else idxOf p ys, !decide (idxOf p ys < 0)) := by
  unfold scan idxOf
  rw [List.drop_zero]
  cases h : ys.findIdx? p with
  | none => simp
  | some k => simp; omega

theorem bytesLess_irrefl (a : List UInt8) : Op.bytesLess a a = false := by
  induction a with
  | nil => rfl
  | cons x r ih => simp [Op.bytesLess, ih]
theorem bytesLess_flip (a b : List UInt8) (h : a ≠ b) : Op.bytesLess a b ≠ Op.bytesLess b a := by
  induction a generalizing b with
  | nil =>
    cases b with
    | nil => exact absurd rfl h
    | cons y s => simp [Op.bytesLess]
  | cons x r ih =>
    cases b with
    | nil => simp [Op.bytesLess]
    | cons y s =>
      by_cases hxy : x = y
      · subst hxy
        have hrs : r ≠ s := fun e => h (by rw [e])
        have := ih s hrs
        simpa [Op.bytesLess] using this
      · have h1 : (x == y) = false := by simp [hxy]
        have h2 : (y == x) = false := by simp [Ne.symm hxy]
        simp only [Op.bytesLess, h1, h2, Bool.false_and, Bool.or_false]
        rcases UInt8.lt_or_lt_of_ne hxy with hlt | hlt
        · have hn : ¬ y < x := by rw [UInt8.lt_iff_toNat_lt] at *; omega
          simp [hlt, hn]
        · have hn : ¬ x < y := by rw [UInt8.lt_iff_toNat_lt] at *; omega
          simp [hlt, hn]

theorem less_self (a : ByteArray) (i : Int) : lessB a i a i = false := by simp [lessB]
theorem less_flip {a : ByteArray} {i : Int} {b : ByteArray} {j : Int} (h : ptB a i b j = false) : (lessB a i b j != lessB b j a i) = true := by
  cases hab : a.toList == b.toList
  · have hba : (b.toList == a.toList) = false := by
      simp at hab ⊢; exact fun e => hab e.symm
    rw [less_other hab, less_other hba]
    have := bytesLess_flip a.toList b.toList (by simpa using hab)
    simpa using this
  · have hba : (b.toList == a.toList) = true := by
      simp at hab ⊢; exact hab.symm
    rw [less_same hab, less_same hba]
    have hij : i ≠ j := by
      intro e
      subst e
      simp [ptB, hab] at h
    simp only [bne_iff_ne, ne_eq, decide_eq_decide]
    omega

end Go.Proofs.Ytdldhfhhhjenkaa
