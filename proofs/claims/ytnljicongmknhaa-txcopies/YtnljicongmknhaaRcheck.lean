/-
  May a transaction be: the document's Check.
-/
import Derived.Test.YtnljicongmknhaaRlong
namespace Go.Proofs.Ytnljicongmknhaa
open Go.RowKit

theorem two_of_count {α : Type} (p : α → Bool) (xs : List α) (h : 1 < xs.countP p) : ∃ (i k : Nat) (x y : α), k < i ∧ xs[i]? = some x ∧ xs[k]? = some y ∧ p x = true ∧ p y = true := by
  induction xs with
  | nil => simp at h
  | cons a r ih =>
    rw [List.countP_cons] at h
    by_cases ha : p a = true
    · rw [if_pos ha] at h
      have hpos : 0 < r.countP p := by omega
      obtain ⟨x, hx, hp⟩ := List.countP_pos_iff.1 hpos
      obtain ⟨j, hj⟩ := List.getElem?_of_mem hx
      exact ⟨j + 1, 0, x, a, by omega, by simpa using hj, rfl, hp, ha⟩
    · rw [if_neg ha] at h
      obtain ⟨i, k, x, y, hki, hx, hy, h1, h2⟩ := ih (by omega)
      exact ⟨i + 1, k + 1, x, y, by omega, by simpa using hx, by simpa using hy, h1, h2⟩
theorem count_of_two {α : Type} (p : α → Bool) (xs : List α) {i k : Nat} {x y : α} (hki : k < i) (hx : xs[i]? = some x) (hy : xs[k]? = some y) (h1 : p x = true) (h2 : p y = true) : 1 < xs.countP p := by
  induction xs generalizing i k with
  | nil => simp at hx
  | cons a r ih =>
    rw [List.countP_cons]
    obtain ⟨i, rfl⟩ : ∃ j, i = j + 1 := ⟨i - 1, by omega⟩
    simp only [List.getElem?_cons_succ] at hx
    cases k with
    | zero =>
      simp at hy
      subst hy
      have : 0 < r.countP p := List.countP_pos_iff.2 ⟨x, List.mem_of_getElem? hx, h1⟩
      rw [if_pos h2]; omega
    | succ k =>
      simp only [List.getElem?_cons_succ] at hy
      have := ih (by omega) hx hy
      omega

theorem twice_yes {xs : List InD} {i k : Nat} {x y : InD} (hki : k < i) (hx : xs[i]? = some x) (hy : xs[k]? = some y) (h : ptB x.id x.ix y.id y.ix = true) : twiceB xs = true := by
  refine List.any_eq_true.2 ⟨x, List.mem_of_getElem? hx, ?_⟩
  unfold moreB cnt
  refine decide_eq_true (count_of_two _ xs hki hx hy ?_ ?_)
  · exact (ptB_iff _ _ _ _).2 ⟨rfl, rfl⟩
  · obtain ⟨e1, e2⟩ := (ptB_iff _ _ _ _).1 h
    exact (ptB_iff _ _ _ _).2 ⟨e1.symm, e2.symm⟩
theorem twice_no {xs : List InD} (h : ∀ (i k : Nat) (x y : InD), k < i → xs[i]? = some x → xs[k]? = some y → ptB x.id x.ix y.id y.ix = false) : twiceB xs = false := by
  rw [Bool.eq_false_iff]
  intro h2
  obtain ⟨z, _, hz⟩ := List.any_eq_true.1 h2
  unfold moreB cnt at hz
  obtain ⟨i, k, x, y, hki, hx, hy, p1, p2⟩ := two_of_count _ _ (of_decide_eq_true hz)
  obtain ⟨e1, e2⟩ := (ptB_iff _ _ _ _).1 p1
  obtain ⟨f1, f2⟩ := (ptB_iff _ _ _ _).1 p2
  have := h i k x y hki hx hy
  rw [(ptB_iff _ _ _ _).2 ⟨e1.trans f1.symm, e2.trans f2.symm⟩] at this
  cases this

/-- No input up to i is From an output of one ahead of it. -/
def NoPair (xs : List InD) (n : Nat) : Prop := ∀ (i k : Nat) (x y : InD), i < n → k < i → xs[i]? = some x → xs[k]? = some y → ptB x.id x.ix y.id y.ix = false
theorem NoPair.zero (xs : List InD) : NoPair xs 0 := fun _ _ _ _ h => absurd h (Nat.not_lt_zero _)
/-- Input i is From no output of the first k. -/
def NoneOf (xs : List InD) (x : InD) (n : Nat) : Prop := ∀ (k : Nat) (y : InD), k < n → xs[k]? = some y → ptB x.id x.ix y.id y.ix = false
theorem NoneOf.zero (xs : List InD) (x : InD) : NoneOf xs x 0 := fun _ _ h => absurd h (Nat.not_lt_zero _)
theorem NoneOf.step {xs : List InD} {x y : InD} {k : Nat} (h : NoneOf xs x k) (hy : xs[k]? = some y) (hp : ptB x.id x.ix y.id y.ix = false) : NoneOf xs x (k + 1) := by
  intro j z hj hz
  by_cases e : j = k
  · subst e; rw [hy] at hz; injection hz with hz; subst hz; exact hp
  · exact h j z (by omega) hz
theorem NoPair.step {xs : List InD} {x : InD} {i : Nat} (h : NoPair xs i) (hx : xs[i]? = some x) (hn : NoneOf xs x i) : NoPair xs (i + 1) := by
  intro j k z y hj hk hz hy
  by_cases e : j = i
  · subst e; rw [hx] at hz; injection hz with hz; subst hz; exact hn k y hk hy
  · exact h j k z y (by omega) hk hz hy
theorem NoPair.twice {xs : List InD} {n : Nat} (h : NoPair xs n) (hn : xs.length ≤ n) : twiceB xs = false :=
  twice_no fun i k x y hki hx hy => h i k x y (by have := (List.getElem?_eq_some_iff.1 hx).1; omega) hki hx hy

theorem inR_no1 {n : Nat} (h : n < 1) : inR n 1 256 = false := by unfold inR; rw [decide_eq_false (by omega)]; rfl
theorem inR_no2 {n : Nat} (h : 256 < n) : inR n 1 256 = false := by unfold inR; rw [decide_eq_false (p := (n : Int) ≤ 256) (by omega)]; simp
theorem inR_yes {n : Nat} (h1 : 1 ≤ n) (h2 : n ≤ 256) : inR n 1 256 = true := by unfold inR; rw [decide_eq_true (by omega), decide_eq_true (by omega)]; rfl
theorem amiss_size {al : Bool} {a : ByteArray} {i : Int} (h : a.size ≠ 32) : amissB al a i = true := by unfold amissB; simp [h]
theorem amiss_base {a : ByteArray} {i : Int} (h : a.size = 32) : amissB false a i = baseB a i := by unfold amissB; simp [h]
theorem amiss_alone {a : ByteArray} {i : Int} (h : a.size = 32) : amissB true a i = false := by unfold amissB; simp [h]

end Go.Proofs.Ytnljicongmknhaa
