/-
  Plain mathematics of layer 5: lists that are the same, part by part.
-/
namespace Go.Proofs.YtjclklppnkoehaaGreatDoor

/-- Are two lists the same, element by element? -/
def allB {α : Type} (r : α → α → Bool) : List α → List α → Bool
  | [], [] => true
  | x :: xs, y :: ys => r x y && allB r xs ys
  | _, _ => false

theorem allB_iff {α : Type} (r : α → α → Bool) (xs ys : List α) : allB r xs ys = true ↔ xs.length = ys.length ∧ ∀ (k : Nat) (x y : α), xs[k]? = some x → ys[k]? = some y → r x y = true := by
  induction xs generalizing ys with
  | nil => cases ys <;> simp [allB]
  | cons x xs ih =>
    cases ys with
    | nil => simp [allB]
    | cons y ys =>
      simp only [allB, Bool.and_eq_true, ih, List.length_cons, Nat.add_right_cancel_iff]
      constructor
      · rintro ⟨h1, h2, h3⟩
        refine ⟨h2, fun k a b ha hb => ?_⟩
        cases k with
        | zero => simp at ha hb; subst ha hb; exact h1
        | succ k => exact h3 k a b (by simpa using ha) (by simpa using hb)
      · rintro ⟨h2, h3⟩
        exact ⟨h3 0 x y rfl rfl, h2, fun k a b ha hb => h3 (k + 1) a b (by simpa using ha) (by simpa using hb)⟩
theorem allB_len {α : Type} {r : α → α → Bool} {xs ys : List α} (h : xs.length ≠ ys.length) : allB r xs ys = false := by
  rw [Bool.eq_false_iff]; intro h2; exact h ((allB_iff r xs ys).1 h2).1
theorem allB_miss {α : Type} {r : α → α → Bool} {xs ys : List α} {k : Nat} {x y : α} (hx : xs[k]? = some x) (hy : ys[k]? = some y) (h : r x y = false) : allB r xs ys = false := by
  rw [Bool.eq_false_iff]; intro h2
  have := ((allB_iff r xs ys).1 h2).2 k x y hx hy
  rw [h] at this; cases this
theorem allB_full {α : Type} {r : α → α → Bool} {xs ys : List α} (hl : xs.length = ys.length) (h : ∀ (k : Nat) (x y : α), xs[k]? = some x → ys[k]? = some y → r x y = true) : allB r xs ys = true := (allB_iff r xs ys).2 ⟨hl, h⟩
theorem allB_refl {α : Type} {r : α → α → Bool} (hr : ∀ x, r x x = true) (xs : List α) : allB r xs xs = true :=
  allB_full rfl fun _ x y hx hy => by rw [hx] at hy; injection hy with hy; subst hy; exact hr x
theorem allB_symm {α : Type} {r : α → α → Bool} (hr : ∀ x y, r x y = r y x) (xs ys : List α) : allB r xs ys = allB r ys xs := by
  rw [Bool.eq_iff_iff, allB_iff, allB_iff]
  exact ⟨fun h => ⟨h.1.symm, fun k x y hx hy => by rw [hr]; exact h.2 k y x hy hx⟩, fun h => ⟨h.1.symm, fun k x y hx hy => by rw [hr]; exact h.2 k y x hy hx⟩⟩

/-- Where two lists are the same up to k. -/
def SoFar {α : Type} (r : α → α → Bool) (xs ys : List α) (k : Nat) : Prop := ∀ (j : Nat) (x y : α), j < k → xs[j]? = some x → ys[j]? = some y → r x y = true
theorem SoFar.zero {α : Type} (r : α → α → Bool) (xs ys : List α) : SoFar r xs ys 0 := fun _ _ _ h => absurd h (Nat.not_lt_zero _)
theorem SoFar.step {α : Type} {r : α → α → Bool} {xs ys : List α} {k : Nat} {x y : α} (h : SoFar r xs ys k) (hx : xs[k]? = some x) (hy : ys[k]? = some y) (hr : r x y = true) : SoFar r xs ys (k + 1) := by
  intro j a b hj ha hb
  rcases Nat.lt_or_ge j k with hlt | hge
  · exact h j a b hlt ha hb
  · obtain rfl : j = k := by omega
    rw [hx] at ha; rw [hy] at hb; injection ha with ha; injection hb with hb; subst ha hb; exact hr
theorem SoFar.full {α : Type} {r : α → α → Bool} {xs ys : List α} {k : Nat} (h : SoFar r xs ys k) (hk : xs.length ≤ k) (hl : xs.length = ys.length) : allB r xs ys = true :=
  allB_full hl fun j x y hx hy => h j x y (by have := (List.getElem?_eq_some_iff.1 hx).1; omega) hx hy

end Go.Proofs.YtjclklppnkoehaaGreatDoor
