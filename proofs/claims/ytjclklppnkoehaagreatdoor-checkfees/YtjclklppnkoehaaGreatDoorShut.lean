/-
  Copies of lists, read again.
-/
import Derived.Test.YtjclklppnkoehaaGreatDoorClone
namespace Go.Proofs.YtjclklppnkoehaaGreatDoor
open Go.RowKit
set_option maxRecDepth 100000

theorem Outs.source {w : World} {lo hi : Nat} {A : Option Addr} {n c : Nat} {xs : List OutD} (h : Outs w lo hi (.slice A n c) xs) :
    n = 0 ∨ ∃ b off, A = some ⟨b, off, none⟩ ∧ ∀ j, j < n * 2 → ∃ u, w.cell? ⟨b, off + j, none⟩ = some u ∧ u.oneCell' = true := by
  obtain ⟨A', c', hv, hc, h⟩ := h
  injection hv with hA hn
  subst hA hn
  rcases h with rfl | ⟨b, off, rfl, h1, h2, h⟩
  · exact .inl rfl
  · refine .inr ⟨b, off, rfl, fun j hj => ?_⟩
    obtain ⟨x, hx⟩ : ∃ x, xs[j / 2]? = some x := ⟨_, List.getElem?_eq_getElem (by omega)⟩
    obtain ⟨c0, c1⟩ := h _ x hx
    rcases Nat.mod_two_eq_zero_or_one j with e | e
    · rw [show off + j / 2 * 2 = off + j from by omega] at c0
      exact ⟨_, c0, rfl⟩
    · rw [show off + j / 2 * 2 + 1 = off + j from by omega] at c1
      exact ⟨_, c1, rfl⟩
theorem Strs.source {w : World} {lo hi : Nat} {A : Option Addr} {n c : Nat} {xs : List ByteArray} (h : Strs w lo hi (.slice A n c) xs) :
    n = 0 ∨ ∃ b off, A = some ⟨b, off, none⟩ ∧ ∀ j, j < n * 1 → ∃ u, w.cell? ⟨b, off + j, none⟩ = some u ∧ u.oneCell' = true := by
  obtain ⟨A', c', hv, hc, h⟩ := h
  injection hv with hA hn
  subst hA hn
  rcases h with rfl | ⟨b, off, rfl, h1, h2, h⟩
  · exact .inl rfl
  · refine .inr ⟨b, off, rfl, fun j hj => ?_⟩
    obtain ⟨x, hx⟩ : ∃ x, xs[j]? = some x := ⟨_, List.getElem?_eq_getElem (by omega)⟩
    exact ⟨_, h _ x hx, rfl⟩
theorem Ins.source {w : World} {lo hi : Nat} {A : Option Addr} {n c : Nat} {xs : List InD} (h : Ins w lo hi (.slice A n c) xs) :
    n = 0 ∨ ∃ b off, A = some ⟨b, off, none⟩ ∧ ∀ j, j < n * 4 → ∃ u, w.cell? ⟨b, off + j, none⟩ = some u ∧ u.oneCell' = true := by
  obtain ⟨A', c', hv, hc, h⟩ := h
  injection hv with hA hn
  subst hA hn
  rcases h with rfl | ⟨b, off, rfl, h1, h2, h⟩
  · exact .inl rfl
  · refine .inr ⟨b, off, rfl, fun j hj => ?_⟩
    obtain ⟨x, hx⟩ : ∃ x, xs[j / 4]? = some x := ⟨_, List.getElem?_eq_getElem (by omega)⟩
    obtain ⟨c0, c1, c2, v, c3, hs⟩ := h _ x hx
    obtain ⟨A1, m1, rfl, _⟩ := hs
    rcases (show j % 4 = 0 ∨ j % 4 = 1 ∨ j % 4 = 2 ∨ j % 4 = 3 from by omega) with e | e | e | e
    · rw [show off + j / 4 * 4 = off + j from by omega] at c0
      exact ⟨_, c0, rfl⟩
    · rw [show off + j / 4 * 4 + 1 = off + j from by omega] at c1
      exact ⟨_, c1, rfl⟩
    · rw [show off + j / 4 * 4 + 2 = off + j from by omega] at c2
      exact ⟨_, c2, rfl⟩
    · rw [show off + j / 4 * 4 + 3 = off + j from by omega] at c3
      exact ⟨_, c3, rfl⟩

theorem Cloned.outs {w w' : World} {lo hi : Nat} {A : Option Addr} {n c : Nat} {v' : Value} {xs : List OutD} (h : Outs w lo hi (.slice A n c) xs) (hc : Cloned w A n 2 59 v' w') : Outs w' w.heap.size w'.heap.size v' xs := by
  obtain ⟨A', c', hv, hcc, h⟩ := h
  injection hv with hA hn
  subst hA hn
  rcases hc with ⟨h0, A1, c1, rfl⟩ | ⟨b, off, g, cap, cur, rfl, rfl, hle, h1, h2, _, _, hcell⟩
  · have : xs = [] := List.eq_nil_of_length_eq_zero h0
    subst this
    exact ⟨A1, c1, rfl, by simp, .inl rfl⟩
  · refine ⟨_, cap, rfl, hle, ?_⟩
    rcases h with h | ⟨b', off', hA, _, _, h⟩
    · exact .inl h
    · injection hA with hA
      injection hA with e1 e2
      subst e1 e2
      refine .inr ⟨g, 0, rfl, h1, h2, fun k x hx => ?_⟩
      have hk := (List.getElem?_eq_some_iff.1 hx).1
      obtain ⟨c0, c1⟩ := h k x hx
      rw [Nat.zero_add]
      exact ⟨(hcell _ (by omega)).trans c0, (hcell _ (by omega)).trans c1⟩
theorem Cloned.strs {w w' : World} {lo hi : Nat} {A : Option Addr} {n c : Nat} {v' : Value} {xs : List ByteArray} (h : Strs w lo hi (.slice A n c) xs) (hc : Cloned w A n 1 9 v' w') : Strs w' w.heap.size w'.heap.size v' xs := by
  obtain ⟨A', c', hv, hcc, h⟩ := h
  injection hv with hA hn
  subst hA hn
  rcases hc with ⟨h0, A1, c1, rfl⟩ | ⟨b, off, g, cap, cur, rfl, rfl, hle, h1, h2, _, _, hcell⟩
  · have : xs = [] := List.eq_nil_of_length_eq_zero h0
    subst this
    exact ⟨A1, c1, rfl, by simp, .inl rfl⟩
  · refine ⟨_, cap, rfl, hle, ?_⟩
    rcases h with h | ⟨b', off', hA, _, _, h⟩
    · exact .inl h
    · injection hA with hA
      injection hA with e1 e2
      subst e1 e2
      refine .inr ⟨g, 0, rfl, h1, h2, fun k x hx => ?_⟩
      have hk := (List.getElem?_eq_some_iff.1 hx).1
      rw [Nat.zero_add]
      exact (hcell _ (by omega)).trans (h k x hx)

end Go.Proofs.YtjclklppnkoehaaGreatDoor
