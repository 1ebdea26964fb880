/-
  The document's Get of a lock.
-/
import Derived.Test.YtjclklppnkoehaaDoorLget
import Derived.Test.YtjclklppnkoehaaDoorRput
import Derived.OwnWalk
namespace Go.Proofs.YtjclklppnkoehaaDoor
open Go.RowKit
set_option maxRecDepth 100000

theorem first_byte {s : ByteArray} (h : 0 < s.size) : Oc.getN s 0 1 = (s[0].toNat : Int) := by
  have e := Oc.getN_yes (s := s) (a := 0) (k := 1) (by decide) (by omega)
  have e2 := Oc.part_step s 0 0 (by omega)
  have e3 : Oc.part s 0 0 = [] := by simp [Oc.part]
  rw [e3] at e2
  have e4 : Oc.getN s 0 1 = Oc.num (Oc.part s 0 1) := e
  rw [e4, e2]
  simp [Oc.num]

/-- The cells of branches. -/
def brC (x : BrD) : List Value := [.int .u16 x.tag, .int .u16 x.del, .int .u32 x.hgt]
def brsC (xs : List BrD) : List Value := xs.flatMap brC
theorem brsC_snoc (xs : List BrD) (x : BrD) : brsC (xs ++ [x]) = brsC xs ++ [.int .u16 x.tag, .int .u16 x.del, .int .u32 x.hgt] := by simp [brsC, brC]
theorem brsC_at {xs : List BrD} {k : Nat} {x : BrD} (h : xs[k]? = some x) : (brsC xs)[k * 3]? = some (.int .u16 x.tag) ∧ (brsC xs)[k * 3 + 1]? = some (.int .u16 x.del) ∧ (brsC xs)[k * 3 + 2]? = some (.int .u32 x.hgt) := by
  induction xs generalizing k with
  | nil => simp at h
  | cons y r ih =>
    have e : brsC (y :: r) = .int .u16 y.tag :: .int .u16 y.del :: .int .u32 y.hgt :: brsC r := rfl
    rw [e]
    cases k with
    | zero =>
      simp at h
      subst h
      exact ⟨rfl, rfl, rfl⟩
    | succ k =>
      have h' : r[k]? = some x := by simpa using h
      have := ih h'
      rw [show (k + 1) * 3 = k * 3 + 3 from by omega]
      exact this
theorem own_brs {w : World} {base : Nat} {v : Value} {xs : List BrD} (h : w.ownsRow base 69 3 v xs.length (brsC xs)) : Brs w base w.heap.size v xs := by
  rcases h.2 with ⟨rfl, h0⟩ | ⟨g, cap, cur, rfl, hb, hg, hn, hm, hs, htk⟩
  · have : xs = [] := List.eq_nil_of_length_eq_zero h0
    subst this
    exact Brs.nil _ _ _
  · have hlt : g < w.heap.size := by
      rcases Nat.lt_or_ge g w.heap.size with h' | h'
      · exact h'
      · rw [Array.getElem?_eq_none h'] at hg; cases hg
    refine ⟨_, cap, rfl, hn, .inr ⟨g, 0, rfl, hb, hlt, fun k x hx => ?_⟩⟩
    obtain ⟨a0, a1, a2⟩ := brsC_at hx
    have hc := h.cells (g := g) rfl
    have c0 := hc _ _ a0
    have c1 := hc _ _ a1
    have c2 := hc _ _ a2
    simp only [Addr.add_lit, Nat.zero_add] at c0 c1 c2
    rw [Nat.zero_add]
    exact ⟨c0, c1, c2⟩
theorem lk_own_form {w : World} {base : Nat} {e : TypeId} {size n : Nat} {v : Value} {xs : List Value} (h : w.ownsRow base e size v n xs) : ∃ A c, v = .slice A n c := by
  rcases h.2 with ⟨rfl, h0⟩ | ⟨g, cap, cur, rfl, _⟩
  · exact ⟨none, 0, by rw [h0]⟩
  · exact ⟨_, _, rfl⟩
theorem lk_own_block {w : World} {base : Nat} {e : TypeId} {size n : Nat} {v : Value} {xs : List Value} (h : w.ownsRow base e size v n xs) : ∀ k, v.ownBlock = some k → base ≤ k := by
  intro k hk
  rcases h.2 with ⟨rfl, _⟩ | ⟨g, cap, cur, rfl, hb, _⟩
  · simp [Value.ownBlock] at hk
  · simp [Value.ownBlock] at hk
    omega
theorem three_new (w : World) (a b c : Value) (t : TypeId) : ∀ j u, [a, b, c][j]? = some u → (w.alloc (.cells #[a, b, c] t)).cell? ((⟨w.heap.size, 0, none⟩ : Addr).add j) = some u := by
  intro j u hj
  rw [Addr.add_lit]
  match j, hj with
  | 0, hj => simp at hj; subst hj; simp
  | 1, hj => simp at hj; subst hj; simp
  | 2, hj => simp at hj; subst hj; simp
theorem gtL_at {s : ByteArray} {k : Nat} (h : k < gtN s) : (gtL s)[k]? = some (brG s (1 + k * 8)) := by
  unfold gtL
  rw [List.getElem?_map, List.getElem?_range h]
  rfl

end Go.Proofs.YtjclklppnkoehaaDoor
