/-
  What a transaction pays in all: the program's Total and the document's.
-/
import Derived.Test.YtmabfccieoaalaaSum
import Derived.Test.YtmabfccieoaalaaClone
import Derived.Test.YtmabfccieoaalaaEq
import Derived.Deep.OwnRows
namespace Go.Proofs.Ytmabfccieoaalaa
open Go.RowKit

/-- The Values of outputs. -/
def vals (xs : List OutD) : List Int := xs.map (·.val)
/-- What all outputs pay together, and the error beside it. -/
def totalD (xs : List OutD) : Int × Int := sumFrom 0 (vals xs)

theorem vals_get {xs : List OutD} {k : Nat} {x : OutD} (h : xs[k]? = some x) : (vals xs).getD k 0 = x.val := by
  simp [vals, List.getD_eq_getElem?_getD, h]

/-- What a row of numbers holds behind k of them. -/
def fillF (xs : List OutD) (k : Nat) : Nat → Value := fun i => .int .i64 (if i < k then (vals xs).getD i 0 else 0)

theorem fill_step {w : World} {g n : Nat} {xs : List OutD} {k : Nat} {x : OutD} (hx : xs[k]? = some x) (h : w.rowIs g 3 n (fillF xs k)) : (w.setCell ⟨g, k, none⟩ (.int .i64 x.val)).rowIs g 3 n (fillF xs (k + 1)) := by
  refine (h.set k (.int .i64 x.val)).congr fun i _ => ?_
  unfold fillF
  by_cases e : i = k
  · subst e
    rw [if_pos rfl, if_pos (by omega), vals_get hx]
  · rw [if_neg e]
    by_cases h2 : i < k
    · rw [if_pos h2, if_pos (by omega)]
    · rw [if_neg h2, if_neg (by omega)]

theorem fill_ints {w : World} {g : Nat} {xs : List OutD} (h : w.rowIs g 3 xs.length (fillF xs xs.length)) : Ints w w.heap.size (some ⟨g, 0, none⟩) (vals xs) := by
  refine .inr ⟨g, 0, rfl, h.lt, fun k hk => ?_⟩
  have hk : k < xs.length := by simpa [vals] using hk
  rw [Nat.zero_add, h.cell hk]
  unfold fillF
  rw [if_pos hk]

/-- A counter and a row that is filled, as the loop's head has them. -/
def FillHead (xs : List OutD) (w : World) (g gg : Nat) (s : Value) (wr : World) : Prop :=
  ∃ k : Nat, k ≤ xs.length ∧ xs.length - k ≤ gg ∧ s = .int .i64 k ∧ wr.rowIs g 3 xs.length (fillF xs k) ∧ Below w.heap.size w wr

/-- A counter and a slice that grows, as the loop's head has them. -/
def GrowHead (xs : List OutD) (w : World) (gg : Nat) (v s : Value) (wr : World) : Prop :=
  ∃ k : Nat, k ≤ xs.length ∧ xs.length - k ≤ gg ∧ s = .int .i64 k ∧ wr.ownsRow w.heap.size 3 1 v k (((vals xs).take k).map (Value.int .i64)) ∧ Below w.heap.size w wr

theorem own_ints {w : World} {base : Nat} {v : Value} {zs : List Int} (h : w.ownsRow base 3 1 v zs.length (zs.map (Value.int .i64))) : ∃ A c, v = .slice A zs.length c ∧ Ints w w.heap.size A zs := by
  rcases h.2 with ⟨rfl, h0⟩ | ⟨g, cap, cur, rfl, hb, hg, hn, _, _, ht⟩
  · have : zs = [] := List.eq_nil_of_length_eq_zero h0
    subst this
    exact ⟨none, 0, rfl, .inl rfl⟩
  · refine ⟨_, cap, rfl, .inr ⟨g, 0, rfl, ?_, fun k hk => ?_⟩⟩
    · rcases Nat.lt_or_ge g w.heap.size with hlt | hge
      · exact hlt
      · rw [Array.getElem?_eq_none hge] at hg; cases hg
    · have h1 := World.ownsRow.cellAt h k (by omega)
      rw [Nat.zero_add, h1]
      simp [List.getD_eq_getElem?_getD, hk]
theorem own_block {w : World} {base : Nat} {e : TypeId} {size n : Nat} {v : Value} {xs : List Value} (h : w.ownsRow base e size v n xs) : ∀ k, v.ownBlock = some k → base ≤ k := by
  intro k hk
  rcases h.2 with ⟨rfl, _⟩ | ⟨g, cap, cur, rfl, hb, _⟩
  · simp [Value.ownBlock] at hk
  · simp [Value.ownBlock] at hk; omega
theorem one_new (w : World) (v : Value) (t : TypeId) : ∀ j u, [v][j]? = some u → (w.alloc (.cells #[v] t)).cell? ((⟨w.heap.size, 0, none⟩ : Addr).add j) = some u := by
  intro j u hj
  match j, hj with
  | 0, hj => simp at hj; subst hj; simp [Addr.add]
theorem vals_step {xs : List OutD} {k : Nat} {x : OutD} (h : xs[k]? = some x) : ((vals xs).take (k + 1)).map (Value.int .i64) = ((vals xs).take k).map (Value.int .i64) ++ [.int .i64 x.val] := by
  obtain ⟨hk, rfl⟩ := List.getElem?_eq_some_iff.1 h
  have hk' : k < (vals xs).length := by simpa [vals] using hk
  rw [List.take_succ_eq_append_getElem hk']
  simp [vals]

end Go.Proofs.Ytmabfccieoaalaa
