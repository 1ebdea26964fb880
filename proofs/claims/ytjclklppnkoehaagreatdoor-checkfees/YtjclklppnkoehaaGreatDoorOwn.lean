/-
  Lists that a call builds by append: texts, inputs with texts of their own, outputs.
-/
import Derived.Test.YtjclklppnkoehaaGreatDoorTotal
import Derived.Test.YtjclklppnkoehaaGreatDoorShut
namespace Go.Proofs.YtjclklppnkoehaaGreatDoor
open Go.RowKit
set_option maxRecDepth 100000

/-- A row of the call's own, in a block ahead of top. -/
def OwnAt (w : World) (base top : Nat) (e : TypeId) (size : Nat) (v : Value) (n : Nat) (xs : List Value) : Prop := w.ownsRow base e size v n xs ∧ ∀ g, v.ownBlock = some g → g < top

/-- The blocks of element type e, from base on, ahead of top, are as they were. -/
def StayE (base top : Nat) (e : TypeId) (w w' : World) : Prop := ∀ b cur, base ≤ b → b < top → w.heap[b]? = some (.cells cur e (0, 0)) → w'.heap[b]? = w.heap[b]?

theorem StayE.of_below {base top : Nat} {e : TypeId} {B : Nat} {w w' : World} (h : Below B w w') (hB : top ≤ B) : StayE base top e w w' := fun b _ _ hb _ => h.block b (by omega)
theorem StayE.trans {base top : Nat} {e : TypeId} {a b c : World} (h : StayE base top e a b) (k : StayE base top e b c) : StayE base top e a c := fun i cur h1 h2 h3 => by
  have e1 := h i cur h1 h2 h3
  exact (k i cur h1 h2 (e1.trans h3)).trans e1
theorem StayE.alloc {base top : Nat} {e : TypeId} {w : World} (o : Obj) (h : top ≤ w.heap.size) : StayE base top e w (w.alloc o) := fun b _ _ hb _ => Below.heap_alloc _ _ _ (by omega)
theorem StayE.setCell {base top : Nat} {e : TypeId} {w : World} {p : Addr} (hp : p.block < base ∨ top ≤ p.block) (u : Value) : StayE base top e w (w.setCell p u) := fun b _ h1 h2 _ => Below.heap_setCell _ _ _ _ (by omega)
theorem StayE.drew {base top : Nat} {e : TypeId} {w w' : World} (h : StayE base top e w w') : StayE base top e w w'.drew := h
/-- Behind an append to a row of another element type. -/
theorem StayE.grown {base top : Nat} {e e2 : TypeId} {w w' : World} {base2 size n : Nat} {v : Value} {xs : List Value} (hown : w.ownsRow base2 e2 size v n xs) (hg : w.grownBy w' v.ownBlock) (ht : top ≤ w.heap.size) (hne : e ≠ e2) : StayE base top e w w' := by
  intro b cur _ hb hbl
  refine hg.block b (by omega) (fun h => ?_)
  rcases hown.2 with ⟨rfl, _⟩ | ⟨g, cap, cur2, rfl, _, hh, _⟩
  · simp [Value.ownBlock] at h
  · simp [Value.ownBlock] at h
    subst h
    rw [hbl] at hh
    injection hh with hh
    injection hh with _ ht
    exact hne ht

theorem OwnAt.keep {w w' : World} {base top top' : Nat} {e : TypeId} {size : Nat} {v : Value} {n : Nat} {xs : List Value} (h : OwnAt w base top e size v n xs) (hs : StayE base top e w w') (ht : top ≤ top') : OwnAt w' base top' e size v n xs := by
  obtain ⟨⟨h1, h2⟩, h3⟩ := h
  refine ⟨⟨h1, ?_⟩, fun g hg => by have := h3 g hg; omega⟩
  rcases h2 with h2 | ⟨g, cap, cur, rfl, hb, hh, r⟩
  · exact .inl h2
  · exact .inr ⟨g, cap, cur, rfl, hb, by rw [hs g cur hb (h3 g rfl) hh]; exact hh, r⟩
theorem OwnAt.of_own {w : World} {base : Nat} {e : TypeId} {size : Nat} {v : Value} {n : Nat} {xs : List Value} (h : w.ownsRow base e size v n xs) : OwnAt w base w.heap.size e size v n xs := by
  refine ⟨h, fun g hg => ?_⟩
  rcases h.2 with ⟨rfl, _⟩ | ⟨g', cap, cur, rfl, _, hh, _⟩
  · simp [Value.ownBlock] at hg
  · simp [Value.ownBlock] at hg
    subst hg
    rcases Nat.lt_or_ge g' w.heap.size with hlt | hge
    · exact hlt
    · rw [Array.getElem?_eq_none hge] at hh; cases hh
theorem OwnAt.base {w : World} {base base' top : Nat} {e : TypeId} {size : Nat} {v : Value} {n : Nat} {xs : List Value} (h : OwnAt w base top e size v n xs) (hb : base' ≤ base) : OwnAt w base' top e size v n xs := by
  obtain ⟨⟨h1, h2⟩, h3⟩ := h
  refine ⟨⟨h1, ?_⟩, h3⟩
  rcases h2 with h2 | ⟨g, cap, cur, rfl, hb', r⟩
  · exact .inl h2
  · exact .inr ⟨g, cap, cur, rfl, by omega, r⟩

/-- Texts in a row of the call's own. -/
def StrOwn (w : World) (base top : Nat) (u : Value) (ss : List ByteArray) : Prop := OwnAt w base top 9 1 u ss.length (ss.map Value.string)

theorem StrOwn.strs {w : World} {base top : Nat} {u : Value} {ss : List ByteArray} (h : StrOwn w base top u ss) : Strs w base top u ss := by
  obtain ⟨h, ht⟩ := h
  rcases h.2 with ⟨rfl, h0⟩ | ⟨g, cap, cur, rfl, hb, hg, hn, hm, hs, htk⟩
  · have : ss = [] := List.eq_nil_of_length_eq_zero h0
    subst this
    exact Strs.nil _ _ _
  · refine ⟨_, cap, rfl, hn, .inr ⟨g, 0, rfl, hb, ht g rfl, fun k s hk => ?_⟩⟩
    have := h.cells (g := g) rfl k (.string s) (by simp [hk])
    simpa [Addr.add_lit] using this

/-- Inputs in a row of the call's own, with texts of the call's own. -/
def InsOwn (w : World) (base top : Nat) (v : Value) (ys : List InD) : Prop :=
  ∃ cells : List Value, OwnAt w base top 68 4 v ys.length cells ∧ ∀ (j : Nat) (x : InD), ys[j]? = some x → cells[j * 4]? = some (.string x.id) ∧ cells[j * 4 + 1]? = some (.int .u32 x.ix) ∧ cells[j * 4 + 2]? = some (.int .u32 x.sq) ∧
    ∃ u, cells[j * 4 + 3]? = some u ∧ StrOwn w base top u x.wit

theorem InsOwn.keep {w w' : World} {base top top' : Nat} {v : Value} {ys : List InD} (h : InsOwn w base top v ys) (h43 : StayE base top 68 w w') (h9 : StayE base top 9 w w') (ht : top ≤ top') : InsOwn w' base top' v ys := by
  obtain ⟨cells, hown, hall⟩ := h
  refine ⟨cells, hown.keep h43 ht, fun j x hx => ?_⟩
  obtain ⟨c0, c1, c2, u, c3, hs⟩ := hall j x hx
  exact ⟨c0, c1, c2, u, c3, OwnAt.keep hs h9 ht⟩
theorem InsOwn.nil (w : World) (base top : Nat) : InsOwn w base top (.slice none 0 0) [] := ⟨[], ⟨World.ownsRow_nil w base 68 4, fun g h => by simp [Value.ownBlock] at h⟩, fun j x hx => by simp at hx⟩
theorem InsOwn.ins {w : World} {base top : Nat} {v : Value} {ys : List InD} (h : InsOwn w base top v ys) : Ins w base top v ys := by
  obtain ⟨cells, ⟨hown, ht⟩, hall⟩ := h
  rcases hown.2 with ⟨rfl, h0⟩ | ⟨g, cap, cur, rfl, hb, hg, hn, hm, hs, htk⟩
  · have : ys = [] := List.eq_nil_of_length_eq_zero h0
    subst this
    exact Ins.nil _ _ _
  · refine ⟨_, cap, rfl, hn, .inr ⟨g, 0, rfl, hb, ht g rfl, fun k x hk => ?_⟩⟩
    obtain ⟨c0, c1, c2, u, c3, hst⟩ := hall k x hk
    have hc := hown.cells (g := g) rfl
    have a0 := hc _ _ c0
    have a1 := hc _ _ c1
    have a2 := hc _ _ c2
    have a3 := hc _ _ c3
    simp only [Addr.add_lit, Nat.zero_add] at a0 a1 a2 a3
    rw [Nat.zero_add]
    exact ⟨a0, a1, a2, u, a3, hst.strs⟩
/-- One input more. -/
theorem InsOwn.push {w w1 : World} {base : Nat} {v v' : Value} {ys : List InD} {cells : List Value} {x : InD} {u : Value} (hown : w.ownsRow base 68 4 v ys.length cells)
    (hall : ∀ (j : Nat) (x : InD), ys[j]? = some x → cells[j * 4]? = some (.string x.id) ∧ cells[j * 4 + 1]? = some (.int .u32 x.ix) ∧ cells[j * 4 + 2]? = some (.int .u32 x.sq) ∧ ∃ u, cells[j * 4 + 3]? = some u ∧ StrOwn w base w.heap.size u x.wit)
    (hu : StrOwn w base w.heap.size u x.wit) (hgrow : w.grownBy w1 v.ownBlock) (hown' : w1.ownsRow base 68 4 v' (ys.length + 1) (cells ++ [.string x.id, .int .u32 x.ix, .int .u32 x.sq, u])) : InsOwn w1 base w1.heap.size v' (ys ++ [x]) := by
  have h9 : StayE base w.heap.size 9 w w1 := StayE.grown hown hgrow (Nat.le_refl _) (by decide)
  have hlen : cells.length = ys.length * 4 := hown.1
  refine ⟨_, by simpa using OwnAt.of_own hown', fun j y hy => ?_⟩
  by_cases hj : j < ys.length
  · rw [List.getElem?_append_left hj] at hy
    obtain ⟨c0, c1, c2, u', c3, hs⟩ := hall j y hy
    refine ⟨?_, ?_, ?_, u', ?_, OwnAt.keep hs h9 hgrow.size⟩
    · rw [List.getElem?_append_left (by omega)]; exact c0
    · rw [List.getElem?_append_left (by omega)]; exact c1
    · rw [List.getElem?_append_left (by omega)]; exact c2
    · rw [List.getElem?_append_left (by omega)]; exact c3
  · have hj2 : j = ys.length := by
      have := (List.getElem?_eq_some_iff.1 hy).1
      simp at this; omega
    subst hj2
    simp at hy
    subst hy
    refine ⟨?_, ?_, ?_, u, ?_, OwnAt.keep hu h9 hgrow.size⟩
    · rw [List.getElem?_append_right (by omega), hlen]; simp
    · rw [List.getElem?_append_right (by omega), hlen]; simp
    · rw [List.getElem?_append_right (by omega), hlen]; simp
    · rw [List.getElem?_append_right (by omega), hlen]; simp

/-- Outputs in a row of the call's own. -/
def OutsOwn (w : World) (base top : Nat) (v : Value) (ys : List OutD) : Prop :=
  ∃ cells : List Value, OwnAt w base top 59 2 v ys.length cells ∧ ∀ (j : Nat) (x : OutD), ys[j]? = some x → cells[j * 2]? = some (.int .i64 x.val) ∧ cells[j * 2 + 1]? = some (.string x.scr)

theorem OutsOwn.keep {w w' : World} {base top top' : Nat} {v : Value} {ys : List OutD} (h : OutsOwn w base top v ys) (h52 : StayE base top 59 w w') (ht : top ≤ top') : OutsOwn w' base top' v ys := by
  obtain ⟨cells, hown, hall⟩ := h
  exact ⟨cells, hown.keep h52 ht, hall⟩
theorem OutsOwn.nil (w : World) (base top : Nat) : OutsOwn w base top (.slice none 0 0) [] := ⟨[], ⟨World.ownsRow_nil w base 59 2, fun g h => by simp [Value.ownBlock] at h⟩, fun j x hx => by simp at hx⟩
theorem OutsOwn.outs {w : World} {base top : Nat} {v : Value} {ys : List OutD} (h : OutsOwn w base top v ys) : Outs w base top v ys := by
  obtain ⟨cells, ⟨hown, ht⟩, hall⟩ := h
  rcases hown.2 with ⟨rfl, h0⟩ | ⟨g, cap, cur, rfl, hb, hg, hn, hm, hs, htk⟩
  · have : ys = [] := List.eq_nil_of_length_eq_zero h0
    subst this
    exact Outs.nil _ _ _
  · refine ⟨_, cap, rfl, hn, .inr ⟨g, 0, rfl, hb, ht g rfl, fun k x hk => ?_⟩⟩
    obtain ⟨c0, c1⟩ := hall k x hk
    have hc := hown.cells (g := g) rfl
    have a0 := hc _ _ c0
    have a1 := hc _ _ c1
    simp only [Addr.add_lit, Nat.zero_add] at a0 a1
    rw [Nat.zero_add]
    exact ⟨a0, a1⟩
/-- One output more. -/
theorem OutsOwn.push {w1 : World} {base : Nat} {v' : Value} {ys : List OutD} {cells : List Value} {x : OutD} (hlen : cells.length = ys.length * 2)
    (hall : ∀ (j : Nat) (x : OutD), ys[j]? = some x → cells[j * 2]? = some (.int .i64 x.val) ∧ cells[j * 2 + 1]? = some (.string x.scr))
    (hown' : w1.ownsRow base 59 2 v' (ys.length + 1) (cells ++ [.int .i64 x.val, .string x.scr])) : OutsOwn w1 base w1.heap.size v' (ys ++ [x]) := by
  refine ⟨_, by simpa using OwnAt.of_own hown', fun j y hy => ?_⟩
  by_cases hj : j < ys.length
  · rw [List.getElem?_append_left hj] at hy
    obtain ⟨c0, c1⟩ := hall j y hy
    refine ⟨?_, ?_⟩
    · rw [List.getElem?_append_left (by omega)]; exact c0
    · rw [List.getElem?_append_left (by omega)]; exact c1
  · have hj2 : j = ys.length := by
      have := (List.getElem?_eq_some_iff.1 hy).1
      simp at this; omega
    subst hj2
    simp at hy
    subst hy
    refine ⟨?_, ?_⟩
    · rw [List.getElem?_append_right (by omega), hlen]; simp
    · rw [List.getElem?_append_right (by omega), hlen]; simp

end Go.Proofs.YtjclklppnkoehaaGreatDoor
