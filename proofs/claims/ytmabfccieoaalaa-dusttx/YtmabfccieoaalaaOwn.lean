/-
  Lists that a call builds by append: texts, inputs with texts of their own, outputs.
  Lists of the call's own that are written: what is known of them whatever is written.
-/
import Derived.Test.YtmabfccieoaalaaTotal
import Derived.Test.YtmabfccieoaalaaShut

namespace Go.Proofs.Ytmabfccieoaalaa
open Go.RowKit

/-- A row of the call's own, in a block ahead of top. -/
def OwnAt (w : World) (base top : Nat) (e : TypeId) (size : Nat) (v : Value) (n : Nat) (xs : List Value) : Prop := w.ownsRow base e size v n xs ∧ ∀ g, v.ownBlock = some g → g < top

/-- The blocks of element type e, from base on, ahead of top, are as they were. -/
def StayE (base top : Nat) (e : TypeId) (w w' : World) : Prop := ∀ b cur, base ≤ b → b < top → w.heap[b]? = some (.cells cur e (0, 0)) → w'.heap[b]? = w.heap[b]?

theorem StayE.of_below {base top : Nat} {e : TypeId} {B : Nat} {w w' : World} (h : Below B w w') (hB : top ≤ B) : StayE base top e w w' := fun b _ _ hb _ => h.block b (by omega)
theorem StayE.trans {base top : Nat} {e : TypeId} {a b c : World} (h : StayE base top e a b) (k : StayE base top e b c) : StayE base top e a c := fun i cur h1 h2 h3 => by
  have e1 := h i cur h1 h2 h3
  exact (k i cur h1 h2 (e1.trans h3)).trans e1
theorem StayE.alloc {base top : Nat} {e : TypeId} {w : World} (o : Obj) (h : top ≤ w.heap.size) : StayE base top e w (w.alloc o) := fun b _ _ hb _ => Below.heap_alloc _ _ _ (by omega)
theorem StayE.setCell {base top : Nat} {e : TypeId} {w : World} {p : Addr} (hp : p.block < base ∨ top ≤ p.block) (u : Value) : StayE base top e w (w.setCell p u) := fun b _ h1 h2 _ => Below.heap_setCell _ _ _ _ (by omega)
theorem StayE.drew {base top : Nat} {e : TypeId} {w w' : World} (h : StayE base top e w w') : StayE base top e w w'.drew := h
/-- Behind an append to a row of another element type. -/
theorem StayE.grown {base top : Nat} {e e2 : TypeId} {w w' : World} {base2 size n : Nat} {v : Value} {xs : List Value} (hown : w.ownsRow base2 e2 size v n xs) (hg : w.grownBy w' v.ownBlock) (ht : top ≤ w.heap.size) (hne : e ≠ e2) : StayE base top e w w' := by
  intro b cur _ hb hbl
  refine hg.block b (by omega) (fun h => ?_)
  rcases hown.2 with ⟨rfl, _⟩ | ⟨g, cap, cur2, rfl, _, hh, _⟩
  · simp [Value.ownBlock] at h
  · simp [Value.ownBlock] at h
    subst h
    rw [hbl] at hh
    injection hh with hh
    injection hh with _ ht
    exact hne ht

theorem OwnAt.keep {w w' : World} {base top top' : Nat} {e : TypeId} {size : Nat} {v : Value} {n : Nat} {xs : List Value} (h : OwnAt w base top e size v n xs) (hs : StayE base top e w w') (ht : top ≤ top') : OwnAt w' base top' e size v n xs := by
  obtain ⟨⟨h1, h2⟩, h3⟩ := h
  refine ⟨⟨h1, ?_⟩, fun g hg => by have := h3 g hg; omega⟩
  rcases h2 with h2 | ⟨g, cap, cur, rfl, hb, hh, r⟩
  · exact .inl h2
  · exact .inr ⟨g, cap, cur, rfl, hb, by rw [hs g cur hb (h3 g rfl) hh]; exact hh, r⟩
theorem OwnAt.of_own {w : World} {base : Nat} {e : TypeId} {size : Nat} {v : Value} {n : Nat} {xs : List Value} (h : w.ownsRow base e size v n xs) : OwnAt w base w.heap.size e size v n xs := by
  refine ⟨h, fun g hg => ?_⟩
  rcases h.2 with ⟨rfl, _⟩ | ⟨g', cap, cur, rfl, _, hh, _⟩
  · simp [Value.ownBlock] at hg
  · simp [Value.ownBlock] at hg
    subst hg
    rcases Nat.lt_or_ge g' w.heap.size with hlt | hge
    · exact hlt
    · rw [Array.getElem?_eq_none hge] at hh; cases hh
theorem OwnAt.base {w : World} {base base' top : Nat} {e : TypeId} {size : Nat} {v : Value} {n : Nat} {xs : List Value} (h : OwnAt w base top e size v n xs) (hb : base' ≤ base) : OwnAt w base' top e size v n xs := by
  obtain ⟨⟨h1, h2⟩, h3⟩ := h
  refine ⟨⟨h1, ?_⟩, h3⟩
  rcases h2 with h2 | ⟨g, cap, cur, rfl, hb', r⟩
  · exact .inl h2
  · exact .inr ⟨g, cap, cur, rfl, by omega, r⟩

/-- Texts in a row of the call's own. -/
def StrOwn (w : World) (base top : Nat) (u : Value) (ss : List ByteArray) : Prop := OwnAt w base top 9 1 u ss.length (ss.map Value.string)

theorem StrOwn.strs {w : World} {base top : Nat} {u : Value} {ss : List ByteArray} (h : StrOwn w base top u ss) : Strs w base top u ss := by
  obtain ⟨h, ht⟩ := h
  rcases h.2 with ⟨rfl, h0⟩ | ⟨g, cap, cur, rfl, hb, hg, hn, hm, hs, htk⟩
  · have : ss = [] := List.eq_nil_of_length_eq_zero h0
    subst this
    exact Strs.nil _ _ _
  · refine ⟨_, cap, rfl, hn, .inr ⟨g, 0, rfl, hb, ht g rfl, fun k s hk => ?_⟩⟩
    have := h.cells (g := g) rfl k (.string s) (by simp [hk])
    simpa [Addr.add_lit] using this

/-- Inputs in a row of the call's own, with texts of the call's own. -/
def InsOwn (w : World) (base top : Nat) (v : Value) (ys : List InD) : Prop :=
  ∃ cells : List Value, OwnAt w base top 48 4 v ys.length cells ∧ ∀ (j : Nat) (x : InD), ys[j]? = some x → cells[j * 4]? = some (.string x.id) ∧ cells[j * 4 + 1]? = some (.int .u32 x.ix) ∧ cells[j * 4 + 2]? = some (.int .u32 x.sq) ∧
    ∃ u, cells[j * 4 + 3]? = some u ∧ StrOwn w base top u x.wit

theorem InsOwn.keep {w w' : World} {base top top' : Nat} {v : Value} {ys : List InD} (h : InsOwn w base top v ys) (h43 : StayE base top 48 w w') (h9 : StayE base top 9 w w') (ht : top ≤ top') : InsOwn w' base top' v ys := by
  obtain ⟨cells, hown, hall⟩ := h
  refine ⟨cells, hown.keep h43 ht, fun j x hx => ?_⟩
  obtain ⟨c0, c1, c2, u, c3, hs⟩ := hall j x hx
  exact ⟨c0, c1, c2, u, c3, OwnAt.keep hs h9 ht⟩
theorem InsOwn.nil (w : World) (base top : Nat) : InsOwn w base top (.slice none 0 0) [] := ⟨[], ⟨World.ownsRow_nil w base 48 4, fun g h => by simp [Value.ownBlock] at h⟩, fun j x hx => by simp at hx⟩
theorem InsOwn.ins {w : World} {base top : Nat} {v : Value} {ys : List InD} (h : InsOwn w base top v ys) : Ins w base top v ys := by
  obtain ⟨cells, ⟨hown, ht⟩, hall⟩ := h
  rcases hown.2 with ⟨rfl, h0⟩ | ⟨g, cap, cur, rfl, hb, hg, hn, hm, hs, htk⟩
  · have : ys = [] := List.eq_nil_of_length_eq_zero h0
    subst this
    exact Ins.nil _ _ _
  · refine ⟨_, cap, rfl, hn, .inr ⟨g, 0, rfl, hb, ht g rfl, fun k x hk => ?_⟩⟩
    obtain ⟨c0, c1, c2, u, c3, hst⟩ := hall k x hk
    have hc := hown.cells (g := g) rfl
    have a0 := hc _ _ c0
    have a1 := hc _ _ c1
    have a2 := hc _ _ c2
    have a3 := hc _ _ c3
    simp only [Addr.add_lit, Nat.zero_add] at a0 a1 a2 a3
    rw [Nat.zero_add]
    exact ⟨a0, a1, a2, u, a3, hst.strs⟩
/-- One input more. -/
theorem InsOwn.push {w w1 : World} {base : Nat} {v v' : Value} {ys : List InD} {cells : List Value} {x : InD} {u : Value} (hown : w.ownsRow base 48 4 v ys.length cells)
    (hall : ∀ (j : Nat) (x : InD), ys[j]? = some x → cells[j * 4]? = some (.string x.id) ∧ cells[j * 4 + 1]? = some (.int .u32 x.ix) ∧ cells[j * 4 + 2]? = some (.int .u32 x.sq) ∧ ∃ u, cells[j * 4 + 3]? = some u ∧ StrOwn w base w.heap.size u x.wit)
    (hu : StrOwn w base w.heap.size u x.wit) (hgrow : w.grownBy w1 v.ownBlock) (hown' : w1.ownsRow base 48 4 v' (ys.length + 1) (cells ++ [.string x.id, .int .u32 x.ix, .int .u32 x.sq, u])) : InsOwn w1 base w1.heap.size v' (ys ++ [x]) := by
  have h9 : StayE base w.heap.size 9 w w1 := StayE.grown hown hgrow (Nat.le_refl _) (by decide)
  have hlen : cells.length = ys.length * 4 := hown.1
  refine ⟨_, by simpa using OwnAt.of_own hown', fun j y hy => ?_⟩
  by_cases hj : j < ys.length
  · rw [List.getElem?_append_left hj] at hy
    obtain ⟨c0, c1, c2, u', c3, hs⟩ := hall j y hy
    refine ⟨?_, ?_, ?_, u', ?_, OwnAt.keep hs h9 hgrow.size⟩
    · rw [List.getElem?_append_left (by omega)]; exact c0
    · rw [List.getElem?_append_left (by omega)]; exact c1
    · rw [List.getElem?_append_left (by omega)]; exact c2
    · rw [List.getElem?_append_left (by omega)]; exact c3
  · have hj2 : j = ys.length := by
      have := (List.getElem?_eq_some_iff.1 hy).1
      simp at this; omega
    subst hj2
    simp at hy
    subst hy
    refine ⟨?_, ?_, ?_, u, ?_, OwnAt.keep hu h9 hgrow.size⟩
    · rw [List.getElem?_append_right (by omega), hlen]; simp
    · rw [List.getElem?_append_right (by omega), hlen]; simp
    · rw [List.getElem?_append_right (by omega), hlen]; simp
    · rw [List.getElem?_append_right (by omega), hlen]; simp

/-- Outputs in a row of the call's own. -/
def OutsOwn (w : World) (base top : Nat) (v : Value) (ys : List OutD) : Prop :=
  ∃ cells : List Value, OwnAt w base top 29 2 v ys.length cells ∧ ∀ (j : Nat) (x : OutD), ys[j]? = some x → cells[j * 2]? = some (.int .i64 x.val) ∧ cells[j * 2 + 1]? = some (.string x.scr)

theorem OutsOwn.keep {w w' : World} {base top top' : Nat} {v : Value} {ys : List OutD} (h : OutsOwn w base top v ys) (h52 : StayE base top 29 w w') (ht : top ≤ top') : OutsOwn w' base top' v ys := by
  obtain ⟨cells, hown, hall⟩ := h
  exact ⟨cells, hown.keep h52 ht, hall⟩
theorem OutsOwn.nil (w : World) (base top : Nat) : OutsOwn w base top (.slice none 0 0) [] := ⟨[], ⟨World.ownsRow_nil w base 29 2, fun g h => by simp [Value.ownBlock] at h⟩, fun j x hx => by simp at hx⟩
theorem OutsOwn.outs {w : World} {base top : Nat} {v : Value} {ys : List OutD} (h : OutsOwn w base top v ys) : Outs w base top v ys := by
  obtain ⟨cells, ⟨hown, ht⟩, hall⟩ := h
  rcases hown.2 with ⟨rfl, h0⟩ | ⟨g, cap, cur, rfl, hb, hg, hn, hm, hs, htk⟩
  · have : ys = [] := List.eq_nil_of_length_eq_zero h0
    subst this
    exact Outs.nil _ _ _
  · refine ⟨_, cap, rfl, hn, .inr ⟨g, 0, rfl, hb, ht g rfl, fun k x hk => ?_⟩⟩
    obtain ⟨c0, c1⟩ := hall k x hk
    have hc := hown.cells (g := g) rfl
    have a0 := hc _ _ c0
    have a1 := hc _ _ c1
    simp only [Addr.add_lit, Nat.zero_add] at a0 a1
    rw [Nat.zero_add]
    exact ⟨a0, a1⟩
/-- One output more. -/
theorem OutsOwn.push {w1 : World} {base : Nat} {v' : Value} {ys : List OutD} {cells : List Value} {x : OutD} (hlen : cells.length = ys.length * 2)
    (hall : ∀ (j : Nat) (x : OutD), ys[j]? = some x → cells[j * 2]? = some (.int .i64 x.val) ∧ cells[j * 2 + 1]? = some (.string x.scr))
    (hown' : w1.ownsRow base 29 2 v' (ys.length + 1) (cells ++ [.int .i64 x.val, .string x.scr])) : OutsOwn w1 base w1.heap.size v' (ys ++ [x]) := by
  refine ⟨_, by simpa using OwnAt.of_own hown', fun j y hy => ?_⟩
  by_cases hj : j < ys.length
  · rw [List.getElem?_append_left hj] at hy
    obtain ⟨c0, c1⟩ := hall j y hy
    refine ⟨?_, ?_⟩
    · rw [List.getElem?_append_left (by omega)]; exact c0
    · rw [List.getElem?_append_left (by omega)]; exact c1
  · have hj2 : j = ys.length := by
      have := (List.getElem?_eq_some_iff.1 hy).1
      simp at this; omega
    subst hj2
    simp at hy
    subst hy
    refine ⟨?_, ?_⟩
    · rw [List.getElem?_append_right (by omega), hlen]; simp
    · rw [List.getElem?_append_right (by omega), hlen]; simp

end Go.Proofs.Ytmabfccieoaalaa

namespace Go.Proofs.Ytmabfccieoaalaa
open Go.RowKit

/-- m texts of at most M bytes, in a row that may be written, of a block from lo on, ahead of hi. -/
def MutS (w : World) (lo hi M : Nat) (u : Value) (m : Nat) : Prop :=
  ∃ (A : Option Addr) (c : Nat), u = .slice A m c ∧ m ≤ c ∧ (m = 0 ∨ ∃ g cur, A = some ⟨g, 0, none⟩ ∧ lo ≤ g ∧ g < hi ∧ w.heap[g]? = some (.cells cur 9 (0, 0)) ∧ ∀ j, j < m → ∃ s : ByteArray, w.cell? ⟨g, j, none⟩ = some (.string s) ∧ s.size ≤ M)

/-- n inputs in a row that may be written, with such texts. -/
def MutI (w : World) (lo hi M : Nat) (A : Option Addr) (n : Nat) : Prop :=
  n = 0 ∨ ∃ g cur, A = some ⟨g, 0, none⟩ ∧ lo ≤ g ∧ g < hi ∧ w.heap[g]? = some (.cells cur 48 (0, 0)) ∧ ∀ j, j < n → (∃ s : ByteArray, w.cell? ⟨g, j * 4, none⟩ = some (.string s)) ∧ (∃ q, w.cell? ⟨g, j * 4 + 1, none⟩ = some (.int .u32 q)) ∧ (∃ q, w.cell? ⟨g, j * 4 + 2, none⟩ = some (.int .u32 q)) ∧
    ∃ u m, w.cell? ⟨g, j * 4 + 3, none⟩ = some u ∧ m ≤ 8 ∧ MutS w lo hi M u m

theorem MutS.of_own {w : World} {base top M : Nat} {u : Value} {ss : List ByteArray} (h : StrOwn w base top u ss) (hM : ∀ s ∈ ss, s.size ≤ M) : MutS w base top M u ss.length := by
  obtain ⟨h, ht⟩ := h
  rcases h.2 with ⟨rfl, h0⟩ | ⟨g, cap, cur, rfl, hb, hg, hn, hm, hs, htk⟩
  · rw [h0]
    exact ⟨none, 0, rfl, Nat.le_refl _, .inl rfl⟩
  · refine ⟨_, cap, rfl, hn, .inr ⟨g, cur, rfl, hb, ht g rfl, hg, fun j hj => ?_⟩⟩
    have hc := h.cells (g := g) rfl j (.string ss[j]) (by simp [hj])
    rw [Addr.add_lit, Nat.zero_add] at hc
    exact ⟨_, hc, hM _ (List.getElem_mem hj)⟩
theorem MutS.more {w : World} {lo hi M M' : Nat} {u : Value} {m : Nat} (h : MutS w lo hi M u m) (hM : M ≤ M') : MutS w lo hi M' u m := by
  obtain ⟨A, c, rfl, hc, h⟩ := h
  refine ⟨A, c, rfl, hc, ?_⟩
  rcases h with h | ⟨g, cur, rfl, h1, h2, hg, h⟩
  · exact .inl h
  · exact .inr ⟨g, cur, rfl, h1, h2, hg, fun j hj => by obtain ⟨s, a, b⟩ := h j hj; exact ⟨s, a, by omega⟩⟩
theorem MutS.keep {w w' : World} {lo hi M : Nat} {u : Value} {m : Nat} (h : MutS w lo hi M u m) (hk : StayE lo hi 9 w w') : MutS w' lo hi M u m := by
  obtain ⟨A, c, rfl, hc, h⟩ := h
  refine ⟨A, c, rfl, hc, ?_⟩
  rcases h with h | ⟨g, cur, rfl, h1, h2, hg, h⟩
  · exact .inl h
  · have e := hk g cur h1 h2 hg
    refine .inr ⟨g, cur, rfl, h1, h2, e.trans hg, fun j hj => ?_⟩
    obtain ⟨s, a, b⟩ := h j hj
    exact ⟨s, (World.cell?_of_block (w := w) (a := ⟨g, j, none⟩) e).trans a, b⟩

theorem block_set {w : World} {g o : Nat} {cur : Array Value} {e : TypeId} (u : Value) (h : w.heap[g]? = some (.cells cur e (0, 0))) : (w.setCell ⟨g, o, none⟩ u).heap[g]? = some (.cells (cur.setIfInBounds o u) e (0, 0)) := by
  simp [World.setCell, Array.getElem?_modify, h]
theorem cell_set {w : World} {g o j : Nat} {v : Value} (u : Value) (h : w.cell? ⟨g, j, none⟩ = some v) : (w.setCell ⟨g, o, none⟩ u).cell? ⟨g, j, none⟩ = some (if j = o then u else v) := by
  by_cases e : j = o
  · subst e; rw [if_pos rfl]; exact World.cell?_setCell_same _ _ _ h
  · rw [if_neg e]; exact (World.cell?_setCell_other _ _ _ _ (fun h => e (by injection h with _ h; exact h.symm))).trans h

/-- A text of a row is written. -/
theorem MutS.set {w : World} {lo hi M M' : Nat} {u : Value} {m : Nat} (h : MutS w lo hi M u m) (hM : M ≤ M') {g o : Nat} {s : ByteArray} (hs : s.size ≤ M') : MutS (w.setCell ⟨g, o, none⟩ (.string s)) lo hi M' u m := by
  obtain ⟨A, c, rfl, hc, h⟩ := h
  refine ⟨A, c, rfl, hc, ?_⟩
  rcases h with h | ⟨g', cur, rfl, h1, h2, hg, h⟩
  · exact .inl h
  · by_cases e : g' = g
    · subst e
      refine .inr ⟨g', _, rfl, h1, h2, block_set _ hg, fun j hj => ?_⟩
      obtain ⟨r, a, b⟩ := h j hj
      have := cell_set (o := o) (.string s) a
      by_cases ej : j = o
      · rw [if_pos ej] at this; exact ⟨s, this, hs⟩
      · rw [if_neg ej] at this; exact ⟨r, this, by omega⟩
    · have e2 := Below.heap_setCell w ⟨g, o, none⟩ (.string s) g' e
      refine .inr ⟨g', cur, rfl, h1, h2, e2.trans hg, fun j hj => ?_⟩
      obtain ⟨r, a, b⟩ := h j hj
      exact ⟨r, (World.cell?_of_block (w := w) (a := ⟨g', j, none⟩) e2).trans a, by omega⟩
theorem blk_type {w : World} {g g' : Nat} {c c' : Array Value} {e e' : TypeId} (h : w.heap[g]? = some (.cells c e (0, 0))) (h' : w.heap[g']? = some (.cells c' e' (0, 0))) (hne : e ≠ e') : g ≠ g' := by
  rintro rfl
  rw [h] at h'
  injection h' with h'
  injection h' with _ ht
  exact hne ht

theorem MutI.of_own {w : World} {base top : Nat} {A : Option Addr} {c n : Nat} {ys : List InD} (h : InsOwn w base top (.slice A n c) ys) (hok : ∀ y ∈ ys, y.Ok) : MutI w base top 128 A ys.length := by
  obtain ⟨cells, ⟨hown, ht⟩, hall⟩ := h
  rcases hown.2 with ⟨_, h0⟩ | ⟨g, cap, cur, hv, hb, hg, hn, hm, hs, htk⟩
  · exact .inl h0
  · injection hv with hA
    subst hA
    refine .inr ⟨g, cur, rfl, hb, ht g rfl, hg, fun j hj => ?_⟩
    obtain ⟨c0, c1, c2, u, c3, hst⟩ := hall j ys[j] (List.getElem?_eq_getElem hj)
    have hc := hown.cells (g := g) rfl
    have a0 := hc _ _ c0
    have a1 := hc _ _ c1
    have a2 := hc _ _ c2
    have a3 := hc _ _ c3
    simp only [Addr.add_lit, Nat.zero_add] at a0 a1 a2 a3
    have ho := hok _ (List.getElem_mem hj)
    exact ⟨⟨_, a0⟩, ⟨_, a1⟩, ⟨_, a2⟩, u, _, a3, ho.2.2.2.2.2.1, MutS.of_own hst ho.2.2.2.2.2.2⟩
theorem MutI.keep {w w' : World} {lo hi M : Nat} {A : Option Addr} {n : Nat} (h : MutI w lo hi M A n) (h43 : StayE lo hi 48 w w') (h9 : StayE lo hi 9 w w') : MutI w' lo hi M A n := by
  rcases h with h | ⟨g, cur, rfl, h1, h2, hg, h⟩
  · exact .inl h
  · have e := h43 g cur h1 h2 hg
    have ec := fun o => World.cell?_of_block (w := w) (w' := w') (a := ⟨g, o, none⟩) e
    refine .inr ⟨g, cur, rfl, h1, h2, e.trans hg, fun j hj => ?_⟩
    obtain ⟨⟨s, a0⟩, ⟨q, a1⟩, ⟨r, a2⟩, u, m, a3, hm, hs⟩ := h j hj
    exact ⟨⟨s, (ec _).trans a0⟩, ⟨q, (ec _).trans a1⟩, ⟨r, (ec _).trans a2⟩, u, m, (ec _).trans a3, hm, hs.keep h9⟩
theorem MutI.more {w : World} {lo hi M M' : Nat} {A : Option Addr} {n : Nat} (h : MutI w lo hi M A n) (hM : M ≤ M') : MutI w lo hi M' A n := by
  rcases h with h | ⟨g, cur, rfl, h1, h2, hg, h⟩
  · exact .inl h
  · refine .inr ⟨g, cur, rfl, h1, h2, hg, fun j hj => ?_⟩
    obtain ⟨a0, a1, a2, u, m, a3, hm, hs⟩ := h j hj
    exact ⟨a0, a1, a2, u, m, a3, hm, hs.more hM⟩
/-- A Sequence is written. -/
theorem MutI.setSeq {w : World} {lo hi M : Nat} {g n k : Nat} (h : MutI w lo hi M (some ⟨g, 0, none⟩) n) (q' : Int) : MutI (w.setCell ⟨g, k * 4 + 2, none⟩ (.int .u32 q')) lo hi M (some ⟨g, 0, none⟩) n := by
  rcases h with h | ⟨g', cur, hA, h1, h2, hg, h⟩
  · exact .inl h
  · injection hA with hA
    injection hA with e1
    subst e1
    refine .inr ⟨g, _, rfl, h1, h2, block_set _ hg, fun j hj => ?_⟩
    obtain ⟨⟨s, a0⟩, ⟨q, a1⟩, ⟨r, a2⟩, u, m, a3, hm, hs⟩ := h j hj
    have b0 := cell_set (o := k * 4 + 2) (.int .u32 q') a0
    have b1 := cell_set (o := k * 4 + 2) (.int .u32 q') a1
    have b2 := cell_set (o := k * 4 + 2) (.int .u32 q') a2
    have b3 := cell_set (o := k * 4 + 2) (.int .u32 q') a3
    rw [if_neg (by omega)] at b0 b1 b3
    refine ⟨⟨s, b0⟩, ⟨q, b1⟩, ?_, u, m, b3, hm, hs.keep (fun b c _ _ hb => Below.heap_setCell _ _ _ _ (blk_type hb hg (by decide)))⟩
    by_cases ej : j * 4 + 2 = k * 4 + 2
    · rw [if_pos ej] at b2; exact ⟨q', b2⟩
    · rw [if_neg ej] at b2; exact ⟨r, b2⟩
/-- A text of a Witness is written. -/
theorem MutI.setStr {w : World} {lo hi M M' : Nat} {A : Option Addr} {n : Nat} (h : MutI w lo hi M A n) (hM : M ≤ M') {g o : Nat} {c9 : Array Value} (h9 : w.heap[g]? = some (.cells c9 9 (0, 0))) {s : ByteArray} (hs : s.size ≤ M') : MutI (w.setCell ⟨g, o, none⟩ (.string s)) lo hi M' A n := by
  rcases h with h | ⟨g', cur, rfl, h1, h2, hg, h⟩
  · exact .inl h
  · have hne : g' ≠ g := blk_type hg h9 (by decide)
    have e := Below.heap_setCell w ⟨g, o, none⟩ (.string s) g' hne
    have ec := fun o' => World.cell?_of_block (w := w) (w' := w.setCell ⟨g, o, none⟩ (.string s)) (a := ⟨g', o', none⟩) e
    refine .inr ⟨g', cur, rfl, h1, h2, e.trans hg, fun j hj => ?_⟩
    obtain ⟨⟨r, a0⟩, ⟨q, a1⟩, ⟨q', a2⟩, u, m, a3, hm, hst⟩ := h j hj
    exact ⟨⟨r, (ec _).trans a0⟩, ⟨q, (ec _).trans a1⟩, ⟨q', (ec _).trans a2⟩, u, m, (ec _).trans a3, hm, hst.set hM hs⟩
theorem free_of {w : World} {g : Nat} {cur : Array Value} {e : TypeId} (h : w.heap[g]? = some (.cells cur e (0, 0))) (o : Nat) : w.frozen? ⟨g, o, none⟩ = false := by simp [World.frozen?, h]

/-- n outputs in a row that may be written. -/
def MutO (w : World) (lo hi : Nat) (A : Option Addr) (n : Nat) : Prop :=
  n = 0 ∨ ∃ g cur, A = some ⟨g, 0, none⟩ ∧ lo ≤ g ∧ g < hi ∧ w.heap[g]? = some (.cells cur 29 (0, 0)) ∧ ∀ j, j < n → (∃ q, w.cell? ⟨g, j * 2, none⟩ = some (.int .i64 q)) ∧ (∃ s : ByteArray, w.cell? ⟨g, j * 2 + 1, none⟩ = some (.string s))
theorem MutO.of_own {w : World} {base top : Nat} {A : Option Addr} {c n : Nat} {ys : List OutD} (h : OutsOwn w base top (.slice A n c) ys) : MutO w base top A ys.length := by
  obtain ⟨cells, ⟨hown, ht⟩, hall⟩ := h
  rcases hown.2 with ⟨_, h0⟩ | ⟨g, cap, cur, hv, hb, hg, hn, hm, hs, htk⟩
  · exact .inl h0
  · injection hv with hA
    subst hA
    refine .inr ⟨g, cur, rfl, hb, ht g rfl, hg, fun j hj => ?_⟩
    obtain ⟨c0, c1⟩ := hall j ys[j] (List.getElem?_eq_getElem hj)
    have hc := hown.cells (g := g) rfl
    have a0 := hc _ _ c0
    have a1 := hc _ _ c1
    simp only [Addr.add_lit, Nat.zero_add] at a0 a1
    exact ⟨⟨_, a0⟩, ⟨_, a1⟩⟩
theorem MutO.keep {w w' : World} {lo hi : Nat} {A : Option Addr} {n : Nat} (h : MutO w lo hi A n) (h52 : StayE lo hi 29 w w') : MutO w' lo hi A n := by
  rcases h with h | ⟨g, cur, rfl, h1, h2, hg, h⟩
  · exact .inl h
  · have e := h52 g cur h1 h2 hg
    have ec := fun o => World.cell?_of_block (w := w) (w' := w') (a := ⟨g, o, none⟩) e
    refine .inr ⟨g, cur, rfl, h1, h2, e.trans hg, fun j hj => ?_⟩
    obtain ⟨⟨q, a0⟩, ⟨s, a1⟩⟩ := h j hj
    exact ⟨⟨q, (ec _).trans a0⟩, ⟨s, (ec _).trans a1⟩⟩
/-- A Script is written. -/
theorem MutO.setScr {w : World} {lo hi : Nat} {g n k : Nat} (h : MutO w lo hi (some ⟨g, 0, none⟩) n) (s' : ByteArray) : MutO (w.setCell ⟨g, k * 2 + 1, none⟩ (.string s')) lo hi (some ⟨g, 0, none⟩) n := by
  rcases h with h | ⟨g', cur, hA, h1, h2, hg, h⟩
  · exact .inl h
  · injection hA with hA
    injection hA with e1
    subst e1
    refine .inr ⟨g, _, rfl, h1, h2, block_set _ hg, fun j hj => ?_⟩
    obtain ⟨⟨q, a0⟩, ⟨s, a1⟩⟩ := h j hj
    have b0 := cell_set (o := k * 2 + 1) (.string s') a0
    have b1 := cell_set (o := k * 2 + 1) (.string s') a1
    rw [if_neg (by omega)] at b0
    refine ⟨⟨q, b0⟩, ?_⟩
    by_cases ej : j * 2 + 1 = k * 2 + 1
    · rw [if_pos ej] at b1; exact ⟨s', b1⟩
    · rw [if_neg ej] at b1; exact ⟨s, b1⟩

end Go.Proofs.Ytmabfccieoaalaa
