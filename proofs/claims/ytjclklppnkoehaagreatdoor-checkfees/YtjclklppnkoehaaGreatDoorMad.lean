/-
  Inputs that a call makes one by one: their row, their Witnesses; an input in a box.
  The transaction that a statement speaks of.
-/
import Derived.Test.YtjclklppnkoehaaGreatDoorHld
import Derived.Test.YtjclklppnkoehaaGreatDoorCut
import Derived.Deep.AppendLies
import Derived.Test.YtjclklppnkoehaaGreatDoorRsg

namespace Go.Proofs.YtjclklppnkoehaaGreatDoor
open Go.RowKit
set_option maxRecDepth 100000

/-- Inputs in a row of the call's own, their Witnesses in blocks from base on, none of them the row's. -/
def InsMade (w : World) (base top : Nat) (v : Value) (ys : List InD) : Prop :=
  ∃ cells : List Value, OwnAt w base top 68 4 v ys.length cells ∧ ∀ (j : Nat) (x : InD), ys[j]? = some x → cells[j * 4]? = some (.string x.id) ∧ cells[j * 4 + 1]? = some (.int .u32 x.ix) ∧ cells[j * 4 + 2]? = some (.int .u32 x.sq) ∧
    ∃ (u : Value) (lo hi : Nat), cells[j * 4 + 3]? = some u ∧ Strs w lo hi u x.wit ∧ base ≤ lo ∧ hi ≤ top ∧ ∀ g, v.ownBlock = some g → g < lo ∨ hi ≤ g
theorem InsMade.nil (w : World) (base top : Nat) : InsMade w base top (.slice none 0 0) [] := ⟨[], ⟨World.ownsRow_nil w base 68 4, fun g h => by simp [Value.ownBlock] at h⟩, fun j x hx => by simp at hx⟩
theorem InsMade.keep {w w' : World} {base top top' : Nat} {v : Value} {ys : List InD} (h : InsMade w base top v ys) (hk : Kept base top w w') (ht : top ≤ top') : InsMade w' base top' v ys := by
  obtain ⟨cells, hown, hall⟩ := h
  refine ⟨cells, hown.keep (fun b _ h1 h2 _ => hk b h1 h2) ht, fun j x hx => ?_⟩
  obtain ⟨c0, c1, c2, u, lo, hi, c3, hs, h1, h2, h3⟩ := hall j x hx
  exact ⟨c0, c1, c2, u, lo, hi, c3, hs.keep (hk.mono h1 h2), h1, by omega, h3⟩
theorem InsMade.ins {w : World} {base top : Nat} {v : Value} {ys : List InD} (h : InsMade w base top v ys) : Ins w base top v ys := by
  obtain ⟨cells, ⟨hown, ht⟩, hall⟩ := h
  rcases hown.2 with ⟨rfl, h0⟩ | ⟨g, cap, cur, rfl, hb, hg, hn, hm, hs, htk⟩
  · have : ys = [] := List.eq_nil_of_length_eq_zero h0
    subst this
    exact Ins.nil _ _ _
  · refine ⟨_, cap, rfl, hn, .inr ⟨g, 0, rfl, hb, ht g rfl, fun k x hk => ?_⟩⟩
    obtain ⟨c0, c1, c2, u, lo, hi, c3, hst, h1, h2, _⟩ := hall k x hk
    have hc := hown.cells (g := g) rfl
    have a0 := hc _ _ c0
    have a1 := hc _ _ c1
    have a2 := hc _ _ c2
    have a3 := hc _ _ c3
    simp only [Addr.add_lit, Nat.zero_add] at a0 a1 a2 a3
    rw [Nat.zero_add]
    exact ⟨a0, a1, a2, u, a3, hst.wide h1 h2⟩
/-- One input more. -/
theorem InsMade.push {w w1 : World} {base : Nat} {v : Value} {ys : List InD} {cells : List Value} {x : InD} {u : Value} {g cap lo hi : Nat} {o : Obj} (hown : w.ownsRow base 68 4 v ys.length cells)
    (hall : ∀ (j : Nat) (x : InD), ys[j]? = some x → cells[j * 4]? = some (.string x.id) ∧ cells[j * 4 + 1]? = some (.int .u32 x.ix) ∧ cells[j * 4 + 2]? = some (.int .u32 x.sq) ∧
      ∃ (u : Value) (lo hi : Nat), cells[j * 4 + 3]? = some u ∧ Strs w lo hi u x.wit ∧ base ≤ lo ∧ hi ≤ w.heap.size ∧ ∀ g, v.ownBlock = some g → g < lo ∨ hi ≤ g)
    (hu : Strs w lo hi u x.wit) (hlo : base ≤ lo) (hhi : hi ≤ w.heap.size) (hg : ∀ g, v.ownBlock = some g → g < lo ∨ hi ≤ g)
    (hgrow : (w.alloc o).grownBy w1 v.ownBlock) (hwas : v.ownBlock = some g ∨ g = w.heap.size + 1)
    (hown' : w1.ownsRow base 68 4 (.slice (some ⟨g, 0, none⟩) (ys.length + 1) cap) (ys.length + 1) (cells ++ [.string x.id, .int .u32 x.ix, .int .u32 x.sq, u])) : InsMade w1 base w1.heap.size (.slice (some ⟨g, 0, none⟩) (ys.length + 1) cap) (ys ++ [x]) := by
  have hlen : cells.length = ys.length * 4 := hown.1
  have hsz : w.heap.size < w1.heap.size := by have := hgrow.size; simp at this; omega
  have hK : ∀ lo hi, hi ≤ w.heap.size → (∀ g, v.ownBlock = some g → g < lo ∨ hi ≤ g) → Kept lo hi w w1 := by
    intro lo hi h1 h2 b hb1 hb2
    rw [hgrow.block b (by simp; omega) (fun h => by have := h2 b h.symm; omega)]
    exact Below.heap_alloc _ _ _ (by omega)
  have hN : ∀ lo hi, hi ≤ w.heap.size → (∀ g, v.ownBlock = some g → g < lo ∨ hi ≤ g) → ∀ g', (Value.slice (some ⟨g, 0, none⟩) (ys.length + 1) cap).ownBlock = some g' → g' < lo ∨ hi ≤ g' := by
    intro lo hi h1 h2 g' hg'
    simp [Value.ownBlock] at hg'
    subst hg'
    rcases hwas with h | h
    · exact h2 _ h
    · omega
  refine ⟨_, by simpa using OwnAt.of_own hown', fun j y hy => ?_⟩
  by_cases hj : j < ys.length
  · rw [List.getElem?_append_left hj] at hy
    obtain ⟨c0, c1, c2, u', lo', hi', c3, hs, h1, h2, h3⟩ := hall j y hy
    refine ⟨?_, ?_, ?_, u', lo', hi', ?_, hs.keep (hK lo' hi' h2 h3), h1, by omega, hN lo' hi' h2 h3⟩
    · rw [List.getElem?_append_left (by omega)]; exact c0
    · rw [List.getElem?_append_left (by omega)]; exact c1
    · rw [List.getElem?_append_left (by omega)]; exact c2
    · rw [List.getElem?_append_left (by omega)]; exact c3
  · have hj2 : j = ys.length := by
      have := (List.getElem?_eq_some_iff.1 hy).1
      simp at this; omega
    subst hj2
    simp at hy
    subst hy
    refine ⟨?_, ?_, ?_, u, lo, hi, ?_, hu.keep (hK lo hi hhi hg), hlo, by omega, hN lo hi hhi hg⟩
    · rw [List.getElem?_append_right (by omega), hlen]; simp
    · rw [List.getElem?_append_right (by omega), hlen]; simp
    · rw [List.getElem?_append_right (by omega), hlen]; simp
    · rw [List.getElem?_append_right (by omega), hlen]; simp

/-- An input in a box of its own. -/
def InBox (w : World) (g : Nat) (x : InD) (u : Value) : Prop := w.heap[g]? = some (.cells #[.string x.id, .int .u32 x.ix, .int .u32 x.sq, u] 68 (0, 0))
theorem InBox.cells {w : World} {g : Nat} {x : InD} {u : Value} (h : InBox w g x u) : w.cell? ⟨g, 0, none⟩ = some (.string x.id) ∧ w.cell? ⟨g, 1, none⟩ = some (.int .u32 x.ix) ∧ w.cell? ⟨g, 2, none⟩ = some (.int .u32 x.sq) ∧ w.cell? ⟨g, 3, none⟩ = some u ∧ (∀ k, w.frozen? ⟨g, k, none⟩ = false) ∧ g < w.heap.size :=
  ⟨Co.cell_in (o := 0) h rfl, Co.cell_in (o := 1) h rfl, Co.cell_in (o := 2) h rfl, Co.cell_in (o := 3) h rfl, fun k => Lib.frozen_of_heap h k, by
    rcases Nat.lt_or_ge g w.heap.size with h1 | h1
    · exact h1
    · unfold InBox at h; rw [Array.getElem?_eq_none h1] at h; cases h⟩
/-- An input being made: in the box g, by blocks of the round's own. -/
structure InMid (W : World) (g : Nat) (wx : World) : Prop where
  ex : ∃ (x : InD) (u : Value) (lo hi : Nat), x.Ok ∧ InBox wx g x u ∧ Strs wx lo hi u x.wit ∧ W.heap.size ≤ lo ∧ hi ≤ wx.heap.size ∧ (g < lo ∨ hi ≤ g)
  ge : W.heap.size ≤ g
  bel : Below W.heap.size W wx
theorem InMid.below {W w w' : World} {g : Nat} (h : InMid W g w) (hb : Below w.heap.size w w') : InMid W g w' := by
  obtain ⟨x, u, lo, hi, h1, h2, h3, h4, h5, h6⟩ := h.ex
  have := hb.size
  exact ⟨⟨x, u, lo, hi, h1, (hb.block g h2.cells.2.2.2.2.2).trans h2, h3.keep (Kept.of_below hb h5), h4, by omega, h6⟩, h.ge, below_next h.bel h.bel.size hb⟩
/-- Its point is set. -/
theorem InMid.point {W w : World} {g : Nat} (h : InMid W g w) {s : ByteArray} {i : Int} (hs : s.size ≤ 64) (hi1 : 0 ≤ i) (hi2 : i ≤ 4294967295) : InMid W g ((w.setCell ⟨g, 0, none⟩ (.string s)).setCell ⟨g, 1, none⟩ (.int .u32 i)) := by
  obtain ⟨x, u, lo, hi, h1, h2, h3, h4, h5, h6⟩ := h.ex
  unfold InBox at h2
  refine ⟨⟨⟨s, i, x.sq, x.wit⟩, u, lo, hi, ⟨hs, hi1, hi2, h1.2.2.2⟩, ?_, (h3.keep (Kept.setCell (p := ⟨g, 0, none⟩) h6 _)).keep (Kept.setCell (p := ⟨g, 1, none⟩) h6 _), h4, by simp; exact h5, h6⟩, h.ge, (h.bel.setCell h.ge _).setCell h.ge _⟩
  unfold InBox
  simp [World.setCell, Array.getElem?_modify, h2]
/-- It is set whole, to an input made since. -/
theorem InMid.whole {W w w1 : World} {g : Nat} (h : InMid W g w) (hb : Below w.heap.size w w1) {x : InD} {u : Value} {hi : Nat} (hx : x.Ok) (hs : Strs w1 w.heap.size hi u x.wit) (hhi : hi ≤ w1.heap.size) :
    InMid W g ((((w1.setCell ⟨g, 0, none⟩ (.string x.id)).setCell ⟨g, 1, none⟩ (.int .u32 x.ix)).setCell ⟨g, 2, none⟩ (.int .u32 x.sq)).setCell ⟨g, 3, none⟩ u) := by
  obtain ⟨y, uy, lo, hi', h1, h2, h3, h4, h5, h6⟩ := h.ex
  have hg := h2.cells.2.2.2.2.2
  have h2' : w1.heap[g]? = some (.cells #[.string y.id, .int .u32 y.ix, .int .u32 y.sq, uy] 68 (0, 0)) := (hb.block g hg).trans h2
  have hW := h.bel.size
  refine ⟨⟨x, u, w.heap.size, hi, hx, ?_, ?_, hW, by simp; exact hhi, .inl hg⟩, h.ge, ((((below_next h.bel hW hb).setCell h.ge _).setCell h.ge _).setCell h.ge _).setCell h.ge _⟩
  · unfold InBox
    simp [World.setCell, Array.getElem?_modify, h2']
  · exact (((hs.keep (Kept.setCell (p := ⟨g, 0, none⟩) (.inl hg) _)).keep (Kept.setCell (p := ⟨g, 1, none⟩) (.inl hg) _)).keep (Kept.setCell (p := ⟨g, 2, none⟩) (.inl hg) _)).keep (Kept.setCell (p := ⟨g, 3, none⟩) (.inl hg) _)
theorem bare_ok {q : Int} (hq : 0 ≤ q ∧ q ≤ 4294967295) {ws : List ByteArray} (hl : ws.length ≤ 8 ∧ ∀ s ∈ ws, s.size ≤ 128) : InD.Ok ⟨⟨#[]⟩, 0, q, ws⟩ := ⟨Nat.zero_le _, Int.le_refl _, (by show (0 : Int) ≤ 4294967295; decide), hq.1, hq.2, hl.1, hl.2⟩
/-- An input of a Sequence and a Witness, its box made behind the Witness. -/
theorem InMid.new {W V w1 : World} (hV : Below W.heap.size W V) (hB : Below V.heap.size V w1) {q : Int} (hq : 0 ≤ q ∧ q ≤ 4294967295) {u : Value} {ws : List ByteArray} (hw : Strs w1 V.heap.size w1.heap.size u ws) (hl : ws.length ≤ 8 ∧ ∀ s ∈ ws, s.size ≤ 128) :
    InMid W w1.heap.size (w1.alloc (.cells #[.string ⟨#[]⟩, .int .u32 0, .int .u32 q, u] 68)) := by
  have h1 := below_next hV hV.size hB
  exact ⟨⟨⟨⟨#[]⟩, 0, q, ws⟩, u, V.heap.size, w1.heap.size, bare_ok hq hl, heap_alloc_new w1 _, hw.keep (Kept.alloc (Nat.le_refl _) _), hV.size, by simp, .inr (Nat.le_refl _)⟩, h1.size, h1.alloc h1.size _⟩
/-- .. and made ahead of it. -/
theorem InMid.set {W V w1 : World} {g : Nat} (hV : Below W.heap.size W V) (hg : W.heap.size ≤ g) (hgV : g < V.heap.size) {v0 v1 v2 v3 : Value} (hh : V.heap[g]? = some (.cells #[v0, v1, v2, v3] 68 (0, 0))) (hB : Below V.heap.size V w1) {q : Int} (hq : 0 ≤ q ∧ q ≤ 4294967295) {u : Value} {ws : List ByteArray} (hw : Strs w1 V.heap.size w1.heap.size u ws) (hl : ws.length ≤ 8 ∧ ∀ s ∈ ws, s.size ≤ 128) :
    InMid W g ((((w1.setCell ⟨g, 0, none⟩ (.string ⟨#[]⟩)).setCell ⟨g, 1, none⟩ (.int .u32 0)).setCell ⟨g, 2, none⟩ (.int .u32 q)).setCell ⟨g, 3, none⟩ u) := by
  have h1 := below_next hV hV.size hB
  have hh' := (hB.block g hgV).trans hh
  refine ⟨⟨⟨⟨#[]⟩, 0, q, ws⟩, u, V.heap.size, w1.heap.size, bare_ok hq hl, ?_, ?_, hV.size, by simp, .inl hgV⟩, hg, (((h1.setCell hg _).setCell hg _).setCell hg _).setCell hg _⟩
  · unfold InBox
    simp [World.setCell, Array.getElem?_modify, hh']
  · exact (((hw.keep (Kept.setCell (p := ⟨g, 0, none⟩) (.inl hgV) _)).keep (Kept.setCell (p := ⟨g, 1, none⟩) (.inl hgV) _)).keep (Kept.setCell (p := ⟨g, 2, none⟩) (.inl hgV) _)).keep (Kept.setCell (p := ⟨g, 3, none⟩) (.inl hgV) _)
/-- The box of no input, made ahead of a call that leaves it. -/
theorem in_kept {V w' : World} (hb : Below V.heap.size V w') {m : Nat} (hh : V.heap[m]? = some (.cells #[.string ⟨#[]⟩, .int .u32 0, .int .u32 0, .slice none 0 0] 68 (0, 0))) :
    w'.cell? ⟨m, 0, none⟩ = some (.string ⟨#[]⟩) ∧ w'.cell? ⟨m, 1, none⟩ = some (.int .u32 0) ∧ w'.cell? ⟨m, 2, none⟩ = some (.int .u32 0) ∧ w'.cell? ⟨m, 3, none⟩ = some (.slice none 0 0) ∧ (∀ k, w'.frozen? ⟨m, k, none⟩ = false) ∧ m < V.heap.size := by
  have hm : m < V.heap.size := by
    rcases Nat.lt_or_ge m V.heap.size with h | h
    · exact h
    · rw [Array.getElem?_eq_none h] at hh; cases hh
  have hh : w'.heap[m]? = some (.cells #[.string ⟨#[]⟩, .int .u32 0, .int .u32 0, .slice none 0 0] 68 (0, 0)) := (hb.block _ hm).trans hh
  exact ⟨Co.cell_in (o := 0) hh rfl, Co.cell_in (o := 1) hh rfl, Co.cell_in (o := 2) hh rfl, Co.cell_in (o := 3) hh rfl, fun k => Lib.frozen_of_heap hh k, hm⟩

end Go.Proofs.YtjclklppnkoehaaGreatDoor

namespace Go.Proofs.YtjclklppnkoehaaGreatDoor
open Go.RowKit
set_option maxRecDepth 100000

theorem run_field_outs (W : World) (a b c d : Value) : (Instr.field 34 (.agg #[a, b, c, d]) 2).run Tryz.prog W = .ok c W := by kernel_rfl
theorem run_field_ins (W : World) (a b c d : Value) : (Instr.field 34 (.agg #[a, b, c, d]) 1).run Tryz.prog W = .ok b W := by kernel_rfl
theorem sg_size (b t : Int) : (sgS b t).size = 3 := by
  unfold sgS
  rw [ByteArray.size_append, put_sz1, put_sz2]

/-- The transaction's box, its Outs made. -/
structure TMid (w1 : World) (ver lock : Int) (outs : List OutD) (g : Nat) (vO : Value) (wx : World) : Prop where
  blk : wx.heap[g]? = some (.cells #[.int .u32 ver, .slice none 0 0, vO, .int .u32 lock] 34 (0, 0))
  ne : ∃ lo hi, Outs wx lo hi vO outs ∧ w1.heap.size ≤ lo ∧ hi ≤ wx.heap.size ∧ (g < lo ∨ hi ≤ g)
  ge : w1.heap.size ≤ g
  lt : g < wx.heap.size
  bel : Below w1.heap.size w1 wx
theorem t_mid1 {W V w1 : World} (hV : Below W.heap.size W V) (hB : Below V.heap.size V w1) (ver lock : Int) {outs : List OutD} {vO : Value} {lo : Nat} (hlo : V.heap.size ≤ lo) (ho : Outs w1 lo w1.heap.size vO outs) :
    TMid W ver lock outs w1.heap.size vO (w1.alloc (.cells #[.int .u32 ver, .slice none 0 0, vO, .int .u32 lock] 34)) := by
  have h1 := below_next hV hV.size hB
  have hk := ho.keep (Kept.alloc (Nat.le_refl w1.heap.size) (.cells #[.int .u32 ver, .slice none 0 0, vO, .int .u32 lock] 34))
  exact ⟨heap_alloc_new w1 _, ⟨lo, w1.heap.size, hk, by have := hV.size; omega, by simp, .inr (Nat.le_refl _)⟩, h1.size, by simp, h1.alloc h1.size _⟩
theorem t_mid2 {W V w1 : World} {g : Nat} (hV : Below W.heap.size W V) (hg : W.heap.size ≤ g) (hgV : g < V.heap.size) {v0 v1 v2 v3 : Value} (hh : V.heap[g]? = some (.cells #[v0, v1, v2, v3] 34 (0, 0))) (hB : Below V.heap.size V w1) (ver lock : Int) {outs : List OutD} {vO : Value} {lo : Nat} (hlo : V.heap.size ≤ lo) (ho : Outs w1 lo w1.heap.size vO outs) :
    TMid W ver lock outs g vO ((((w1.setCell ⟨g, 0, none⟩ (.int .u32 ver)).setCell ⟨g, 1, none⟩ (.slice none 0 0)).setCell ⟨g, 2, none⟩ vO).setCell ⟨g, 3, none⟩ (.int .u32 lock)) := by
  have h1 := below_next hV hV.size hB
  have hh' := (hB.block g hgV).trans hh
  have hn : g < lo := by omega
  have hk := (((ho.keep (Kept.setCell (p := ⟨g, 0, none⟩) (.inl hn) (.int .u32 ver))).keep (Kept.setCell (p := ⟨g, 1, none⟩) (.inl hn) (.slice none 0 0))).keep (Kept.setCell (p := ⟨g, 2, none⟩) (.inl hn) vO)).keep (Kept.setCell (p := ⟨g, 3, none⟩) (.inl hn) (.int .u32 lock))
  have := hB.size
  exact ⟨by simp [World.setCell, Array.getElem?_modify, hh'], ⟨lo, w1.heap.size, hk, by have := hV.size; omega, by simp, .inl hn⟩, hg, by simp; omega, (((h1.setCell hg _).setCell hg _).setCell hg _).setCell hg _⟩
theorem t_kept {V w' : World} (hb : Below V.heap.size V w') {m : Nat} (hh : V.heap[m]? = some (.cells #[.int .u32 0, .slice none 0 0, .slice none 0 0, .int .u32 0] 34 (0, 0))) :
    w'.cell? ⟨m, 0, none⟩ = some (.int .u32 0) ∧ w'.cell? ⟨m, 1, none⟩ = some (.slice none 0 0) ∧ w'.cell? ⟨m, 2, none⟩ = some (.slice none 0 0) ∧ w'.cell? ⟨m, 3, none⟩ = some (.int .u32 0) ∧ (∀ k, w'.frozen? ⟨m, k, none⟩ = false) ∧ m < V.heap.size := by
  have hm : m < V.heap.size := by
    rcases Nat.lt_or_ge m V.heap.size with h | h
    · exact h
    · rw [Array.getElem?_eq_none h] at hh; cases hh
  have hh : w'.heap[m]? = some (.cells #[.int .u32 0, .slice none 0 0, .slice none 0 0, .int .u32 0] 34 (0, 0)) := (hb.block _ hm).trans hh
  exact ⟨Co.cell_in (o := 0) hh rfl, Co.cell_in (o := 1) hh rfl, Co.cell_in (o := 2) hh rfl, Co.cell_in (o := 3) hh rfl, fun k => Lib.frozen_of_heap hh k, hm⟩

/-- Where spending stands behind the inputs ys. -/
structure TSt (w1 w2 : World) (ver lock : Int) (outs : List OutD) (g : Nat) (vO : Value) (ys : List InD) (vI : Value) (wr : World) : Prop where
  blk : wr.heap[g]? = some (.cells #[.int .u32 ver, vI, vO, .int .u32 lock] 34 (0, 0))
  ins : InsMade wr w2.heap.size wr.heap.size vI ys
  ok : ∀ x ∈ ys, x.Ok
  ne : ∃ lo hi, Outs wr lo hi vO outs ∧ w1.heap.size ≤ lo ∧ hi ≤ w2.heap.size ∧ (g < lo ∨ hi ≤ g)
  ge : w1.heap.size ≤ g
  lt : g < w2.heap.size
  bel : Below w1.heap.size w1 wr
  le : w2.heap.size ≤ wr.heap.size
theorem TMid.start {w1 w2 : World} {ver lock : Int} {outs : List OutD} {g : Nat} {vO : Value} (h : TMid w1 ver lock outs g vO w2) : TSt w1 w2 ver lock outs g vO [] (.slice none 0 0) w2 :=
  ⟨h.blk, InsMade.nil _ _ _, by simp, h.ne, h.ge, h.lt, h.bel, Nat.le_refl _⟩
theorem TSt.below {w1 w2 wr wr' : World} {ver lock : Int} {outs : List OutD} {g : Nat} {vO vI : Value} {ys : List InD} (h : TSt w1 w2 ver lock outs g vO ys vI wr) (hb : Below wr.heap.size wr wr') : TSt w1 w2 ver lock outs g vO ys vI wr' := by
  obtain ⟨lo, hi, h1, h2, h3, h4⟩ := h.ne
  have := hb.size
  have := h.le
  have := h.lt
  exact ⟨(hb.block g (by omega)).trans h.blk, h.ins.keep (Kept.of_below hb (Nat.le_refl _)) hb.size, h.ok, ⟨lo, hi, h1.keep (Kept.of_below hb (by omega)), h2, h3, h4⟩, h.ge, h.lt, below_next h.bel h.bel.size hb, by omega⟩
/-- One input more. -/
theorem TSt.push {w1 w2 W w3 : World} {ver lock : Int} {outs : List OutD} {g : Nat} {vO vI : Value} {ys : List InD} (h : TSt w1 w2 ver lock outs g vO ys vI W) {x : InD} {u : Value} {lo hi : Nat} (hx : x.Ok) (hu : Strs W lo hi u x.wit) (hlo : w2.heap.size ≤ lo) (hhi : hi ≤ W.heap.size)
    (hg : ∀ k, vI.ownBlock = some k → k < lo ∨ hi ≤ k) {cells : List Value} (hown : W.ownsRow w2.heap.size 68 4 vI ys.length cells)
    (hall : ∀ (j : Nat) (x : InD), ys[j]? = some x → cells[j * 4]? = some (.string x.id) ∧ cells[j * 4 + 1]? = some (.int .u32 x.ix) ∧ cells[j * 4 + 2]? = some (.int .u32 x.sq) ∧
      ∃ (u : Value) (lo hi : Nat), cells[j * 4 + 3]? = some u ∧ Strs W lo hi u x.wit ∧ w2.heap.size ≤ lo ∧ hi ≤ W.heap.size ∧ ∀ g, vI.ownBlock = some g → g < lo ∨ hi ≤ g)
    {o : Obj} {g' cap : Nat} (hgrow : (W.alloc o).grownBy w3 vI.ownBlock) (hwas : vI.ownBlock = some g' ∨ g' = W.heap.size + 1)
    (hown' : w3.ownsRow w2.heap.size 68 4 (.slice (some ⟨g', 0, none⟩) (ys.length + 1) cap) (ys.length + 1) (cells ++ [.string x.id, .int .u32 x.ix, .int .u32 x.sq, u])) :
    TSt w1 w2 ver lock outs g vO (ys ++ [x]) (.slice (some ⟨g', 0, none⟩) (ys.length + 1) cap) (w3.setCell ⟨g, 1, none⟩ (.slice (some ⟨g', 0, none⟩) (ys.length + 1) cap)) := by
  have hI := InsMade.push hown hall hu hlo hhi hg hgrow hwas hown'
  have hbl : Below w2.heap.size W w3 := grown_below hgrow (own_block hown) h.le
  have hs := hbl.size
  have hle := h.le
  have hlt := h.lt
  obtain ⟨lo1, hi1, k1, k2, k3, k4⟩ := h.ne
  have hblk := (hbl.block g hlt).trans h.blk
  have hz : w1.heap.size ≤ w2.heap.size := by have := h.ge; omega
  exact ⟨by simp [World.setCell, Array.getElem?_modify, hblk], hI.keep (Kept.setCell (p := ⟨g, 1, none⟩) (.inl hlt) _) (by simp), fun y hy => by
      rcases List.mem_append.1 hy with hy | hy
      · exact h.ok y hy
      · rw [List.mem_singleton.1 hy]; exact hx,
    ⟨lo1, hi1, (k1.keep (Kept.of_below hbl (by omega))).keep (Kept.setCell (p := ⟨g, 1, none⟩) k4 _), k2, k3, k4⟩, h.ge, hlt, (h.bel.trans (hbl.mono hz)).setCell h.ge _, by simp; omega⟩

/-- What spending gives: some transaction of few parts. -/
def SpgEnd (w : World) (e : Ending) (w' : World) : Prop :=
  ∃ (t : TxD) (vi vo : Value), e = .returned (.agg #[.int .u32 t.ver, vi, vo, .int .u32 t.lock]) ∧ TxAt w' w.heap.size w'.heap.size vi vo t ∧ t.Ok ∧ Below w.heap.size w w'

set_option maxHeartbeats 2000000 in
theorem spending_any (z : JobD) (vc vs vo : Value) (w : World) (hz : JobAt w w.heap.size vc vs vo z) (hok : z.Ok) : Calls Tryz.prog 5 #[jobV z vc vs vo] w (SpgEnd w) := by
  obtain ⟨w0, hw0⟩ : ∃ w0, w0 = w.alloc (.cells #[vc, vs, vo, .int .u32 z.ver, .int .u32 z.lock, .int .i64 z.ht] 27) := ⟨_, rfl⟩
  have z0 : w0.heap.size = w.heap.size + 1 := by rw [hw0]; simp
  have hb0 : Below w.heap.size w w0 := by rw [hw0]; exact (Below.refl _ _).alloc (Nat.le_refl _) _
  obtain ⟨w1, hw1⟩ : ∃ w1, w1 = w0.alloc (.cells #[.int .u32 0, .slice none 0 0, .slice none 0 0, .int .u32 0] 34) := ⟨_, rfl⟩
  have z1 : w1.heap.size = w.heap.size + 2 := by rw [hw1]; simp; omega
  have hb1 : Below w0.heap.size w0 w1 := by rw [hw1]; exact (Below.refl _ _).alloc (Nat.le_refl _) _
  obtain ⟨A, c, rfl⟩ := hz.cns.form
  obtain ⟨As, cs, rfl⟩ := hz.sps.form
  obtain ⟨Ao, co, rfl⟩ := hz.outs.form
  have hcap := Lst.cap hz.cns
  have hcaps := Lst.cap hz.sps
  have hq : ∀ o v, (#[.slice A z.cns.length c, .slice As z.sps.length cs, .slice Ao z.outs.length co, .int .u32 z.ver, .int .u32 z.lock, .int .i64 z.ht] : Array Value)[o]? = some v → w1.cell? ⟨w.heap.size, o, none⟩ = some v := by
    intro o v hv
    rw [(hb1.cell (p := ⟨w.heap.size, o, none⟩) (by show w.heap.size < _; omega)), hw0]
    exact Co.cell_in (heap_alloc_new w _) hv
  have q0 := hq 0 _ rfl
  have q1 := hq 1 _ rfl
  have q2 := hq 2 _ rfl
  have q3 := hq 3 _ rfl
  have q4 := hq 4 _ rfl
  have hR : w1.heap[w.heap.size + 1]? = some (.cells #[.int .u32 0, .slice none 0 0, .slice none 0 0, .int .u32 0] 34 (0, 0)) := by rw [hw1, ← z0]; exact heap_alloc_new w0 _
  have HR := Lib.hid hR
  have B1 := Lib.hid (below_next hb0 (by omega) hb1)
  have HJ := Lib.hid hz
  have HOK := Lib.hid hok
  have HC := Lib.hid (fun W (hW : Below w1.heap.size w1 W) => cut_own ⟨0, [], z.outs, 0⟩ 6 (.slice none 0 0) (.slice Ao z.outs.length co) W w.heap.size ⟨Ins.nil _ _ _, hz.outs.keep (Kept.of_below (B1.out.trans (hW.mono (by omega))) (Nat.le_refl _))⟩ (by have := hW.size; omega) (by decide) (by simp) (by have := hok.lo; unfold maxLen at this; show z.outs.length ≤ _; omega) (fun x hx => by cases hx))
  have HW0 := Lib.hid hw0
  have HW1 := Lib.hid hw1
  obtain ⟨ver, hver⟩ : ∃ v, z.ver = v := ⟨_, rfl⟩
  obtain ⟨lk, hlk⟩ : ∃ v, z.lock = v := ⟨_, rfl⟩
  obtain ⟨ht, hht⟩ : ∃ v, z.ht = v := ⟨_, rfl⟩
  obtain ⟨nc, hnc⟩ : ∃ v, z.cns.length = v := ⟨_, rfl⟩
  obtain ⟨ns, hns⟩ : ∃ v, z.sps.length = v := ⟨_, rfl⟩
  obtain ⟨no, hno⟩ : ∃ v, z.outs.length = v := ⟨_, rfl⟩
  have HNC := Lib.hid hnc
  have HNS := Lib.hid hns
  have HVL := Lib.hid (show 0 ≤ ver ∧ ver ≤ 4294967295 ∧ 0 ≤ lk ∧ lk ≤ 4294967295 from by rw [← hver, ← hlk]; exact ⟨hok.ver.1, hok.ver.2, hok.lock.1, hok.lock.2⟩)
  have HOO := Lib.hid (show (cutTx 6 ⟨0, [], z.outs, 0⟩).outs.length ≤ 512 ∧ ∀ x ∈ (cutTx 6 ⟨0, [], z.outs, 0⟩).outs, x.Ok from ⟨by simp [cutTx]; omega, fun x hx => by
    obtain ⟨y, hy, rfl⟩ := List.mem_map.1 hx
    have h3 := hok.outs y (List.mem_of_mem_take hy)
    exact ⟨h3.1, h3.2.1, Nat.le_trans (cutS_size 50 y.scr) (by decide)⟩⟩)
  unfold jobV
  rw [hver, hlk, hht, hnc, hns, hno] at HW0 ⊢
  rw [hnc] at q0 hcap
  rw [hns] at q1 hcaps
  rw [hno] at q2 HC
  rw [hver] at q3
  rw [hlk] at q4
  generalize (cutTx 6 ⟨0, [], z.outs, 0⟩).outs = os at HC HOO
  have hfd := run_field_outs
  clear hz hok hw0 hw1 hb0 hb1 hq hR hver hlk hht hnc hns hno
  go_enter Tryz.func5, Tryz.ntmps5
  go_upto_region 1 with (fail)
  rw [show World.alloc (World.alloc w _) _ = w1 from by rw [HW1.out, HW0.out]]
  have n1 : ¬ w1.heap.size = w.heap.size := by omega
  have Z1 := Lib.hid z1
  have Z0 := Lib.hid z0
  clear z1 z0
  go_cut [3] (fun s3 wx => ∃ g vO, s3 = .pointer (some ⟨g, 0, none⟩) ∧ Hid (TMid w1 ver lk os g vO wx))
  case first =>
    go_region_held3 (fun w' => w'.cell? ⟨w.heap.size, 2, none⟩ = some (.slice Ao no co) ∧ w'.cell? ⟨w.heap.size, 3, none⟩ = some (.int .u32 ver) ∧ w'.cell? ⟨w.heap.size, 4, none⟩ = some (.int .u32 lk))
      (go_keep)
      (first | (go_at_call 17; refine (HC.out _ (by repeat (first | exact Below.refl _ _ | refine Below.drew ?_ | refine Below.alloc ?_ (by simp) _))).mono ?_; rintro e w3 ⟨vi', vO, rfl, ⟨_, hO⟩, hB1⟩; obtain ⟨AO, cO, rfl⟩ := hO.outs.form; have n3 : ¬ w3.heap.size = w.heap.size := (by have := hB1.size; have := Z1.out; simp at *; omega); have e1 := hB1.cell (p := ⟨w.heap.size, 2, none⟩) (by have := Z1.out; simp; omega); have e2 := hB1.cell (p := ⟨w.heap.size, 3, none⟩) (by have := Z1.out; simp; omega); have e3 := hB1.cell (p := ⟨w.heap.size, 4, none⟩) (by have := Z1.out; simp; omega); first | (have hz := t_kept hB1 (heap_alloc_new w1 (.cells #[.int .u32 0, .slice none 0 0, .slice none 0 0, .int .u32 0] 34)); obtain ⟨k0, k1, k2, k3, kf, ks⟩ := hz) | skip))
    all_goals go_wp2_with fail
    all_goals go_meet
    · exact ⟨_, _, rfl, Lib.hid (t_mid1 (Below.refl _ _).drew hB1 ver lk (by simp) hO.outs)⟩
    · first | exact ⟨_, _, rfl, Lib.hid (t_mid2 ((Below.refl _ _).drew.alloc (by simp) _) (Nat.le_refl _) (by simp) (heap_alloc_new w1 _) hB1 ver lk (by simp) hO.outs)⟩ | exact ⟨_, _, rfl, Lib.hid (t_mid2 ((Below.refl _ _).alloc (by simp) _).drew (Nat.le_refl _) (by simp) (heap_alloc_new w1 _) hB1 ver lk (by simp) hO.outs)⟩
  case rest =>
    obtain ⟨g, vO, rfl, hT⟩ := hcut
    have QC := Lib.hid (show ∀ V, Below w1.heap.size w1 V → V.cell? ⟨w.heap.size, 0, none⟩ = some (.slice A nc c) ∧ V.cell? ⟨w.heap.size, 1, none⟩ = some (.slice As ns cs) from fun V hV => ⟨(hV.cell (p := ⟨w.heap.size, 0, none⟩) (by have := Z1.out; show w.heap.size < _; omega)).trans q0, (hV.cell (p := ⟨w.heap.size, 1, none⟩) (by have := Z1.out; show w.heap.size < _; omega)).trans q1⟩)
    obtain ⟨n, hn⟩ : ∃ n, min ns 6 = n := ⟨_, rfl⟩
    have hmn : ∀ w, (Builtin.min_ #[3, 3] 3 #[.int .i64 (ns : Int), .int .i64 6]).run Tryz.prog w = .ok (.int .i64 (n : Nat)) w := by rw [← hn]; exact fun w => run_min_nat 6 #[3, 3] 3 ns w
    have m1 : n ≤ cs := by omega
    have m2 : (n : Int) ≤ (cs : Int) := by omega
    have m3 : (0 : Int) ≤ (n : Int) := by omega
    have m4 : n ≤ 6 := by omega
    have hls : ns ≤ 9223372036854775807 := by have := HOK.out.ls; rw [HNS.out] at this; unfold maxLen at this; omega
    have hlc : nc ≤ 9223372036854775807 := by have := HOK.out.lc; rw [HNC.out] at this; unfold maxLen at this; omega
    obtain ⟨ys, hys⟩ : ∃ ys, z.sps.take n = ys := ⟨_, rfl⟩
    have hyl : ys.length = n := by rw [← hys, List.length_take, HNS.out]; omega
    have HX := Lib.hid (show Lst (SpAt 0 w.heap.size) 9 w 0 w.heap.size (.slice As n cs) ys from by rw [← hys]; have := Lst.take HJ.out.sps (p := n) (by rw [HNS.out]; omega); exact this)
    have HXO := Lib.hid (show ∀ x ∈ ys, x.Ok from by rw [← hys]; exact fun x hx => HOK.out.sps x (List.mem_of_mem_take hx))
    obtain ⟨w2, hw2⟩ : ∃ w2, w2 = wc := ⟨_, rfl⟩
    rw [← hw2] at hT ⊢
    clear hw2 hn hys hfd q0 q1 q2 q3 q4 HC HW0 HW1
    obtain ⟨j0, j1⟩ := QC.out w2 hT.out.bel
    go_wp2_with fail
    go_loopg [26] n (fun gg s26 wr => ∃ (k : Nat) (vI : Value) (is : List InD), k ≤ n ∧ n - k ≤ gg ∧ s26 = .int .i64 k ∧ is.length = k ∧ Hid (TSt w1 w2 ver lk os g vO is vI wr))
    case atStart => exact ⟨0, _, [], Nat.zero_le _, by omega, rfl, rfl, Lib.hid hT.out.start⟩
    case round =>
      clear hmn j0 j1
      obtain ⟨k, vI, is, hk, hgg, rfl, hil, HS⟩ := hrel
      obtain ⟨w8, hw8⟩ : ∃ w8, w8 = wr := ⟨_, rfl⟩
      rw [← hw8] at HS ⊢
      clear hw8
      by_cases hlt : k < n
      · have k1 : (k : Int) < (n : Int) := by omega
        have k2 : decide (k < n) = true := decide_eq_true hlt
        obtain ⟨x, hxk⟩ : ∃ x, ys[k]? = some x := ⟨_, List.getElem?_eq_getElem (by omega)⟩
        have BV := Lib.hid (B1.out.trans (HS.out.bel.mono (by have := Z1.out; omega)))
        obtain ⟨b, off, rfl, h1, h2, c0, c1, c2, c3, ⟨d0, d1, d2, vW, d3, hwt⟩, c8⟩ := Lst.at (Sps.keep HX.out (Kept.of_below BV.out (Nat.le_refl _))) hxk
        obtain ⟨Aw, nw, rfl⟩ : ∃ A c, vW = .slice A x.raw.wit.length c := by obtain ⟨A, c, rfl, _⟩ := hwt; exact ⟨A, c, rfl⟩
        obtain ⟨o1, o2, o3, o4, o5, o6, o7, o8, o9⟩ := HXO.out x (List.mem_of_getElem? hxk)
        have c4 : w8.cell? ⟨b, off + k * 9 + 4, none⟩ = some (.string x.raw.id) := d0
        have c5 : w8.cell? ⟨b, off + k * 9 + 5, none⟩ = some (.int .u32 x.raw.ix) := d1
        have c6 : w8.cell? ⟨b, off + k * 9 + 6, none⟩ = some (.int .u32 x.raw.sq) := d2
        have c7 : w8.cell? ⟨b, off + k * 9 + 7, none⟩ = some (.slice Aw x.raw.wit.length nw) := d3
        clear d0 d1 d2 d3
        obtain ⟨W, hW⟩ : ∃ W, W = w8.alloc (.cells #[.int .u8 x.co, .int .u8 x.br, .int .u8 x.tg, .int .u32 x.sq, .string x.raw.id, .int .u32 x.raw.ix, .int .u32 x.raw.sq, .slice Aw x.raw.wit.length nw, .bool x.odd] 70) := ⟨_, rfl⟩
        have hzW : W.heap.size = w8.heap.size + 1 := by rw [hW]; simp
        have hbW : Below w8.heap.size w8 W := by rw [hW]; exact (Below.refl _ _).alloc (Nat.le_refl _) _
        have hnW := hW ▸ heap_alloc_new w8 (.cells #[.int .u8 x.co, .int .u8 x.br, .int .u8 x.tg, .int .u32 x.sq, .string x.raw.id, .int .u32 x.raw.ix, .int .u32 x.raw.sq, .slice Aw x.raw.wit.length nw, .bool x.odd] 70)
        have XB := Lib.hid (fun (V : World) (hV : Below W.heap.size W V) (o : Nat) (v : Value) (hv : (#[.int .u8 x.co, .int .u8 x.br, .int .u8 x.tg, .int .u32 x.sq, .string x.raw.id, .int .u32 x.raw.ix, .int .u32 x.raw.sq, .slice Aw x.raw.wit.length nw, .bool x.odd] : Array Value)[o]? = some v) => (hV.cell (p := ⟨w8.heap.size, o, none⟩) (by show w8.heap.size < _; omega)).trans (Co.cell_in hnW hv))
        have SW := Lib.hid (HS.out.below hbW)
        obtain ⟨b3, hb3⟩ : ∃ i, x.br % 3 = i := ⟨_, rfl⟩
        obtain ⟨t4, ht4⟩ : ∃ j, x.tg % 4 = j := ⟨_, rfl⟩
        have r1 : ¬ (3 : Int) = 0 := by decide
        have r2 : ¬ (4 : Int) = 0 := by decide
        have r3 : x.br.tmod 3 = b3 := by rw [← hb3]; exact Int.tmod_eq_emod_of_nonneg o3
        have r4 : x.tg.tmod 4 = t4 := by rw [← ht4]; exact Int.tmod_eq_emod_of_nonneg o5
        have r5 : IntKind.u8.wrap b3 = b3 := IntWalk.u8_in _ (by omega)
        have r6 : IntKind.u8.wrap t4 = t4 := IntWalk.u8_in _ (by omega)
        have r7 : IntKind.i64.wrap b3 = b3 := IntWalk.i64_in _ (by omega)
        have r8 : IntKind.u16.wrap t4 = t4 := IntWalk.u16_in _ (by omega)
        have SG := Lib.hid (fun V => rsign_any b3 t4 V (by omega) (by omega))
        have SZ := Lib.hid (show [sgS b3 t4].length ≤ 8 ∧ ∀ s ∈ [sgS b3 t4], s.size ≤ 128 from ⟨by simp, fun s hs => by rw [List.mem_singleton.1 hs, sg_size]; decide⟩)
        generalize [sgS b3 t4] = ws at SG SZ
        have HOX := Lib.hid (And.intro (And.intro o1 o2) (And.intro (And.intro o7 o8) o9))
        have HWT := Lib.hid (hwt.keep (Kept.of_below hbW (by have := BV.out.size; omega)))
        have HW := Lib.hid hW
        have HZW := Lib.hid hzW
        have m5 : ¬ W.heap.size = w8.heap.size := by omega
        have q5 : 0 ≤ x.sq ∧ x.sq ≤ 4294967295 := ⟨o7, o8⟩
        obtain ⟨xc, xbr, xtg, xsq, ⟨rid, rix, rsq, rwt⟩, xodd⟩ := x
        simp only at *
        obtain ⟨rl, hrl⟩ : ∃ m, rwt.length = m := ⟨_, rfl⟩
        rw [hrl] at c7 HW XB HWT
        have HRL := Lib.hid hrl
        clear hb3 ht4 o1 o2 o3 o4 o5 o6 o7 o8 o9 hW hzW hnW hrl hwt hxk
        go_upto_region 5 with (fail)
        rw [show World.alloc w8 _ = W from HW.out.symm]
        clear c0 c1 c2 c3 c4 c5 c6 c7 hbW
        have x1 := XB.out W (Below.refl _ _) 1 _ rfl
        have x2 := XB.out W (Below.refl _ _) 2 _ rfl
        have x3 := XB.out W (Below.refl _ _) 3 _ rfl
        go_cut [6] (fun s6 wx => ∃ g6, s6 = .pointer (some ⟨g6, 0, none⟩) ∧ Hid (InMid W g6 wx))
        case first =>
          go_region_held3 (fun w' => w'.cell? ⟨w8.heap.size, 1, none⟩ = some (.int .u8 xbr) ∧ w'.cell? ⟨w8.heap.size, 2, none⟩ = some (.int .u8 xtg) ∧ w'.cell? ⟨w8.heap.size, 3, none⟩ = some (.int .u32 xsq))
            (go_keep)
            (first | (go_at_call 18; refine (SG.out _).mono ?_; rintro e w3 ⟨vS, rfl, hst, hB1⟩; obtain ⟨AS, cS, rfl⟩ : (∃ A c, vS = Value.slice A ws.length c) := (by obtain ⟨A, c, rfl, _⟩ := hst; exact ⟨A, c, rfl⟩); have n3 : ¬ w3.heap.size = w8.heap.size := (by have := hB1.size; have := HZW.out; simp at *; omega); have e1 := hB1.cell (p := ⟨w8.heap.size, 1, none⟩) (by have := HZW.out; simp; omega); have e2 := hB1.cell (p := ⟨w8.heap.size, 2, none⟩) (by have := HZW.out; simp; omega); have e3 := hB1.cell (p := ⟨w8.heap.size, 3, none⟩) (by have := HZW.out; simp; omega); first | (have hz := in_kept hB1 (heap_alloc_new W (.cells #[.string ⟨#[]⟩, .int .u32 0, .int .u32 0, .slice none 0 0] 68)); obtain ⟨k0, k1, k2, k3, kf, ks⟩ := hz) | skip))
          all_goals go_wp2_with fail
          all_goals go_meet
          · exact ⟨_, rfl, Lib.hid (InMid.new (Below.refl _ _).drew hB1 q5 hst SZ.out)⟩
          · first | exact ⟨_, rfl, Lib.hid (InMid.set ((Below.refl _ _).drew.alloc (by simp) _) (Nat.le_refl _) (by simp) (heap_alloc_new W _) hB1 q5 hst SZ.out)⟩ | exact ⟨_, rfl, Lib.hid (InMid.set ((Below.refl _ _).alloc (by simp) _).drew (Nat.le_refl _) (by simp) (heap_alloc_new W _) hB1 q5 hst SZ.out)⟩
        case rest =>
          obtain ⟨g6, rfl, hM⟩ := hcut
          obtain ⟨w5, hw5⟩ : ∃ w5, w5 = wc := ⟨_, rfl⟩
          rw [← hw5] at hM ⊢
          clear hw5 SG SZ x1 x2 x3
          have B5 := Lib.hid (below_next SW.out.bel SW.out.bel.size hM.out.bel)
          obtain ⟨j0, j1⟩ := QC.out w5 B5.out
          have x0 := XB.out w5 hM.out.bel 0 _ rfl
          have z5 := hM.out.bel.size
          go_upto_if 45 with (fail)
          go_cut [] (fun wx => Hid (InMid W g6 wx))
          case first =>
            by_cases hnc : 0 < nc
            · have l1 : decide ((0 : Int) < (nc : Int)) = true := decide_eq_true (by omega)
              have l2 : decide (0 < nc) = true := decide_eq_true hnc
              obtain ⟨q, hq⟩ : ∃ q : Nat, xc % (nc : Int) = (q : Int) := ⟨(xc % (nc : Int)).toNat, (Int.toNat_of_nonneg (Int.emod_nonneg _ (by omega))).symm⟩
              have hqn : q < nc := by have := Int.emod_lt_of_pos xc (show (0 : Int) < nc by omega); omega
              have l3 : ¬ (nc : Int) = 0 := by omega
              have l4 : xc.tmod (nc : Int) = (q : Int) := by rw [← hq]; exact Int.tmod_eq_emod_of_nonneg HOX.out.1.1
              have l5 : IntKind.i64.wrap (q : Int) = (q : Int) := IntWalk.i64_in _ (by omega)
              have l6 : IntKind.i64.wrap xc = xc := IntWalk.i64_in _ (by have := HOX.out.1; omega)
              have l7 : (q : Int) < (nc : Int) := by omega
              have l8 : ¬ (q : Int) < 0 := by omega
              obtain ⟨y, hy⟩ : ∃ y, z.cns[q]? = some y := ⟨_, List.getElem?_eq_getElem (by rw [HNC.out]; exact hqn)⟩
              have hJC : Cns w5 0 w.heap.size (.slice A nc c) z.cns := by have := HJ.out.cns; rw [HNC.out] at this; exact this.keep (Kept.of_below (B1.out.trans (B5.out.mono (by have := Z1.out; omega))) (Nat.le_refl _))
              obtain ⟨bq, oq, rfl, i1, i2, y0, y1, y2, y3, ⟨vb, y4, hvb⟩, y5, y6⟩ := Lst.at hJC hy
              obtain ⟨Avb, cvb, rfl⟩ := hvb.form
              have l9 : ¬ nc = 0 := by omega
              obtain ⟨p1, p2, p3, p4, p5⟩ : 0 ≤ y.id8 ∧ y.id8 ≤ 255 ∧ 0 ≤ y.ix8 ∧ y.ix8 ≤ 255 ∧ True := by have := HOK.out.cns y (List.mem_of_getElem? hy); exact ⟨this.1, this.2.1, this.2.2.1, this.2.2.2.1, trivial⟩
              have s1 : bq < w5.heap.size := by have := Z1.out; have := SW.out.bel.size; omega
              have s2 : w.heap.size < w5.heap.size := by have := Z1.out; have := SW.out.bel.size; omega
              have s3 : w8.heap.size < w5.heap.size := by have := HZW.out; omega
              clear hq hqn hy hJC hvb
              go_wp2_with fail
              go_region
              obtain ⟨w7, hw7⟩ : ∃ w7, w7 = (w5.alloc (.cells #[.int .u8 y.id8, .int .u8 y.ix8, .int .i64 y.val, .int .i64 y.ht, .slice Avb y.brs.length cvb, .string y.scr, .bool y.raw] 52)).drew := ⟨_, rfl⟩
              rw [← hw7]
              have hb7 : Below w5.heap.size w5 w7 := by rw [hw7]; exact ((Below.refl _ _).alloc (Nat.le_refl _) _).drew
              have hz7 : w7.heap.size = w5.heap.size + 1 := by rw [hw7]; simp
              have u0 : w7.cell? ⟨w5.heap.size, 0, none⟩ = some (.int .u8 y.id8) := by rw [hw7]; simp
              have u1 : w7.cell? ⟨w5.heap.size, 1, none⟩ = some (.int .u8 y.ix8) := by rw [hw7]; simp
              have M7 := Lib.hid (hM.out.below hb7)
              obtain ⟨x7, ux, _, _, _, hx7, _⟩ := M7.out.ex
              obtain ⟨v0, v1, v2, v3, vf, vl⟩ := hx7.cells
              obtain ⟨i5, hi5⟩ : ∃ i, y.id8 % 5 = i := ⟨_, rfl⟩
              obtain ⟨j2, hj2⟩ : ∃ j, y.ix8 % 2 = j := ⟨_, rfl⟩
              have f1 : ¬ (5 : Int) = 0 := by decide
              have f2 : ¬ (2 : Int) = 0 := by decide
              have f3 : y.id8.tmod 5 = i5 := by rw [← hi5]; exact Int.tmod_eq_emod_of_nonneg p1
              have f4 : y.ix8.tmod 2 = j2 := by rw [← hj2]; exact Int.tmod_eq_emod_of_nonneg p3
              have f5 : IntKind.u8.wrap i5 = i5 := IntWalk.u8_in _ (by omega)
              have f6 : IntKind.u8.wrap j2 = j2 := IntWalk.u8_in _ (by omega)
              have f7 : IntKind.i64.wrap i5 = i5 := IntWalk.i64_in _ (by omega)
              have f8 : IntKind.u32.wrap j2 = j2 := IntWalk.u32_in _ (by omega)
              have fj : 0 ≤ j2 ∧ j2 ≤ 1 := by omega
              have CI := Lib.hid (fun V => Co.id_det i5 V)
              have IS := Lib.hid (Co.idT_size i5 32)
              generalize Co.idT i5 32 = pid at CI IS
              have Z7 := Lib.hid hz7
              have g6l : ¬ g6 = w5.heap.size := by have := hM.out.ex; obtain ⟨_, _, _, _, _, h2, _⟩ := this; have := h2.cells.2.2.2.2.2; omega
              have g6m : ¬ w5.heap.size = g6 := fun h => g6l h.symm
              clear hw7 hi5 hj2 y0 y1 y2 y3 y4 y5 y6 hz7 hb7
              go_wp2_with fail
              go_region_held3 (fun w' => w'.cell? ⟨w5.heap.size, 0, none⟩ = some (.int .u8 y.id8) ∧ w'.cell? ⟨w5.heap.size, 1, none⟩ = some (.int .u8 y.ix8))
                (go_keep)
                (first | (go_at_call 13; refine (CI.out _).mono ?_; rintro e w9 ⟨rfl, hB9⟩; have e1 := hB9.cell (p := ⟨w5.heap.size, 0, none⟩) (by have := Z7.out; simp; omega); have e2 := hB9.cell (p := ⟨w5.heap.size, 1, none⟩) (by have := Z7.out; simp; omega); have a0 := (hB9.cell (p := ⟨g6, 0, none⟩) vl).trans v0; have a1 := (hB9.cell (p := ⟨g6, 1, none⟩) vl).trans v1; have af := fun k => (World.frozen?_of_block (a := ⟨g6, k, none⟩) (hB9.block g6 vl)).trans (vf k)))
              all_goals go_wp2_with fail
              all_goals go_meet
              exact Lib.hid ((M7.out.below ((Below.refl _ _).drew.trans hB9)).point (by show pid.size ≤ 64; rw [IS.out]; decide) fj.1 (by omega))
            · have l1 : decide ((0 : Int) < (nc : Int)) = false := decide_eq_false (by omega)
              have l2 : decide (0 < nc) = false := decide_eq_false hnc
              go_wp2_with fail
              go_meet
              exact hM
          case rest =>
            have M6 := Lib.hid hcut.out
            obtain ⟨w6, hw6⟩ : ∃ w6, w6 = wc := ⟨_, rfl⟩
            rw [← hw6] at M6 ⊢
            clear hw6 hcut hM j0 j1 x0 B5 z5
            have z6 := M6.out.bel.size
            have hl8 : w8.heap.size < W.heap.size := by have := HZW.out; omega
            have x8 := XB.out w6 M6.out.bel 8 _ rfl
            have x4 := XB.out w6 M6.out.bel 4 _ rfl
            have x5 := XB.out w6 M6.out.bel 5 _ rfl
            have x6 := XB.out w6 M6.out.bel 6 _ rfl
            have x7 := XB.out w6 M6.out.bel 7 _ rfl
            go_upto_if 69 with (fail)
            go_cut [] (fun wx => Hid (InMid W g6 wx))
            case first =>
              cases xodd with
              | false =>
                go_wp2_with fail
                go_meet
                exact M6
              | true =>
                obtain ⟨wb, hwb⟩ : ∃ wb, wb = w6.alloc (.cells #[.string rid, .int .u32 rix, .int .u32 rsq, .slice Aw rl nw] 68) := ⟨_, rfl⟩
                have hbb : Below w6.heap.size w6 wb := by rw [hwb]; exact (Below.refl _ _).alloc (Nat.le_refl _) _
                have zb : wb.heap.size = w6.heap.size + 1 := by rw [hwb]; simp
                have hnb : wb.heap[w6.heap.size]? = some (.cells #[.string rid, .int .u32 rix, .int .u32 rsq, .slice Aw rl nw] 68 (0, 0)) := by rw [hwb]; exact heap_alloc_new w6 _
                have MB := M6.out.below hbb
                have hIN : Ins wb 0 wb.heap.size (.slice (some ⟨w6.heap.size, 0, none⟩) 1 1) [⟨rid, rix, rsq, rwt⟩] := by
                  refine ⟨_, 1, rfl, Nat.le_refl _, .inr ⟨w6.heap.size, 0, rfl, Nat.zero_le _, by omega, fun k y hk => ?_⟩⟩
                  have hk0 : k = 0 := by have := (List.getElem?_eq_some_iff.1 hk).1; simp at this; omega
                  subst hk0
                  simp at hk
                  subst hk
                  refine ⟨Co.cell_in (o := 0) hnb rfl, Co.cell_in (o := 1) hnb rfl, Co.cell_in (o := 2) hnb rfl, _, Co.cell_in (o := 3) hnb rfl, ?_⟩
                  have h1 := HWT.out.keep (Kept.of_below (M6.out.bel.trans (hbb.mono z6)) (by have := Z1.out; have := HS.out.bel.size; omega))
                  rw [← HRL.out] at h1
                  rw [← HRL.out]
                  exact h1.wide (Nat.le_refl _) (by have := Z1.out; have := HS.out.bel.size; omega)
                have CUT := Lib.hid (cut_own ⟨0, [⟨rid, rix, rsq, rwt⟩], [], 0⟩ 6 (.slice (some ⟨w6.heap.size, 0, none⟩) 1 1) (.slice none 0 0) wb wb.heap.size ⟨hIN, Outs.nil _ _ _⟩ (Nat.le_refl _) (by decide) (by simp) (by simp) (fun x hx => by
                  rw [List.mem_singleton.1 hx]
                  have := HOX.out.2.2.2.2.2.2.2.1
                  unfold maxLen at this
                  show rwt.length ≤ _
                  omega))
                have HWB := Lib.hid hwb
                have hfi := run_field_ins
                clear hIN hnb hbb hwb
                go_upto_region 10 with (fail)
                go_wp2_with fail
                rw [show World.alloc w6 _ = wb from HWB.out.symm]
                refine CUT.out.mono ?_
                rintro e wd ⟨vi', vo', rfl, ⟨hIO, _⟩, hbd⟩
                have hII := hIO.ins
                have XOK : InD.Ok (cutIn ⟨rid, rix, rsq, rwt⟩) := by
                  have := HOX.out.2.2
                  refine ⟨Nat.le_trans (cutS_size 40 rid) (by decide), this.2.1, this.2.2.1, this.2.2.2.1, this.2.2.2.2.1, ?_, ?_⟩
                  · simp [cutIn]; omega
                  · intro s hs
                    simp only [cutIn, List.mem_map] at hs
                    obtain ⟨s', _, rfl⟩ := hs
                    exact Nat.le_trans (cutS_size 90 s') (by decide)
                rw [show (cutTx 6 ⟨0, [⟨rid, rix, rsq, rwt⟩], [], 0⟩).ins = [cutIn ⟨rid, rix, rsq, rwt⟩] from rfl] at hII
                have HXK := Lib.hid XOK
                clear XOK hIO
                generalize cutIn ⟨rid, rix, rsq, rwt⟩ = xq at hII HXK
                obtain ⟨AI, cI, rfl⟩ := hII.form
                obtain ⟨bI, oI, rfl, l1, l2, t0, t1, t2, uI, t3, hsI⟩ := hII.at (k := 0) (x := xq) rfl
                obtain ⟨AQ, cQ, rfl⟩ : ∃ A c, uI = Value.slice A xq.wit.length c := by obtain ⟨A, c, rfl, _⟩ := hsI; exact ⟨A, c, rfl⟩
                simp only [Nat.zero_mul, Nat.add_zero] at t0 t1 t2 t3
                obtain ⟨_, _, _, _, _, hxb, _⟩ := (MB.below hbd).ex
                obtain ⟨v0, v1, v2, v3, vf, vl⟩ := hxb.cells
                have e1 : (([xq].length : Nat) : Int) = 1 := rfl
                have FIN := Lib.hid (MB.whole hbd HXK.out (hsI.wide (by omega) (Nat.le_refl _)) (Nat.le_refl _))
                generalize [xq].length = n1 at e1 hII
                clear hII hsI hxb MB hbd HXK
                go_wp2_with fail
                go_meet
                exact FIN
            case rest =>
              have M9 := Lib.hid hcut.out
              obtain ⟨w9, hw9⟩ : ∃ w9, w9 = wc := ⟨_, rfl⟩
              rw [← hw9] at M9 ⊢
              clear hw9 hcut x8 x4 x5 x6 x7 z6
              have T9 := Lib.hid (SW.out.below M9.out.bel)
              obtain ⟨x', u', lo, hi, hxo, hxb, hst, l1, l2, l3⟩ := M9.out.ex
              obtain ⟨AQ, cQ, rfl⟩ : ∃ A c, u' = Value.slice A x'.wit.length c := by obtain ⟨A, c, rfl, _⟩ := hst; exact ⟨A, c, rfl⟩
              obtain ⟨v0, v1, v2, v3, vf, vl⟩ := hxb.cells
              have b1 := Co.cell_in (o := 1) T9.out.blk rfl
              have tle := T9.out.le
              have tlt := T9.out.lt
              obtain ⟨cells, ⟨hown, hot⟩, hall⟩ := T9.out.ins
              obtain ⟨AI, cI, rfl⟩ := own_form hown
              obtain ⟨i46, hi46, y0, y1, y2⟩ := info_parts info43
              have HOW := Lib.hid hown
              have HAL := Lib.hid hall
              have HST := Lib.hid hst
              have HXO := Lib.hid hxo
              have hob : ∀ k, (Value.slice AI is.length cI).ownBlock = some k → k < lo ∨ hi ≤ k := fun k hk => by
                have := hot k hk
                have hW := SW.out.ins
                obtain ⟨cells2, ⟨_, hot2⟩, _⟩ := hW
                have := hot2 k hk
                exact .inl (by omega)
              have HOB := Lib.hid hob
              have l4 : w2.heap.size ≤ lo := by have := SW.out.le; omega
              have l5 : is.length ≤ 6 := by omega
              have HIL := Lib.hid hil
              clear hown hall hst hxo hot hob hil
              obtain ⟨xi, xx, xs, xw⟩ := x'
              simp only at *
              generalize hwl : xw.length = wl at v3 HST
              clear hwl
              go_wp2_with (at_builtin; refine wpList_append_lies _ rfl _ _ 32 rfl w2.heap.size 68 i46 _ 4 56 Tryz.underlying32 hi46 y0 y1 y2 rfl (by decide) _ _ _ rfl (HOW.out.alloc _) ⟨w9.heap.size, 0, none⟩ 1 1 [.string xi, .int .u32 xx, .int .u32 xs, .slice AQ wl cQ] rfl rfl (four_new _ _ _ _ _ _) (by intro u hu; simp at hu; rcases hu with rfl | rfl | rfl | rfl <;> rfl) (by decide) (by unfold maxLen; omega) (by omega) (by simp; omega) (w9.heap.size + 1) (by simp) ?_; intro g' cap w3 hown' hgrow hwas hgl; have hbk := (grown_below hgrow (own_block HOW.out) tle).block g tlt; have b1' := (World.cell?_of_block (a := ⟨g, 1, none⟩) hbk).trans b1; have bf := Lib.frozen_of_heap (hbk.trans T9.out.blk) 1)
              go_roundg (n - (k + 1))
              case measure => omega
              case rel => exact ⟨k + 1, _, is ++ [⟨xi, xx, xs, xw⟩], by omega, by omega, by go_num, by simp; exact HIL.out, Lib.hid (T9.out.push (x := ⟨xi, xx, xs, xw⟩) HXO.out HST.out l4 l2 HOB.out HOW.out HAL.out hgrow hwas hown')⟩
      · have k2 : decide (k < n) = false := decide_eq_false hlt
        have k3 : decide ((k : Int) < (n : Int)) = false := decide_eq_false (by omega)
        have b0 := Co.cell_in (o := 0) HS.out.blk rfl
        have b1 := Co.cell_in (o := 1) HS.out.blk rfl
        have b2 := Co.cell_in (o := 2) HS.out.blk rfl
        have b3 := Co.cell_in (o := 3) HS.out.blk rfl
        have hRR := (HS.out.bel.block (w.heap.size + 1) (by have := Z1.out; omega)).trans HR.out
        have e0 := Co.cell_in (o := 0) hRR rfl
        have e1 := Co.cell_in (o := 1) hRR rfl
        have e2 := Co.cell_in (o := 2) hRR rfl
        have e3 := Co.cell_in (o := 3) hRR rfl
        have f0 := Lib.frozen_of_heap hRR 0
        have f1 := Lib.frozen_of_heap hRR 1
        have f2 := Lib.frozen_of_heap hRR 2
        have f3 := Lib.frozen_of_heap hRR 3
        obtain ⟨lo, hi, l1, l2, l3, l4⟩ := HS.out.ne
        obtain ⟨AI, cI, rfl⟩ := HS.out.ins.ins.form
        obtain ⟨AO, cO, rfl⟩ := l1.form
        have TT := Lib.hid (show TxAt w8 (w.heap.size + 2) w8.heap.size (.slice AI is.length cI) (.slice AO os.length cO) ⟨ver, is, os, lk⟩ from ⟨HS.out.ins.ins.wide (by have := Z1.out; have := HS.out.lt; have := HS.out.ge; omega) (Nat.le_refl _), l1.wide (by have := Z1.out; omega) (by have := HS.out.le; omega)⟩)
        have OKT := Lib.hid (show TxD.Ok ⟨ver, is, os, lk⟩ from ⟨by show is.length ≤ 512; omega, HOO.out.1, HS.out.ok, HOO.out.2, HVL.out.1, HVL.out.2.1, HVL.out.2.2.1, HVL.out.2.2.2⟩)
        have BW := Lib.hid (B1.out.trans (HS.out.bel.mono (by have := Z1.out; omega)))
        clear hRR l1 hil
        go_wp2_with fail
        refine bodyPost_ret (v := .agg #[.int .u32 ver, .slice AI is.length cI, .slice AO os.length cO, .int .u32 lk]) (by simp [results, Tryz.results5, go_sem, e0, e1, e2, e3]) rfl ?_
        exact ⟨⟨ver, is, os, lk⟩, _, _, rfl, (TT.out.put4 (g := w.heap.size + 1) (.inl (by omega)) (.int .u32 ver) (.slice AI is.length cI) (.slice AO os.length cO) (.int .u32 lk)).wide (by omega) (Nat.le_of_eq (put4_size _ _ _ _ _ _).symm), OKT.out, put4_below BW.out (by omega) _ _ _ _⟩

end Go.Proofs.YtjclklppnkoehaaGreatDoor
