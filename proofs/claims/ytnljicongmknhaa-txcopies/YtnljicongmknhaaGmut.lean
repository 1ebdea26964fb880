/-
  Outputs in a row that is written, with a bound on their Scripts; Grant's answer is itself and is a base.
-/
import Derived.Test.YtnljicongmknhaaMut
import Derived.Test.YtnljicongmknhaaTell
import Derived.Test.YtnljicongmknhaaCut
import Derived.Test.YtnljicongmknhaaEqual
namespace Go.Proofs.Ytnljicongmknhaa
open Go.RowKit

/-- n outputs in a row that may be written, no Script longer than M. -/
def MutB (w : World) (lo hi M : Nat) (A : Option Addr) (n : Nat) : Prop :=
  n = 0 ∨ ∃ g cur, A = some ⟨g, 0, none⟩ ∧ lo ≤ g ∧ g < hi ∧ w.heap[g]? = some (.cells cur 52 (0, 0)) ∧ ∀ j, j < n → (∃ q, w.cell? ⟨g, j * 2, none⟩ = some (.int .i64 q)) ∧ (∃ s : ByteArray, w.cell? ⟨g, j * 2 + 1, none⟩ = some (.string s) ∧ s.size ≤ M)
theorem MutB.of_own {w : World} {base top M : Nat} {A : Option Addr} {c n : Nat} {ys : List OutD} (h : OutsOwn w base top (.slice A n c) ys) (hM : ∀ y ∈ ys, y.scr.size ≤ M) : MutB w base top M A ys.length := by
  obtain ⟨cells, ⟨hown, ht⟩, hall⟩ := h
  rcases hown.2 with ⟨_, h0⟩ | ⟨g, cap, cur, hv, hb, hg, hn, hm, hs, htk⟩
  · exact .inl h0
  · injection hv with hA
    subst hA
    refine .inr ⟨g, cur, rfl, hb, ht g rfl, hg, fun j hj => ?_⟩
    obtain ⟨c0, c1⟩ := hall j ys[j] (List.getElem?_eq_getElem hj)
    have hc := hown.cells (g := g) rfl
    have a0 := hc _ _ c0
    have a1 := hc _ _ c1
    simp only [Addr.add_lit, Nat.zero_add] at a0 a1
    exact ⟨⟨_, a0⟩, ⟨_, a1, hM _ (List.getElem_mem hj)⟩⟩
theorem MutB.keep {w w' : World} {lo hi M : Nat} {A : Option Addr} {n : Nat} (h : MutB w lo hi M A n) (hk : Kept lo hi w w') : MutB w' lo hi M A n := by
  rcases h with h | ⟨g, cur, rfl, h1, h2, hg, h⟩
  · exact .inl h
  · have e := hk g h1 h2
    have ec := fun o => World.cell?_of_block (w := w) (w' := w') (a := ⟨g, o, none⟩) e
    refine .inr ⟨g, cur, rfl, h1, h2, e.trans hg, fun j hj => ?_⟩
    obtain ⟨⟨q, a0⟩, ⟨s, a1, hs⟩⟩ := h j hj
    exact ⟨⟨q, (ec _).trans a0⟩, ⟨s, (ec _).trans a1, hs⟩⟩
/-- A Script is written. -/
theorem MutB.setScr {w : World} {lo hi M M' : Nat} {g n k : Nat} (h : MutB w lo hi M (some ⟨g, 0, none⟩) n) (hM : M ≤ M') (s' : ByteArray) (hs' : s'.size ≤ M') : MutB (w.setCell ⟨g, k * 2 + 1, none⟩ (.string s')) lo hi M' (some ⟨g, 0, none⟩) n := by
  rcases h with h | ⟨g', cur, hA, h1, h2, hg, h⟩
  · exact .inl h
  · injection hA with hA
    injection hA with e1
    subst e1
    refine .inr ⟨g, _, rfl, h1, h2, block_set _ hg, fun j hj => ?_⟩
    obtain ⟨⟨q, a0⟩, ⟨s, a1, hs⟩⟩ := h j hj
    have b0 := cell_set (o := k * 2 + 1) (.string s') a0
    have b1 := cell_set (o := k * 2 + 1) (.string s') a1
    rw [if_neg (by omega)] at b0
    refine ⟨⟨q, b0⟩, ?_⟩
    by_cases ej : j * 2 + 1 = k * 2 + 1
    · rw [if_pos ej] at b1; exact ⟨s', b1, hs'⟩
    · rw [if_neg ej] at b1; exact ⟨s, b1, by omega⟩
theorem grant_base (height : Int) (ys : List OutD) : isBase (grantD height ys).ins = true := (ptB_iff _ _ _ _).2 ⟨rfl, rfl⟩
theorem txB_refl (t : TxD) : txB t t = true := by
  have h1 : allB inB t.ins t.ins = true := allB_refl (fun x => by simp [inB, ptB, strsB, allB_refl (r := strB) (fun s => by simp [strB])]) _
  have h2 : allB outB t.outs t.outs = true := allB_refl (fun x => by simp [outB, strB]) _
  simp [txB, h1, h2]

/-- Where TxGrants stands behind its third statement: both transactions in their boxes, in memory behind the list that is written. -/
structure GrS (w w1 : World) (height : Int) (ys : List OutD) (B : Option Addr) (M g5 g6 : Nat) (i5 o5 i6 o6 : Value) (wx : World) : Prop where
  b5 : Boxed wx g5 (.int .u32 2) i5 o5 (.int .u32 (height % 4294967296))
  b6 : Boxed wx g6 (.int .u32 2) i6 o6 (.int .u32 (height % 4294967296))
  t5 : TxAt wx w1.heap.size wx.heap.size i5 o5 (grantD height ys)
  t6 : TxAt wx w1.heap.size wx.heap.size i6 o6 (grantD height ys)
  own : MutB wx (w.heap.size + 3) w1.heap.size M B ys.length
  bel : Below w.heap.size w wx
  l5 : w1.heap.size ≤ g5 ∧ g5 < wx.heap.size
  l6 : w1.heap.size ≤ g6 ∧ g6 < wx.heap.size
  le : w.heap.size + 3 ≤ w1.heap.size ∧ w1.heap.size ≤ wx.heap.size
theorem GrS.below {w w1 : World} {height : Int} {ys : List OutD} {B : Option Addr} {M g5 g6 : Nat} {i5 o5 i6 o6 : Value} {wx wy : World} (h : GrS w w1 height ys B M g5 g6 i5 o5 i6 o6 wx) (hb : Below wx.heap.size wx wy) : GrS w w1 height ys B M g5 g6 i5 o5 i6 o6 wy := by
  have hs := hb.size
  have hle := h.le
  have h5 := h.l5
  have h6 := h.l6
  exact ⟨h.b5.below h5.2 hb, h.b6.below h6.2 hb, (h.t5.keep (Kept.of_below hb (Nat.le_refl _))).wide (Nat.le_refl _) hs, (h.t6.keep (Kept.of_below hb (Nat.le_refl _))).wide (Nat.le_refl _) hs, h.own.keep (Kept.of_below hb hle.2), below_next h.bel (by omega) hb, by omega, by omega, by omega⟩
theorem GrS.write {w w1 : World} {height : Int} {ys : List OutD} {M M' g5 g6 g k : Nat} {i5 o5 i6 o6 : Value} {wx : World} (h : GrS w w1 height ys (some ⟨g, 0, none⟩) M g5 g6 i5 o5 i6 o6 wx) (hg : w.heap.size + 3 ≤ g ∧ g < w1.heap.size) (hM : M ≤ M') (s : ByteArray) (hs : s.size ≤ M') :
    GrS w w1 height ys (some ⟨g, 0, none⟩) M' g5 g6 i5 o5 i6 o6 (wx.setCell ⟨g, k * 2 + 1, none⟩ (.string s)) := by
  have hle := h.le
  have h5 := h.l5
  have h6 := h.l6
  have hz : (wx.setCell ⟨g, k * 2 + 1, none⟩ (.string s)).heap.size = wx.heap.size := by simp [World.setCell]
  have hk : ∀ top, Kept w1.heap.size top wx (wx.setCell ⟨g, k * 2 + 1, none⟩ (.string s)) := fun _ => Kept.setCell (.inl hg.2) _
  have hc : ∀ b o, w1.heap.size ≤ b → (wx.setCell ⟨g, k * 2 + 1, none⟩ (.string s)).cell? ⟨b, o, none⟩ = wx.cell? ⟨b, o, none⟩ := fun b o hb => (hk (b + 1)).cell hb (Nat.lt_succ_self _)
  refine ⟨?_, ?_, ?_, ?_, h.own.setScr hM s hs, ?_, by rw [hz]; exact h5, by rw [hz]; exact h6, by rw [hz]; exact hle⟩
  · exact ⟨(hc _ _ h5.1).trans h.b5.1, (hc _ _ h5.1).trans h.b5.2.1, (hc _ _ h5.1).trans h.b5.2.2.1, (hc _ _ h5.1).trans h.b5.2.2.2⟩
  · exact ⟨(hc _ _ h6.1).trans h.b6.1, (hc _ _ h6.1).trans h.b6.2.1, (hc _ _ h6.1).trans h.b6.2.2.1, (hc _ _ h6.1).trans h.b6.2.2.2⟩
  · rw [hz]; exact h.t5.keep (hk _)
  · rw [hz]; exact h.t6.keep (hk _)
  · exact h.bel.setCell (by show w.heap.size ≤ g; omega) _

end Go.Proofs.Ytnljicongmknhaa
