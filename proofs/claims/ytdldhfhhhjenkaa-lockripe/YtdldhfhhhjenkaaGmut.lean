/-
  Outputs in a row that is written, with a bound on their Scripts; Grant's answer is itself and is a base.
  Lists of the call's own that are written, with bounds that hold whatever is written; and the lists that they are.
-/
import Derived.Test.YtdldhfhhhjenkaaOwn
import Derived.Test.YtdldhfhhhjenkaaTell
import Derived.Test.YtdldhfhhhjenkaaCut
import Derived.Test.YtdldhfhhhjenkaaEq

namespace Go.Proofs.Ytdldhfhhhjenkaa
open Go.RowKit

/-- n outputs in a row that may be written, no Script longer than M. -/
def MutB (w : World) (lo hi M : Nat) (A : Option Addr) (n : Nat) : Prop :=
  n = 0 ∨ ∃ g cur, A = some ⟨g, 0, none⟩ ∧ lo ≤ g ∧ g < hi ∧ w.heap[g]? = some (.cells cur 87 (0, 0)) ∧ ∀ j, j < n → (∃ q, w.cell? ⟨g, j * 2, none⟩ = some (.int .i64 q)) ∧ (∃ s : ByteArray, w.cell? ⟨g, j * 2 + 1, none⟩ = some (.string s) ∧ s.size ≤ M)
theorem MutB.of_own {w : World} {base top M : Nat} {A : Option Addr} {c n : Nat} {ys : List OutD} (h : OutsOwn w base top (.slice A n c) ys) (hM : ∀ y ∈ ys, y.scr.size ≤ M) : MutB w base top M A ys.length := by
  obtain ⟨cells, ⟨hown, ht⟩, hall⟩ := h
  rcases hown.2 with ⟨_, h0⟩ | ⟨g, cap, cur, hv, hb, hg, hn, hm, hs, htk⟩
  · exact .inl h0
  · injection hv with hA
    subst hA
    refine .inr ⟨g, cur, rfl, hb, ht g rfl, hg, fun j hj => ?_⟩
    obtain ⟨c0, c1⟩ := hall j ys[j] (List.getElem?_eq_getElem hj)
    have hc := hown.cells (g := g) rfl
    have a0 := hc _ _ c0
    have a1 := hc _ _ c1
    simp only [Addr.add_lit, Nat.zero_add] at a0 a1
    exact ⟨⟨_, a0⟩, ⟨_, a1, hM _ (List.getElem_mem hj)⟩⟩
theorem MutB.keep {w w' : World} {lo hi M : Nat} {A : Option Addr} {n : Nat} (h : MutB w lo hi M A n) (hk : Kept lo hi w w') : MutB w' lo hi M A n := by
  rcases h with h | ⟨g, cur, rfl, h1, h2, hg, h⟩
  · exact .inl h
  · have e := hk g h1 h2
    have ec := fun o => World.cell?_of_block (w := w) (w' := w') (a := ⟨g, o, none⟩) e
    refine .inr ⟨g, cur, rfl, h1, h2, e.trans hg, fun j hj => ?_⟩
    obtain ⟨⟨q, a0⟩, ⟨s, a1, hs⟩⟩ := h j hj
    exact ⟨⟨q, (ec _).trans a0⟩, ⟨s, (ec _).trans a1, hs⟩⟩
/-- A Script is written. -/
theorem MutB.setScr {w : World} {lo hi M M' : Nat} {g n k : Nat} (h : MutB w lo hi M (some ⟨g, 0, none⟩) n) (hM : M ≤ M') (s' : ByteArray) (hs' : s'.size ≤ M') : MutB (w.setCell ⟨g, k * 2 + 1, none⟩ (.string s')) lo hi M' (some ⟨g, 0, none⟩) n := by
  rcases h with h | ⟨g', cur, hA, h1, h2, hg, h⟩
  · exact .inl h
  · injection hA with hA
    injection hA with e1
    subst e1
    refine .inr ⟨g, _, rfl, h1, h2, block_set _ hg, fun j hj => ?_⟩
    obtain ⟨⟨q, a0⟩, ⟨s, a1, hs⟩⟩ := h j hj
    have b0 := cell_set (o := k * 2 + 1) (.string s') a0
    have b1 := cell_set (o := k * 2 + 1) (.string s') a1
    rw [if_neg (by omega)] at b0
    refine ⟨⟨q, b0⟩, ?_⟩
    by_cases ej : j * 2 + 1 = k * 2 + 1
    · rw [if_pos ej] at b1; exact ⟨s', b1, hs'⟩
    · rw [if_neg ej] at b1; exact ⟨s, b1, by omega⟩
theorem grant_base (height : Int) (ys : List OutD) : isBase (grantD height ys).ins = true := (ptB_iff _ _ _ _).2 ⟨rfl, rfl⟩
theorem txB_refl (t : TxD) : txB t t = true := by
  have h1 : allB inB t.ins t.ins = true := allB_refl (fun x => by simp [inB, ptB, strsB, allB_refl (r := strB) (fun s => by simp [strB])]) _
  have h2 : allB outB t.outs t.outs = true := allB_refl (fun x => by simp [outB, strB]) _
  simp [txB, h1, h2]

/-- Where TxGrants stands behind its third statement: both transactions in their boxes, in memory behind the list that is written. -/
structure GrS (w w1 : World) (height : Int) (ys : List OutD) (B : Option Addr) (M g5 g6 : Nat) (i5 o5 i6 o6 : Value) (wx : World) : Prop where
  b5 : T_Boxed wx g5 (.int .u32 2) i5 o5 (.int .u32 (height % 4294967296))
  b6 : T_Boxed wx g6 (.int .u32 2) i6 o6 (.int .u32 (height % 4294967296))
  t5 : TxAt wx w1.heap.size wx.heap.size i5 o5 (grantD height ys)
  t6 : TxAt wx w1.heap.size wx.heap.size i6 o6 (grantD height ys)
  own : MutB wx (w.heap.size + 3) w1.heap.size M B ys.length
  bel : Below w.heap.size w wx
  l5 : w1.heap.size ≤ g5 ∧ g5 < wx.heap.size
  l6 : w1.heap.size ≤ g6 ∧ g6 < wx.heap.size
  le : w.heap.size + 3 ≤ w1.heap.size ∧ w1.heap.size ≤ wx.heap.size
theorem GrS.below {w w1 : World} {height : Int} {ys : List OutD} {B : Option Addr} {M g5 g6 : Nat} {i5 o5 i6 o6 : Value} {wx wy : World} (h : GrS w w1 height ys B M g5 g6 i5 o5 i6 o6 wx) (hb : Below wx.heap.size wx wy) : GrS w w1 height ys B M g5 g6 i5 o5 i6 o6 wy := by
  have hs := hb.size
  have hle := h.le
  have h5 := h.l5
  have h6 := h.l6
  exact ⟨h.b5.below h5.2 hb, h.b6.below h6.2 hb, (h.t5.keep (Kept.of_below hb (Nat.le_refl _))).wide (Nat.le_refl _) hs, (h.t6.keep (Kept.of_below hb (Nat.le_refl _))).wide (Nat.le_refl _) hs, h.own.keep (Kept.of_below hb hle.2), below_next h.bel (by omega) hb, by omega, by omega, by omega⟩
theorem GrS.write {w w1 : World} {height : Int} {ys : List OutD} {M M' g5 g6 g k : Nat} {i5 o5 i6 o6 : Value} {wx : World} (h : GrS w w1 height ys (some ⟨g, 0, none⟩) M g5 g6 i5 o5 i6 o6 wx) (hg : w.heap.size + 3 ≤ g ∧ g < w1.heap.size) (hM : M ≤ M') (s : ByteArray) (hs : s.size ≤ M') :
    GrS w w1 height ys (some ⟨g, 0, none⟩) M' g5 g6 i5 o5 i6 o6 (wx.setCell ⟨g, k * 2 + 1, none⟩ (.string s)) := by
  have hle := h.le
  have h5 := h.l5
  have h6 := h.l6
  have hz : (wx.setCell ⟨g, k * 2 + 1, none⟩ (.string s)).heap.size = wx.heap.size := by simp [World.setCell]
  have hk : ∀ top, Kept w1.heap.size top wx (wx.setCell ⟨g, k * 2 + 1, none⟩ (.string s)) := fun _ => Kept.setCell (.inl hg.2) _
  have hc : ∀ b o, w1.heap.size ≤ b → (wx.setCell ⟨g, k * 2 + 1, none⟩ (.string s)).cell? ⟨b, o, none⟩ = wx.cell? ⟨b, o, none⟩ := fun b o hb => (hk (b + 1)).cell hb (Nat.lt_succ_self _)
  refine ⟨?_, ?_, ?_, ?_, h.own.setScr hM s hs, ?_, by rw [hz]; exact h5, by rw [hz]; exact h6, by rw [hz]; exact hle⟩
  · exact ⟨(hc _ _ h5.1).trans h.b5.1, (hc _ _ h5.1).trans h.b5.2.1, (hc _ _ h5.1).trans h.b5.2.2.1, (hc _ _ h5.1).trans h.b5.2.2.2⟩
  · exact ⟨(hc _ _ h6.1).trans h.b6.1, (hc _ _ h6.1).trans h.b6.2.1, (hc _ _ h6.1).trans h.b6.2.2.1, (hc _ _ h6.1).trans h.b6.2.2.2⟩
  · rw [hz]; exact h.t5.keep (hk _)
  · rw [hz]; exact h.t6.keep (hk _)
  · exact h.bel.setCell (by show w.heap.size ≤ g; omega) _

end Go.Proofs.Ytdldhfhhhjenkaa

namespace Go.Proofs.Ytdldhfhhhjenkaa
open Go.RowKit

/-- n inputs in a row that may be written, each within its bounds. -/
def FitI (w : World) (lo hi : Nat) (A : Option Addr) (n : Nat) : Prop :=
  n = 0 ∨ ∃ g cur, A = some ⟨g, 0, none⟩ ∧ lo ≤ g ∧ g < hi ∧ w.heap[g]? = some (.cells cur 66 (0, 0)) ∧ ∀ j, j < n → (∃ s : ByteArray, w.cell? ⟨g, j * 4, none⟩ = some (.string s) ∧ s.size ≤ 64) ∧ (∃ q, w.cell? ⟨g, j * 4 + 1, none⟩ = some (.int .u32 q) ∧ 0 ≤ q ∧ q ≤ 4294967295) ∧ (∃ q, w.cell? ⟨g, j * 4 + 2, none⟩ = some (.int .u32 q) ∧ 0 ≤ q ∧ q ≤ 4294967295) ∧
    ∃ u m, w.cell? ⟨g, j * 4 + 3, none⟩ = some u ∧ m ≤ 8 ∧ MutS w lo hi 128 u m

theorem FitI.of_own {w : World} {base top : Nat} {A : Option Addr} {c n : Nat} {ys : List InD} (h : InsOwn w base top (.slice A n c) ys) (hok : ∀ y ∈ ys, y.Ok) : FitI w base top A ys.length := by
  obtain ⟨cells, ⟨hown, ht⟩, hall⟩ := h
  rcases hown.2 with ⟨_, h0⟩ | ⟨g, cap, cur, hv, hb, hg, hn, hm, hs, htk⟩
  · exact .inl h0
  · injection hv with hA
    subst hA
    refine .inr ⟨g, cur, rfl, hb, ht g rfl, hg, fun j hj => ?_⟩
    obtain ⟨c0, c1, c2, u, c3, hst⟩ := hall j ys[j] (List.getElem?_eq_getElem hj)
    have hc := hown.cells (g := g) rfl
    have a0 := hc _ _ c0
    have a1 := hc _ _ c1
    have a2 := hc _ _ c2
    have a3 := hc _ _ c3
    simp only [Addr.add_lit, Nat.zero_add] at a0 a1 a2 a3
    have ho := hok _ (List.getElem_mem hj)
    exact ⟨⟨_, a0, ho.1⟩, ⟨_, a1, ho.2.1, ho.2.2.1⟩, ⟨_, a2, ho.2.2.2.1, ho.2.2.2.2.1⟩, u, _, a3, ho.2.2.2.2.2.1, MutS.of_own hst ho.2.2.2.2.2.2⟩
theorem FitI.keep {w w' : World} {lo hi : Nat} {A : Option Addr} {n : Nat} (h : FitI w lo hi A n) (h43 : StayE lo hi 66 w w') (h9 : StayE lo hi 9 w w') : FitI w' lo hi A n := by
  rcases h with h | ⟨g, cur, rfl, h1, h2, hg, h⟩
  · exact .inl h
  · have e := h43 g cur h1 h2 hg
    have ec := fun o => World.cell?_of_block (w := w) (w' := w') (a := ⟨g, o, none⟩) e
    refine .inr ⟨g, cur, rfl, h1, h2, e.trans hg, fun j hj => ?_⟩
    obtain ⟨⟨s, a0, b0⟩, ⟨q, a1, b1⟩, ⟨r, a2, b2⟩, u, m, a3, hm, hs⟩ := h j hj
    exact ⟨⟨s, (ec _).trans a0, b0⟩, ⟨q, (ec _).trans a1, b1⟩, ⟨r, (ec _).trans a2, b2⟩, u, m, (ec _).trans a3, hm, hs.keep h9⟩
/-- An ID is written. -/
theorem FitI.setId {w : World} {lo hi : Nat} {g n k : Nat} (h : FitI w lo hi (some ⟨g, 0, none⟩) n) {s' : ByteArray} (hs' : s'.size ≤ 64) : FitI (w.setCell ⟨g, k * 4, none⟩ (.string s')) lo hi (some ⟨g, 0, none⟩) n := by
  rcases h with h | ⟨g', cur, hA, h1, h2, hg, h⟩
  · exact .inl h
  · injection hA with hA
    injection hA with e1
    subst e1
    refine .inr ⟨g, _, rfl, h1, h2, block_set _ hg, fun j hj => ?_⟩
    obtain ⟨⟨s, a0, z0⟩, ⟨q, a1, z1⟩, ⟨r, a2, z2⟩, u, m, a3, hm, hs⟩ := h j hj
    have b0 := cell_set (o := k * 4) (.string s') a0
    have b1 := cell_set (o := k * 4) (.string s') a1
    have b2 := cell_set (o := k * 4) (.string s') a2
    have b3 := cell_set (o := k * 4) (.string s') a3
    rw [if_neg (by omega)] at b1 b2 b3
    refine ⟨?_, ⟨q, b1, z1⟩, ⟨r, b2, z2⟩, u, m, b3, hm, hs.keep (fun b c _ _ hb => Below.heap_setCell _ _ _ _ (blk_type hb hg (by decide)))⟩
    by_cases ej : j * 4 = k * 4
    · rw [if_pos ej] at b0; exact ⟨s', b0, hs'⟩
    · rw [if_neg ej] at b0; exact ⟨s, b0, z0⟩
/-- A Witness is written. -/
theorem FitI.setWit {w : World} {lo hi : Nat} {g n k : Nat} (h : FitI w lo hi (some ⟨g, 0, none⟩) n) {u' : Value} {m' : Nat} (hm' : m' ≤ 8) (hu' : MutS w lo hi 128 u' m') : FitI (w.setCell ⟨g, k * 4 + 3, none⟩ u') lo hi (some ⟨g, 0, none⟩) n := by
  rcases h with h | ⟨g', cur, hA, h1, h2, hg, h⟩
  · exact .inl h
  · injection hA with hA
    injection hA with e1
    subst e1
    refine .inr ⟨g, _, rfl, h1, h2, block_set _ hg, fun j hj => ?_⟩
    obtain ⟨⟨s, a0, z0⟩, ⟨q, a1, z1⟩, ⟨r, a2, z2⟩, u, m, a3, hm, hs⟩ := h j hj
    have b0 := cell_set (o := k * 4 + 3) u' a0
    have b1 := cell_set (o := k * 4 + 3) u' a1
    have b2 := cell_set (o := k * 4 + 3) u' a2
    have b3 := cell_set (o := k * 4 + 3) u' a3
    rw [if_neg (by omega)] at b0 b1 b2
    have st : StayE lo hi 9 w (w.setCell ⟨g, k * 4 + 3, none⟩ u') := fun b c _ _ hb => Below.heap_setCell _ _ _ _ (blk_type hb hg (by decide))
    by_cases ej : j * 4 + 3 = k * 4 + 3
    · rw [if_pos ej] at b3
      exact ⟨⟨s, b0, z0⟩, ⟨q, b1, z1⟩, ⟨r, b2, z2⟩, u', m', b3, hm', hu'.keep st⟩
    · rw [if_neg ej] at b3
      exact ⟨⟨s, b0, z0⟩, ⟨q, b1, z1⟩, ⟨r, b2, z2⟩, u, m, b3, hm, hs.keep st⟩
/-- A text of a Witness is written. -/
theorem FitI.setStr {w : World} {lo hi : Nat} {A : Option Addr} {n : Nat} (h : FitI w lo hi A n) {g o : Nat} {c9 : Array Value} (h9 : w.heap[g]? = some (.cells c9 9 (0, 0))) {s : ByteArray} (hs : s.size ≤ 128) : FitI (w.setCell ⟨g, o, none⟩ (.string s)) lo hi A n := by
  rcases h with h | ⟨g', cur, rfl, h1, h2, hg, h⟩
  · exact .inl h
  · have hne : g' ≠ g := blk_type hg h9 (by decide)
    have e := Below.heap_setCell w ⟨g, o, none⟩ (.string s) g' hne
    have ec := fun o' => World.cell?_of_block (w := w) (w' := w.setCell ⟨g, o, none⟩ (.string s)) (a := ⟨g', o', none⟩) e
    refine .inr ⟨g', cur, rfl, h1, h2, e.trans hg, fun j hj => ?_⟩
    obtain ⟨⟨r, a0, z0⟩, ⟨q, a1, z1⟩, ⟨q', a2, z2⟩, u, m, a3, hm, hst⟩ := h j hj
    exact ⟨⟨r, (ec _).trans a0, z0⟩, ⟨q, (ec _).trans a1, z1⟩, ⟨q', (ec _).trans a2, z2⟩, u, m, (ec _).trans a3, hm, hst.set (Nat.le_refl _) hs⟩

/-- n outputs in a row that may be written, each within its bounds. -/
def FitO (w : World) (lo hi : Nat) (A : Option Addr) (n : Nat) : Prop :=
  n = 0 ∨ ∃ g cur, A = some ⟨g, 0, none⟩ ∧ lo ≤ g ∧ g < hi ∧ w.heap[g]? = some (.cells cur 87 (0, 0)) ∧ ∀ j, j < n → (∃ q, w.cell? ⟨g, j * 2, none⟩ = some (.int .i64 q) ∧ -9223372036854775808 ≤ q ∧ q ≤ 9223372036854775807) ∧ (∃ s : ByteArray, w.cell? ⟨g, j * 2 + 1, none⟩ = some (.string s) ∧ s.size ≤ 64)
theorem FitO.of_own {w : World} {base top : Nat} {A : Option Addr} {c n : Nat} {ys : List OutD} (h : OutsOwn w base top (.slice A n c) ys) (hok : ∀ y ∈ ys, y.Ok) : FitO w base top A ys.length := by
  obtain ⟨cells, ⟨hown, ht⟩, hall⟩ := h
  rcases hown.2 with ⟨_, h0⟩ | ⟨g, cap, cur, hv, hb, hg, hn, hm, hs, htk⟩
  · exact .inl h0
  · injection hv with hA
    subst hA
    refine .inr ⟨g, cur, rfl, hb, ht g rfl, hg, fun j hj => ?_⟩
    obtain ⟨c0, c1⟩ := hall j ys[j] (List.getElem?_eq_getElem hj)
    have hc := hown.cells (g := g) rfl
    have a0 := hc _ _ c0
    have a1 := hc _ _ c1
    simp only [Addr.add_lit, Nat.zero_add] at a0 a1
    have ho := hok _ (List.getElem_mem hj)
    exact ⟨⟨_, a0, ho.1, ho.2.1⟩, ⟨_, a1, ho.2.2⟩⟩
theorem FitO.keep {w w' : World} {lo hi : Nat} {A : Option Addr} {n : Nat} (h : FitO w lo hi A n) (h52 : StayE lo hi 87 w w') : FitO w' lo hi A n := by
  rcases h with h | ⟨g, cur, rfl, h1, h2, hg, h⟩
  · exact .inl h
  · have e := h52 g cur h1 h2 hg
    have ec := fun o => World.cell?_of_block (w := w) (w' := w') (a := ⟨g, o, none⟩) e
    refine .inr ⟨g, cur, rfl, h1, h2, e.trans hg, fun j hj => ?_⟩
    obtain ⟨⟨q, a0, z0⟩, ⟨s, a1, z1⟩⟩ := h j hj
    exact ⟨⟨q, (ec _).trans a0, z0⟩, ⟨s, (ec _).trans a1, z1⟩⟩
theorem FitO.setVal {w : World} {lo hi : Nat} {g n k : Nat} (h : FitO w lo hi (some ⟨g, 0, none⟩) n) {q' : Int} (hq : -9223372036854775808 ≤ q' ∧ q' ≤ 9223372036854775807) : FitO (w.setCell ⟨g, k * 2, none⟩ (.int .i64 q')) lo hi (some ⟨g, 0, none⟩) n := by
  rcases h with h | ⟨g', cur, hA, h1, h2, hg, h⟩
  · exact .inl h
  · injection hA with hA
    injection hA with e1
    subst e1
    refine .inr ⟨g, _, rfl, h1, h2, block_set _ hg, fun j hj => ?_⟩
    obtain ⟨⟨q, a0, z0⟩, ⟨s, a1, z1⟩⟩ := h j hj
    have b0 := cell_set (o := k * 2) (.int .i64 q') a0
    have b1 := cell_set (o := k * 2) (.int .i64 q') a1
    rw [if_neg (by omega)] at b1
    refine ⟨?_, ⟨s, b1, z1⟩⟩
    by_cases ej : j * 2 = k * 2
    · rw [if_pos ej] at b0; exact ⟨q', b0, hq⟩
    · rw [if_neg ej] at b0; exact ⟨q, b0, z0⟩
theorem FitO.setScr {w : World} {lo hi : Nat} {g n k : Nat} (h : FitO w lo hi (some ⟨g, 0, none⟩) n) {s' : ByteArray} (hs' : s'.size ≤ 64) : FitO (w.setCell ⟨g, k * 2 + 1, none⟩ (.string s')) lo hi (some ⟨g, 0, none⟩) n := by
  rcases h with h | ⟨g', cur, hA, h1, h2, hg, h⟩
  · exact .inl h
  · injection hA with hA
    injection hA with e1
    subst e1
    refine .inr ⟨g, _, rfl, h1, h2, block_set _ hg, fun j hj => ?_⟩
    obtain ⟨⟨q, a0, z0⟩, ⟨s, a1, z1⟩⟩ := h j hj
    have b0 := cell_set (o := k * 2 + 1) (.string s') a0
    have b1 := cell_set (o := k * 2 + 1) (.string s') a1
    rw [if_neg (by omega)] at b0
    refine ⟨⟨q, b0, z0⟩, ?_⟩
    by_cases ej : j * 2 + 1 = k * 2 + 1
    · rw [if_pos ej] at b1; exact ⟨s', b1, hs'⟩
    · rw [if_neg ej] at b1; exact ⟨s, b1, z1⟩

/-- Finitely many choices are a list. -/
theorem list_of {α : Type} (p : Nat → α → Prop) (n : Nat) (h : ∀ j, j < n → ∃ x, p j x) : ∃ xs : List α, xs.length = n ∧ ∀ j x, xs[j]? = some x → p j x := by
  induction n with
  | zero => exact ⟨[], rfl, fun j x hx => by simp at hx⟩
  | succ n ih =>
    obtain ⟨xs, hl, hp⟩ := ih (fun j hj => h j (by omega))
    obtain ⟨x, hx⟩ := h n (by omega)
    refine ⟨xs ++ [x], by simp [hl], fun j y hy => ?_⟩
    by_cases hj : j < xs.length
    · rw [List.getElem?_append_left hj] at hy; exact hp j y hy
    · have hj2 : j = xs.length := by
        have := (List.getElem?_eq_some_iff.1 hy).1
        simp at this; omega
      subst hj2
      simp at hy
      subst hy
      rw [hl]; exact hx

/-- The inputs xs in a row that may be written. -/
def RowI (w : World) (lo hi : Nat) (A : Option Addr) (xs : List InD) : Prop :=
  xs = [] ∨ ∃ g cur, A = some ⟨g, 0, none⟩ ∧ lo ≤ g ∧ g < hi ∧ w.heap[g]? = some (.cells cur 66 (0, 0)) ∧ ∀ j x, xs[j]? = some x → InAt w lo hi g (j * 4) x
/-- The outputs xs in a row that may be written. -/
def RowO (w : World) (lo hi : Nat) (A : Option Addr) (xs : List OutD) : Prop :=
  xs = [] ∨ ∃ g cur, A = some ⟨g, 0, none⟩ ∧ lo ≤ g ∧ g < hi ∧ w.heap[g]? = some (.cells cur 87 (0, 0)) ∧ ∀ j x, xs[j]? = some x → OutAt w g (j * 2) x
theorem RowI.ins {w : World} {lo hi : Nat} {A : Option Addr} {xs : List InD} {c : Nat} (h : RowI w lo hi A xs) (hc : xs.length ≤ c) : Ins w lo hi (.slice A xs.length c) xs := by
  refine ⟨A, c, rfl, hc, ?_⟩
  rcases h with h | ⟨g, cur, rfl, h1, h2, hg, h⟩
  · exact .inl h
  · exact .inr ⟨g, 0, rfl, h1, h2, fun k x hx => by rw [Nat.zero_add]; exact h k x hx⟩
theorem RowO.outs {w : World} {lo hi : Nat} {A : Option Addr} {xs : List OutD} {c : Nat} (h : RowO w lo hi A xs) (hc : xs.length ≤ c) : Outs w lo hi (.slice A xs.length c) xs := by
  refine ⟨A, c, rfl, hc, ?_⟩
  rcases h with h | ⟨g, cur, rfl, h1, h2, hg, h⟩
  · exact .inl h
  · exact .inr ⟨g, 0, rfl, h1, h2, fun k x hx => by rw [Nat.zero_add]; exact h k x hx⟩
theorem MutS.list {w : World} {lo hi : Nat} {u : Value} {m : Nat} (h : MutS w lo hi 128 u m) : ∃ ss : List ByteArray, ss.length = m ∧ Strs w lo hi u ss ∧ ∀ s ∈ ss, s.size ≤ 128 := by
  obtain ⟨A, c, rfl, hc, h⟩ := h
  rcases h with rfl | ⟨g, cur, rfl, h1, h2, hg, h⟩
  · exact ⟨[], rfl, ⟨A, c, rfl, by simp, .inl rfl⟩, by simp⟩
  · obtain ⟨ss, hl, hp⟩ := list_of _ m h
    refine ⟨ss, hl, ⟨_, c, by rw [hl], by omega, .inr ⟨g, 0, rfl, h1, h2, fun k s hs => by rw [Nat.zero_add]; exact (hp k s hs).1⟩⟩, fun s hs => ?_⟩
    obtain ⟨k, hk⟩ := List.getElem?_of_mem hs
    exact (hp k s hk).2
theorem FitI.list {w : World} {lo hi : Nat} {A : Option Addr} {n : Nat} (h : FitI w lo hi A n) : ∃ xs : List InD, xs.length = n ∧ RowI w lo hi A xs ∧ ∀ x ∈ xs, x.Ok := by
  rcases h with rfl | ⟨g, cur, rfl, h1, h2, hg, h⟩
  · exact ⟨[], rfl, .inl rfl, by simp⟩
  · have h' : ∀ j, j < n → ∃ x : InD, InAt w lo hi g (j * 4) x ∧ x.Ok := by
      intro j hj
      obtain ⟨⟨s, a0, z0⟩, ⟨q, a1, z1⟩, ⟨q', a2, z2⟩, u, m, a3, hm, hst⟩ := h j hj
      obtain ⟨ss, hl, hs, hb⟩ := hst.list
      exact ⟨⟨s, q, q', ss⟩, ⟨a0, a1, a2, u, a3, hs⟩, z0, z1.1, z1.2, z2.1, z2.2, by simp only; omega, hb⟩
    obtain ⟨xs, hl, hp⟩ := list_of _ n h'
    refine ⟨xs, hl, .inr ⟨g, cur, rfl, h1, h2, hg, fun j x hx => (hp j x hx).1⟩, fun x hx => ?_⟩
    obtain ⟨k, hk⟩ := List.getElem?_of_mem hx
    exact (hp k x hk).2
theorem FitO.list {w : World} {lo hi : Nat} {A : Option Addr} {n : Nat} (h : FitO w lo hi A n) : ∃ xs : List OutD, xs.length = n ∧ RowO w lo hi A xs ∧ ∀ x ∈ xs, x.Ok := by
  rcases h with rfl | ⟨g, cur, rfl, h1, h2, hg, h⟩
  · exact ⟨[], rfl, .inl rfl, by simp⟩
  · have h' : ∀ j, j < n → ∃ x : OutD, OutAt w g (j * 2) x ∧ x.Ok := by
      intro j hj
      obtain ⟨⟨q, a0, z0⟩, ⟨s, a1, z1⟩⟩ := h j hj
      exact ⟨⟨q, s⟩, ⟨a0, a1⟩, z0.1, z0.2, z1⟩
    obtain ⟨xs, hl, hp⟩ := list_of _ n h'
    refine ⟨xs, hl, .inr ⟨g, cur, rfl, h1, h2, hg, fun j x hx => (hp j x hx).1⟩, fun x hx => ?_⟩
    obtain ⟨k, hk⟩ := List.getElem?_of_mem hx
    exact (hp k x hk).2

/-- Where Fit stands: the transaction in its box, its rows between lo and hi. -/
structure FitT (w : World) (tv tl : Int) (n m lo hi : Nat) (Ai Ao : Option Addr) (ci co : Nat) (wr : World) : Prop where
  b3 : Open wr hi (.int .u32 tv) (.slice Ai n ci) (.slice Ao m co) (.int .u32 tl)
  b2 : ∃ z0 z1 z2 z3, Open wr (w.heap.size + 1) z0 z1 z2 z3
  fi : FitI wr lo hi Ai n
  fo : FitO wr lo hi Ao m
  bel : Below w.heap.size w wr
  le : w.heap.size + 2 ≤ lo ∧ lo ≤ hi ∧ hi < wr.heap.size

theorem FitT.write {w : World} {tv tl : Int} {n m lo hi : Nat} {Ai Ao : Option Addr} {ci co : Nat} {wr : World} (h : FitT w tv tl n m lo hi Ai Ao ci co wr) {g o : Nat} {v : Value} (h1 : lo ≤ g) (h2 : g < hi) (hi' : FitI (wr.setCell ⟨g, o, none⟩ v) lo hi Ai n) (ho' : FitO (wr.setCell ⟨g, o, none⟩ v) lo hi Ao m) : FitT w tv tl n m lo hi Ai Ao ci co (wr.setCell ⟨g, o, none⟩ v) := by
  have hle := h.le
  obtain ⟨z0, z1, z2, z3, hz⟩ := h.b2
  exact ⟨h.b3.keep (Below.heap_setCell _ _ _ _ (by show hi ≠ g; omega)), ⟨z0, z1, z2, z3, hz.keep (Below.heap_setCell _ _ _ _ (by show w.heap.size + 1 ≠ g; omega))⟩, hi', ho', h.bel.setCell (by show w.heap.size ≤ g; omega) _, by rw [World.size_setCell]; exact hle⟩
theorem FitT.below {w : World} {tv tl : Int} {n m lo hi : Nat} {Ai Ao : Option Addr} {ci co : Nat} {wr wx : World} (h : FitT w tv tl n m lo hi Ai Ao ci co wr) (hb : Below wr.heap.size wr wx) : FitT w tv tl n m lo hi Ai Ao ci co wx := by
  have hle := h.le
  have hs := hb.size
  have hw := h.bel.size
  obtain ⟨z0, z1, z2, z3, hz⟩ := h.b2
  have st : ∀ e, StayE lo hi e wr wx := fun e => StayE.of_below hb (by omega)
  exact ⟨h.b3.keep (hb.block _ (by omega)), ⟨z0, z1, z2, z3, hz.keep (hb.block _ (by omega))⟩, h.fi.keep (st 66) (st 9), h.fo.keep (st 87), below_next h.bel (by omega) hb, by omega⟩
theorem FitT.drew {w : World} {tv tl : Int} {n m lo hi : Nat} {Ai Ao : Option Addr} {ci co : Nat} {wr : World} (h : FitT w tv tl n m lo hi Ai Ao ci co wr) : FitT w tv tl n m lo hi Ai Ao ci co wr.drew := ⟨h.b3, h.b2, h.fi, h.fo, h.bel.drew, h.le⟩

end Go.Proofs.Ytdldhfhhhjenkaa
