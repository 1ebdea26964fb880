/-
  What TxFewer's walk leans on: lists cut short, a list with one more, a transaction in its box.
-/
import Derived.Test.YtnljicongmknhaaCopyo
import Derived.Test.YtnljicongmknhaaFewm
import Derived.Test.YtnljicongmknhaaFitw
import Derived.Test.YtnljicongmknhaaPwalk
import Derived.Deep.AppendLies
namespace Go.Proofs.Ytnljicongmknhaa
open Go.RowKit

theorem Ins.take {w : World} {lo hi : Nat} {A : Option Addr} {n c : Nat} {xs : List InD} (h : Ins w lo hi (.slice A n c) xs) {p : Nat} (hp : p ≤ xs.length) : Ins w lo hi (.slice A p c) (xs.take p) := by
  obtain ⟨A', c', hv, hc, h⟩ := h
  injection hv with e1 _ e3
  subst e1 e3
  refine ⟨A, c, by rw [List.length_take, Nat.min_eq_left hp], by rw [List.length_take]; omega, ?_⟩
  rcases h with rfl | ⟨b, off, rfl, h1, h2, h⟩
  · exact .inl (by simp)
  · refine .inr ⟨b, off, rfl, h1, h2, fun k x hx => h k x ?_⟩
    rw [List.getElem?_take] at hx
    split at hx
    · exact hx
    · cases hx
theorem Outs.take {w : World} {lo hi : Nat} {A : Option Addr} {n c : Nat} {xs : List OutD} (h : Outs w lo hi (.slice A n c) xs) {p : Nat} (hp : p ≤ xs.length) : Outs w lo hi (.slice A p c) (xs.take p) := by
  obtain ⟨A', c', hv, hc, h⟩ := h
  injection hv with e1 _ e3
  subst e1 e3
  refine ⟨A, c, by rw [List.length_take, Nat.min_eq_left hp], by rw [List.length_take]; omega, ?_⟩
  rcases h with rfl | ⟨b, off, rfl, h1, h2, h⟩
  · exact .inl (by simp)
  · refine .inr ⟨b, off, rfl, h1, h2, fun k x hx => h k x ?_⟩
    rw [List.getElem?_take] at hx
    split at hx
    · exact hx
    · cases hx
theorem Ins.cap {w : World} {lo hi : Nat} {A : Option Addr} {n c : Nat} {xs : List InD} (h : Ins w lo hi (.slice A n c) xs) : xs.length ≤ c := by
  obtain ⟨A', c', hv, hc, h⟩ := h
  injection hv with _ _ e3
  subst e3
  exact hc
theorem Outs.cap {w : World} {lo hi : Nat} {A : Option Addr} {n c : Nat} {xs : List OutD} (h : Outs w lo hi (.slice A n c) xs) : xs.length ≤ c := by
  obtain ⟨A', c', hv, hc, h⟩ := h
  injection hv with _ _ e3
  subst e3
  exact hc
theorem CopyRow.ins {w : World} {lo : Nat} {A : Option Addr} {c : Nat} {xs : List InD} (h : CopyRow w lo A c xs) : Ins w lo w.heap.size (.slice A xs.length c) xs := by
  obtain ⟨hc, h⟩ := h
  refine ⟨A, c, rfl, hc, ?_⟩
  rcases h with h | ⟨g, cur, rfl, h1, h2, hg, _, _, h⟩
  · exact .inl h
  · exact .inr ⟨g, 0, rfl, h1, h2, fun j x hx => by rw [Nat.zero_add]; exact (h j x hx).wide (by omega) (Nat.le_refl _)⟩
theorem CopyOut.tx {w w' : World} {t : TxD} {A B : Option Addr} {c d : Nat} (h : CopyOut w t A B c d w') : TxAt w' w.heap.size w'.heap.size (.slice A t.ins.length c) (.slice B t.outs.length d) t := by
  obtain ⟨h1, lo3, h2, _, h4, _⟩ := h
  exact ⟨h1.ins.wide (by omega) (Nat.le_refl _), h2.wide h4 (Nat.le_refl _)⟩
theorem CopyOut.bel {w w' : World} {t : TxD} {A B : Option Addr} {c d : Nat} (h : CopyOut w t A B c d w') : Below w.heap.size w w' := by
  obtain ⟨_, _, _, _, _, h⟩ := h
  exact h

/-- A row that may be appended to, by its cells. -/
theorem CopyRow.owns {w : World} {lo : Nat} {A : Option Addr} {c : Nat} {xs : List InD} (h : CopyRow w lo A c xs) (hne : xs ≠ []) :
    ∃ g, A = some ⟨g, 0, none⟩ ∧ lo ≤ g ∧ g < w.heap.size ∧ w.ownsRow lo 43 4 (.slice (some ⟨g, 0, none⟩) xs.length c) xs.length (cellsAt w g 0 (xs.length * 4)) ∧ ∀ (j : Nat) (x : InD), xs[j]? = some x → InAt w (g + 1) w.heap.size g (j * 4) x := by
  obtain ⟨hc, h⟩ := h
  rcases h with h | ⟨g, cur, rfl, h1, h2, hg, hs, hm, h⟩
  · exact absurd h hne
  · refine ⟨g, rfl, h1, h2, ⟨by simp [cellsAt], .inr ⟨g, c, cur, rfl, h1, hg, hc, hm, hs, ?_⟩⟩, h⟩
    apply List.ext_getElem?
    intro j
    rw [List.getElem?_take]
    by_cases hj : j < xs.length * 4
    · rw [if_pos hj]
      have hjc : j < cur.size := by rw [hs]; omega
      have e : w.cell? ⟨g, j, none⟩ = cur[j]? := by simp [World.cell?, hg]
      simp [cellsAt, hj, e, hjc]
    · rw [if_neg hj, List.getElem?_eq_none (by simp [cellsAt]; omega)]

/-- Behind the append: one input more. -/
theorem more_ins {w8 w10 : World} {lo g c2 g2 : Nat} {xs : List InD} {x : InD} {bx : Value} (hx : ∀ (j : Nat) (x : InD), xs[j]? = some x → InAt w8 (g + 1) w8.heap.size g (j * 4) x) (kp : Kept (g + 1) w8.heap.size w8 w10) (hs10 : w8.heap.size ≤ w10.heap.size) (hs : Strs w8 (g + 1) w8.heap.size bx x.wit)
    (hown : w10.ownsRow lo 43 4 (.slice (some ⟨g2, 0, none⟩) (xs.length + 1) c2) (xs.length + 1) (cellsAt w8 g 0 (xs.length * 4) ++ [.string x.id, .int .u32 x.ix, .int .u32 x.sq, bx])) :
    Ins w10 0 w10.heap.size (.slice (some ⟨g2, 0, none⟩) (xs.length + 1) c2) (xs ++ [x]) := by
  refine ins_of_cells (ys := xs ++ [x]) (by simpa using hown) (fun j y hy => ?_) (Nat.zero_le _) (Nat.le_refl _)
  by_cases hj : j < xs.length
  · rw [List.getElem?_append_left hj] at hy
    obtain ⟨c0, c1, c2', u, c3, hst⟩ := hx j y hy
    have get : ∀ i v, i < 4 → w8.cell? ⟨g, j * 4 + i, none⟩ = some v → (cellsAt w8 g 0 (xs.length * 4) ++ [Value.string x.id, .int .u32 x.ix, .int .u32 x.sq, bx])[j * 4 + i]? = some v := fun i v hi hv => by
      rw [List.getElem?_append_left (by simp [cellsAt]; omega)]
      simp [cellsAt, show j * 4 + i < xs.length * 4 from by omega, hv]
    exact ⟨get 0 _ (by omega) c0, get 1 _ (by omega) c1, get 2 _ (by omega) c2', u, get 3 _ (by omega) c3, (hst.keep kp).wide (Nat.zero_le _) (by omega)⟩
  · have hj2 : j = xs.length := by
      have := (List.getElem?_eq_some_iff.1 hy).1
      simp at this; omega
    subst hj2
    simp at hy
    subst hy
    have hl : (cellsAt w8 g 0 (xs.length * 4)).length = xs.length * 4 := by simp [cellsAt]
    refine ⟨?_, ?_, ?_, bx, ?_, (hs.keep kp).wide (Nat.zero_le _) (by omega)⟩
    · rw [List.getElem?_append_right (by omega), hl]; simp
    · rw [List.getElem?_append_right (by omega), hl]; simp
    · rw [List.getElem?_append_right (by omega), hl]; simp
    · rw [List.getElem?_append_right (by omega), hl]; simp
theorem news4 (W : World) (B : Nat) (hB : B = W.heap.size) (a b c d : Value) (t : TypeId) : ∀ j u, [a, b, c, d][j]? = some u → (W.alloc (.cells #[a, b, c, d] t)).drew.cell? ((⟨B, 0, none⟩ : Addr).add j) = some u := by
  subst hB
  exact World.news_of_block (w := (W.alloc (.cells #[a, b, c, d] t)).drew) (cs := #[a, b, c, d]) (heap_alloc_new W _)
theorem owns_past {w : World} {base g : Nat} {e : TypeId} {size n c : Nat} {xs : List Value} (h : w.ownsRow base e size (.slice (some ⟨g, 0, none⟩) n c) n xs) {p : Addr} (hp : g ≠ p.block) (u : Value) : (w.setCell p u).ownsRow base e size (.slice (some ⟨g, 0, none⟩) n c) n xs := by
  obtain ⟨h1, h2⟩ := h
  refine ⟨h1, ?_⟩
  rcases h2 with ⟨hv, _⟩ | ⟨g', cap, cur, hv, hb, hh, r⟩
  · cases hv
  · injection hv with e1 _ e3
    injection e1 with e1
    injection e1 with e1
    subst e1 e3
    exact .inr ⟨g, c, cur, rfl, hb, (Below.heap_setCell w p u g hp).trans hh, r⟩

/-- A transaction in its box. -/
structure TxS (g : Nat) (u : TxD) (vi vo : Value) (wx : World) : Prop where
  box : Boxed wx g (.int .u32 u.ver) vi vo (.int .u32 u.lock)
  tx : TxAt wx 0 wx.heap.size vi vo u
  lt : g < wx.heap.size
theorem TxS.below {g : Nat} {u : TxD} {vi vo : Value} {wx wy : World} (h : TxS g u vi vo wx) (hb : Below wx.heap.size wx wy) : TxS g u vi vo wy :=
  ⟨h.box.below h.lt hb, (h.tx.keep (Kept.of_below hb (Nat.le_refl _))).wide (Nat.le_refl _) hb.size, by have := hb.size; have := h.lt; omega⟩
theorem TxS.new {u : TxD} {vi vo : Value} {w : World} (h : TxAt w 0 w.heap.size vi vo u) : TxS w.heap.size u vi vo (w.alloc (.cells #[.int .u32 u.ver, vi, vo, .int .u32 u.lock] 26)) :=
  ⟨Boxed.new _ _ _ _ _ _, (h.keep (Kept.alloc (Nat.le_refl _) _)).wide (Nat.le_refl _) (by simp), by simp⟩

theorem TxS.drew {g : Nat} {u : TxD} {vi vo : Value} {wx : World} (h : TxS g u vi vo wx) : TxS g u vi vo wx.drew := ⟨h.box, h.tx, h.lt⟩

/-- TxFewer's third transaction: a copy, with one of its inputs behind them once more. -/
theorem few_end {w7 w8 w10 : World} {u : TxD} {B : Option Addr} {g c d g2 c2 : Nat} {x : InD} {bx : Value} (hco : CopyOut w7 u (some ⟨g, 0, none⟩) B c d w8) (hg : w7.heap.size + 2 ≤ g ∧ g < w8.heap.size) (hne : u.ins ≠ [])
    (hx : ∀ (j : Nat) (x : InD), u.ins[j]? = some x → InAt w8 (g + 1) w8.heap.size g (j * 4) x) (hs : Strs w8 (g + 1) w8.heap.size bx x.wit)
    (hgr : ((w8.alloc (.cells #[.int .u32 u.ver, .slice (some ⟨g, 0, none⟩) u.ins.length c, .slice B u.outs.length d, .int .u32 u.lock] 26)).alloc (.cells #[.string x.id, .int .u32 x.ix, .int .u32 x.sq, bx] 43)).drew.grownBy w10 (Value.slice (some ⟨g, 0, none⟩) u.ins.length c).ownBlock)
    (hown : w10.ownsRow (w7.heap.size + 2) 43 4 (.slice (some ⟨g2, 0, none⟩) (u.ins.length + 1) c2) (u.ins.length + 1) (cellsAt w8 g 0 (u.ins.length * 4) ++ [.string x.id, .int .u32 x.ix, .int .u32 x.sq, bx]))
    (hat : (Value.slice (some ⟨g, 0, none⟩) u.ins.length c).ownBlock = some g2 ∨ g2 = w8.heap.size + 1 + 1) :
    TxS w8.heap.size ⟨u.ver, u.ins ++ [x], u.outs, u.lock⟩ (.slice (some ⟨g2, 0, none⟩) (u.ins.length + 1) c2) (.slice B u.outs.length d) (w10.setCell ⟨w8.heap.size, 1, none⟩ (.slice (some ⟨g2, 0, none⟩) (u.ins.length + 1) c2)) ∧
      Below w7.heap.size w7 (w10.setCell ⟨w8.heap.size, 1, none⟩ (.slice (some ⟨g2, 0, none⟩) (u.ins.length + 1) c2)) := by
  obtain ⟨_, lo3, ho, hund, hlo3, hb7⟩ := hco
  have hgl : g < lo3 := hund hne _ rfl
  obtain ⟨W9, hW9⟩ : ∃ W9, W9 = ((w8.alloc (.cells #[.int .u32 u.ver, .slice (some ⟨g, 0, none⟩) u.ins.length c, .slice B u.outs.length d, .int .u32 u.lock] 26)).alloc (.cells #[.string x.id, .int .u32 x.ix, .int .u32 x.sq, bx] 43)).drew := ⟨_, rfl⟩
  rw [← hW9] at hgr
  have z9 : W9.heap.size = w8.heap.size + 2 := by rw [hW9]; simp
  have hb9 : Below w8.heap.size w8 W9 := by rw [hW9]; exact (((Below.refl _ _).alloc (Nat.le_refl _) _).alloc (by simp) _).drew
  have box9 : Boxed W9 w8.heap.size (.int .u32 u.ver) (.slice (some ⟨g, 0, none⟩) u.ins.length c) (.slice B u.outs.length d) (.int .u32 u.lock) := by
    rw [hW9]
    exact (Boxed.new _ _ _ _ _ 26).below (by simp) (((Below.refl _ _).alloc (Nat.le_refl _) _).drew)
  have z10 := hgr.size
  have hg2 : g2 = g ∨ g2 = w8.heap.size + 2 := by
    rcases hat with h | h
    · left; simp only [Value.ownBlock] at h; injection h with h; exact h.symm
    · right; exact h
  have far : ∀ b, b < W9.heap.size → b ≠ g → w10.heap[b]? = W9.heap[b]? := fun b h1 h2 => hgr.block b h1 (by simp only [Value.ownBlock]; intro e; injection e with e; exact h2 e)
  have kp8 : ∀ lo, g < lo → Kept lo w8.heap.size w8 (w10.setCell ⟨w8.heap.size, 1, none⟩ (.slice (some ⟨g2, 0, none⟩) (u.ins.length + 1) c2)) := fun lo hlo b h1 h2 =>
    ((Below.heap_setCell _ _ _ _ (by show b ≠ w8.heap.size; omega)).trans (far b (by omega) (by omega))).trans (hb9.block b h2)
  have zx : (w10.setCell ⟨w8.heap.size, 1, none⟩ (.slice (some ⟨g2, 0, none⟩) (u.ins.length + 1) c2)).heap.size = w10.heap.size := by simp [World.setCell]
  have fb := fun o => (World.cell?_of_block (w := W9) (w' := w10) (a := ⟨w8.heap.size, o, none⟩) (far w8.heap.size (by omega) (by omega)))
  refine ⟨⟨⟨?_, ?_, ?_, ?_⟩, ⟨?_, ?_⟩, by rw [zx]; omega⟩, ?_⟩
  · exact (World.cell?_setCell_other _ _ _ _ (by simp)).trans ((fb 0).trans box9.1)
  · exact World.cell?_setCell_same _ _ _ ((fb 1).trans box9.2.1)
  · exact (World.cell?_setCell_other _ _ _ _ (by simp)).trans ((fb 2).trans box9.2.2.1)
  · exact (World.cell?_setCell_other _ _ _ _ (by simp)).trans ((fb 3).trans box9.2.2.2)
  · exact more_ins hx (kp8 (g + 1) (by omega)) (by rw [zx]; omega) hs (owns_past hown (by show g2 ≠ w8.heap.size; omega) _)
  · exact (ho.keep (kp8 lo3 hgl)).wide (Nat.zero_le _) (by rw [zx]; omega)
  · have h9 := below_next hb7 hb7.size hb9
    exact (h9.grown hgr (by have := hb7.size; omega) (fun k hk => by simp only [Value.ownBlock] at hk; injection hk with hk; omega)).setCell (by have := hb7.size; show w7.heap.size ≤ w8.heap.size; omega) _

end Go.Proofs.Ytnljicongmknhaa
