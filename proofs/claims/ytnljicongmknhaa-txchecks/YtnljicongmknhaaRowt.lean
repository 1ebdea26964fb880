/-
  A row of two transactions: a Cut and a Fit of one, in whatever order they were made.
-/
import Derived.Test.YtnljicongmknhaaFitw
namespace Go.Proofs.Ytnljicongmknhaa
open Go.RowKit

/-- The transactions of a row, each in its four cells of the block g. -/
def RowTx (wx : World) (g n : Nat) : Prop := ∀ k, k < n → ∃ (u : TxD) (Ai Ao : Option Addr) (ci co : Nat), wx.cell? ⟨g, k * 4, none⟩ = some (.int .u32 u.ver) ∧ wx.cell? ⟨g, k * 4 + 1, none⟩ = some (.slice Ai u.ins.length ci) ∧ wx.cell? ⟨g, k * 4 + 2, none⟩ = some (.slice Ao u.outs.length co) ∧ wx.cell? ⟨g, k * 4 + 3, none⟩ = some (.int .u32 u.lock) ∧
  TxAt wx 0 wx.heap.size (.slice Ai u.ins.length ci) (.slice Ao u.outs.length co) u ∧ u.Ok
theorem RowTx.below {wx wy : World} {g n : Nat} (h : RowTx wx g n) (hg : g < wx.heap.size) (hb : Below wx.heap.size wx wy) : RowTx wy g n := by
  intro k hk
  obtain ⟨u, Ai, Ao, ci, co, c0, c1, c2, c3, ht, ho⟩ := h k hk
  have f := fun o => hb.cell (p := ⟨g, o, none⟩) hg
  exact ⟨u, Ai, Ao, ci, co, (f _).trans c0, (f _).trans c1, (f _).trans c2, (f _).trans c3, (ht.keep (Kept.of_below hb (Nat.le_refl _))).wide (Nat.le_refl _) hb.size, ho⟩

/-- Where a statement stands that has such a row. -/
structure RowS (w : World) (g n : Nat) (wx : World) : Prop where
  row : RowTx wx g n
  lt : g < wx.heap.size
  bel : Below w.heap.size w wx
theorem RowS.below {w wx wy : World} {g n : Nat} (h : RowS w g n wx) (hb : Below wx.heap.size wx wy) : RowS w g n wy :=
  ⟨h.row.below h.lt hb, by have := hb.size; have := h.lt; omega, below_next h.bel h.bel.size hb⟩

/-- What a call gives: a transaction, in memory. -/
def TxGives (w W0 : World) (t : TxD) (vi vo : Value) (W : World) (e : Ending) (w' : World) : Prop :=
  ∃ (u : TxD) (Ai Ao : Option Addr) (ci co : Nat), e = .returned (.agg #[.int .u32 u.ver, .slice Ai u.ins.length ci, .slice Ao u.outs.length co, .int .u32 u.lock]) ∧
    (TxAt w' 0 w'.heap.size (.slice Ai u.ins.length ci) (.slice Ao u.outs.length co) u ∧ u.Ok) ∧ Below W.heap.size W w' ∧ Below W0.heap.size W0 w' ∧ Boxed w' w.heap.size (.int .u32 t.ver) vi vo (.int .u32 t.lock)
theorem cut_tx {w W0 : World} {t : TxD} {vi vo : Value} (hb : Boxed W0 w.heap.size (.int .u32 t.ver) vi vo (.int .u32 t.lock)) (h0 : W0.heap.size = w.heap.size + 1) (hx : TxAt W0 0 w.heap.size vi vo t) (hc : t.Came) (W : World) (hW : Below W0.heap.size W0 W) :
    Calls Try.prog 9 #[.agg #[.int .u32 t.ver, vi, vo, .int .u32 t.lock], .int .i64 12] W (TxGives w W0 t vi vo W) := by
  have hs := hW.size
  refine (cut_more t 12 vi vo W w.heap.size (hx.keep (Kept.of_below hW (by omega))) (by omega) (by omega) (came_ins hc) (came_outs hc) (came_wit hc)).mono ?_
  rintro e w' ⟨vi', vo', rfl, ⟨h1, h2⟩, hb', h3⟩
  obtain ⟨Ai, ci, rfl⟩ := h1.ins.form
  obtain ⟨Ao, co, rfl⟩ := h2.outs.form
  have hn := below_next hW hs hb'
  exact ⟨cutTx 12 t, Ai, Ao, ci, co, rfl, ⟨⟨h1.ins.wide (Nat.zero_le _) (Nat.le_refl _), h2.outs.wide (Nat.zero_le _) (Nat.le_refl _)⟩, cut_ok hc (by omega)⟩, hb', hn, hb.below (by omega) hn⟩
theorem fit_tx {w W0 : World} {t : TxD} {vi vo : Value} (hb : Boxed W0 w.heap.size (.int .u32 t.ver) vi vo (.int .u32 t.lock)) (h0 : W0.heap.size = w.heap.size + 1) (hx : TxAt W0 0 w.heap.size vi vo t) (hc : t.Came) (W : World) (hW : Below W0.heap.size W0 W) :
    Calls Try.prog 10 #[.agg #[.int .u32 t.ver, vi, vo, .int .u32 t.lock]] W (TxGives w W0 t vi vo W) := by
  have hs := hW.size
  refine (fit_any t vi vo W w.heap.size (hx.keep (Kept.of_below hW (by omega))) (by omega) hc).mono ?_
  rintro e w' ⟨u, Ai, Ao, ci, co, rfl, hok, _, _, hci, hco, h1, h2, hb'⟩
  have hn := below_next hW hs hb'
  exact ⟨u, Ai, Ao, ci, co, rfl, ⟨⟨(h1.ins hci).wide (Nat.zero_le _) (Nat.le_refl _), (h2.outs hco).wide (Nat.zero_le _) (Nat.le_refl _)⟩, hok⟩, hb', hn, hb.below (by omega) hn⟩

theorem row_two {w W0 wa wb : World} {a b : TxD} {Ai Ao Bi Bo : Option Addr} {ai ao bi bo : Nat} {W : World}
    (h1 : TxAt wa 0 wa.heap.size (.slice Ai a.ins.length ai) (.slice Ao a.outs.length ao) a ∧ a.Ok) (h2 : TxAt wb 0 wb.heap.size (.slice Bi b.ins.length bi) (.slice Bo b.outs.length bo) b ∧ b.Ok)
    (ka : Kept 0 wa.heap.size wa W) (kb : Kept 0 wb.heap.size wb W) (la : wa.heap.size ≤ W.heap.size) (lb : wb.heap.size ≤ W.heap.size) (hB : Below W0.heap.size W0 W) (h0 : Below w.heap.size w W0) :
    RowS w W.heap.size 2 (W.alloc (.cells #[.int .u32 a.ver, .slice Ai a.ins.length ai, .slice Ao a.outs.length ao, .int .u32 a.lock, .int .u32 b.ver, .slice Bi b.ins.length bi, .slice Bo b.outs.length bo, .int .u32 b.lock] 26)) := by
  refine ⟨?_, by simp, (below_next h0 h0.size hB).alloc (by have := h0.size; have := hB.size; omega) _⟩
  intro k hk
  have hz := World.size_alloc W (.cells #[.int .u32 a.ver, .slice Ai a.ins.length ai, .slice Ao a.outs.length ao, .int .u32 a.lock, .int .u32 b.ver, .slice Bi b.ins.length bi, .slice Bo b.outs.length bo, .int .u32 b.lock] 26)
  match k, hk with
  | 0, _ => exact ⟨a, Ai, Ao, ai, ao, by simp, by simp, by simp, by simp, ((h1.1.keep ka).keep (Kept.alloc la _)).wide (Nat.le_refl _) (by omega), h1.2⟩
  | 1, _ => exact ⟨b, Bi, Bo, bi, bo, by simp, by simp, by simp, by simp, ((h2.1.keep kb).keep (Kept.alloc lb _)).wide (Nat.le_refl _) (by omega), h2.2⟩

end Go.Proofs.Ytnljicongmknhaa
