/-
  The statement TxCopies, walked.
-/
import Derived.Test.YtdldhfhhhjenkaaTpw

import Derived.Test.YtdldhfhhhjenkaaOwn
namespace Go.Proofs.Ytdldhfhhhjenkaa
open Go.RowKit

/-- Both transactions, in their boxes. -/
def Boxes (w W : World) (t u : TxD) (vi vo ui uo : Value) : Prop := T_Boxed W w.heap.size (.int .u32 t.ver) vi vo (.int .u32 t.lock) ∧ T_Boxed W (w.heap.size + 1) (.int .u32 u.ver) ui uo (.int .u32 u.lock)

/-- What lay there reads as it did: two rules for a walk. -/
theorem bcell {W w1 : World} (hb : Below W.heap.size W w1) : (∀ b o, b < W.heap.size → w1.cell? ⟨b, o, none⟩ = W.cell? ⟨b, o, none⟩) ∧ (∀ b o, b < W.heap.size → w1.frozen? ⟨b, o, none⟩ = W.frozen? ⟨b, o, none⟩) :=
  ⟨fun b o h => hb.cell (p := ⟨b, o, none⟩) h, fun b o h => hb.frozen (p := ⟨b, o, none⟩) h⟩

/-- What a call of Cut answers, in whatever world behind the boxes. -/
def CutGives (w W0 : World) (n : Nat) (t u : TxD) (vi vo ui uo : Value) (x : TxD) (W : World) (e : Ending) (w' : World) : Prop :=
  ∃ (Ai Ao : Option Addr) (ci co : Nat), e = .returned (.agg #[.int .u32 x.ver, .slice Ai (cutTx n x).ins.length ci, .slice Ao (cutTx n x).outs.length co, .int .u32 x.lock]) ∧
    (InsOwn w' (W.heap.size + 3) w'.heap.size (.slice Ai (cutTx n x).ins.length ci) (cutTx n x).ins ∧ OutsOwn w' (W.heap.size + 3) w'.heap.size (.slice Ao (cutTx n x).outs.length co) (cutTx n x).outs) ∧ Below W.heap.size W w' ∧ Below W0.heap.size W0 w' ∧ Boxes w w' t u vi vo ui uo ∧ W.heap.size + 3 ≤ w'.heap.size

theorem cut_gives {w W0 : World} {t u x : TxD} {vi vo ui uo xi xo : Value} (hb : Boxes w W0 t u vi vo ui uo) (h0 : W0.heap.size = w.heap.size + 2) (hx : TxAt W0 0 w.heap.size xi xo x) (hc : x.Came) (W : World) (hW : Below W0.heap.size W0 W) :
    Calls Try.prog 43 #[.agg #[.int .u32 x.ver, xi, xo, .int .u32 x.lock], .int .i64 12] W (CutGives w W0 12 t u vi vo ui uo x W) := by
  have hs := hW.size
  refine (cut_more x 12 xi xo W w.heap.size (hx.keep (Kept.of_below hW (by omega))) (by omega) (by omega) (came_ins hc) (came_outs hc) (came_wit hc)).mono ?_
  rintro e w' ⟨vi', vo', rfl, ⟨h1, h2⟩, hb', h3⟩
  obtain ⟨Ai, ci, rfl⟩ := h1.ins.form
  obtain ⟨Ao, co, rfl⟩ := h2.outs.form
  have hn := below_next hW hs hb'
  exact ⟨Ai, Ao, ci, co, rfl, ⟨h1, h2⟩, hb', hn, ⟨hb.1.below (by omega) hn, hb.2.below (by omega) hn⟩, h3⟩

theorem Open.new' (w : World) (v0 v1 v2 v3 : Value) (t : TypeId) (g : Nat) (hg : g = w.heap.size) : Open (w.alloc (.cells #[v0, v1, v2, v3] t)) g v0 v1 v2 v3 := by subst hg; exact Open.new w v0 v1 v2 v3 t
theorem Open.put4 {w : World} {g : Nat} {z0 z1 z2 z3 : Value} (v0 v1 v2 v3 : Value) (h : Open w g z0 z1 z2 z3) : Open ((((w.setCell ⟨g, 0, none⟩ v0).setCell ⟨g, 1, none⟩ v1).setCell ⟨g, 2, none⟩ v2).setCell ⟨g, 3, none⟩ v3) g v0 v1 v2 v3 :=
  (((h.set0 v0).set1 v1).set2 v2).set3 v3
theorem Open.past {w : World} {g : Nat} {z0 z1 z2 z3 : Value} (o : Obj) (h : Open w g z0 z1 z2 z3) (hg : g < w.heap.size) : Open (w.alloc o) g z0 z1 z2 z3 := h.keep (Below.heap_alloc _ _ _ hg)
theorem Open.drew {w : World} {g : Nat} {z0 z1 z2 z3 : Value} (h : Open w g z0 z1 z2 z3) : Open w.drew g z0 z1 z2 z3 := h
theorem size_set (w : World) (p : Addr) (u : Value) : (w.setCell p u).heap.size = w.heap.size := by simp [World.setCell]
theorem Kept.drew {lo hi : Nat} {w w' : World} (h : Kept lo hi w w') : Kept lo hi w w'.drew := h

/-- Where TxCopies stands behind its first statement: both cuts, each in a box of the call's own; the first one in rows that may be written. -/
structure CopS (w W0 : World) (t u a b : TxD) (vi vo ui uo : Value) (ga gb lo hi : Nat) (ai ao bi bo : Value) (wx : World) : Prop where
  oa : Open wx ga (.int .u32 t.ver) ai ao (.int .u32 t.lock)
  ob : Open wx gb (.int .u32 u.ver) bi bo (.int .u32 u.lock)
  ia : InsOwn wx lo hi ai a.ins
  ja : OutsOwn wx lo hi ao a.outs
  tb : TxAt wx 0 wx.heap.size bi bo b
  bx : Boxes w wx t u vi vo ui uo
  bel : Below W0.heap.size W0 wx
  na : ga < lo ∨ hi ≤ ga
  nb : gb < lo ∨ hi ≤ gb
  ne : ga ≠ gb
  la : W0.heap.size ≤ ga ∧ ga < wx.heap.size
  lb : W0.heap.size ≤ gb ∧ gb < wx.heap.size
  ll : W0.heap.size ≤ lo
  hh : hi ≤ wx.heap.size

theorem CopS.make {w W0 w1 w2 wx : World} {t u a b : TxD} {vi vo ui uo ai ao bi bo : Value} {ga gb lo hi lo2 hi2 : Nat} (oa : Open wx ga (.int .u32 t.ver) ai ao (.int .u32 t.lock)) (ob : Open wx gb (.int .u32 u.ver) bi bo (.int .u32 u.lock))
    (h1 : InsOwn w1 lo hi ai a.ins ∧ OutsOwn w1 lo hi ao a.outs) (h2 : InsOwn w2 lo2 hi2 bi b.ins ∧ OutsOwn w2 lo2 hi2 bo b.outs) (k1 : Kept lo hi w1 wx) (k2 : Kept lo2 hi2 w2 wx) (bx : Boxes w W0 t u vi vo ui uo) (z0 : W0.heap.size = w.heap.size + 2) (bel : Below W0.heap.size W0 wx)
    (hn : (ga < lo ∨ hi ≤ ga) ∧ (gb < lo ∨ hi ≤ gb) ∧ ga ≠ gb ∧ W0.heap.size ≤ ga ∧ ga < wx.heap.size ∧ W0.heap.size ≤ gb ∧ gb < wx.heap.size ∧ W0.heap.size ≤ lo ∧ hi ≤ wx.heap.size ∧ hi2 ≤ wx.heap.size) : CopS w W0 t u a b vi vo ui uo ga gb lo hi ai ao bi bo wx := by
  obtain ⟨n1, n2, n3, n4, n5, n6, n7, n8, n9, n10⟩ := hn
  have st : ∀ e, StayE lo hi e w1 wx := fun e b _ h3 h4 _ => k1 b h3 h4
  refine ⟨oa, ob, h1.1.keep (st 66) (st 9) (Nat.le_refl _), h1.2.keep (st 87) (Nat.le_refl _), ⟨(h2.1.ins.keep k2).wide (Nat.zero_le _) n10, (h2.2.outs.keep k2).wide (Nat.zero_le _) n10⟩, ⟨bx.1.below (by omega) bel, bx.2.below (by omega) bel⟩, bel, n1, n2, n3, ⟨n4, n5⟩, ⟨n6, n7⟩, n8, n9⟩

/-- The first statement's end. -/
def CopA (w W0 : World) (t u a b : TxD) (vi vo ui uo : Value) (v7 v8 : Value) (wx : World) : Prop :=
  ∃ (ga gb lo hi : Nat) (Ai Ao Bi Bo : Option Addr) (ci co di dz : Nat), v7 = .pointer (some ⟨ga, 0, none⟩) ∧ v8 = .pointer (some ⟨gb, 0, none⟩) ∧
    CopS w W0 t u a b vi vo ui uo ga gb lo hi (.slice Ai a.ins.length ci) (.slice Ao a.outs.length co) (.slice Bi b.ins.length di) (.slice Bo b.outs.length dz) wx

end Go.Proofs.Ytdldhfhhhjenkaa
