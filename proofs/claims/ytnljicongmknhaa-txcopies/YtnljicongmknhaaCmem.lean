/-
  What TxCopies' walk leans on: sameness goes both ways; where it stands, before and while it writes.
-/
import Derived.Test.YtnljicongmknhaaCends
import Derived.Test.YtnljicongmknhaaGmut
import Derived.Test.YtnljicongmknhaaWmem
namespace Go.Proofs.Ytnljicongmknhaa
open Go.RowKit

theorem allB_comm {α : Type} {r : α → α → Bool} (h : ∀ x y, r x y = r y x) (xs ys : List α) : allB r xs ys = allB r ys xs := by
  induction xs generalizing ys with
  | nil => cases ys <;> rfl
  | cons x xs ih =>
    cases ys with
    | nil => rfl
    | cons y ys => show (r x y && allB r xs ys) = (r y x && allB r ys xs); rw [h, ih]
theorem strB_comm (a b : ByteArray) : strB a b = strB b a := by
  unfold strB
  rw [Bool.eq_iff_iff, beq_iff_eq, beq_iff_eq]
  exact ⟨Eq.symm, Eq.symm⟩
theorem int_comm (a b : Int) : (a == b) = (b == a) := by
  rw [Bool.eq_iff_iff, beq_iff_eq, beq_iff_eq]
  exact ⟨Eq.symm, Eq.symm⟩
theorem outB_comm (x y : OutD) : outB x y = outB y x := by unfold outB; rw [int_comm, strB_comm]
theorem ptB_comm (a : ByteArray) (i : Int) (b : ByteArray) (j : Int) : ptB a i b j = ptB b j a i := by
  have h := strB_comm a b
  unfold strB at h
  unfold ptB
  rw [int_comm, h]
theorem inB_comm (x y : InD) : inB x y = inB y x := by
  unfold inB strsB
  rw [ptB_comm, int_comm, allB_comm strB_comm]
theorem txB_comm (t u : TxD) : txB t u = txB u t := by
  unfold txB
  rw [int_comm t.ver, int_comm t.lock, allB_comm inB_comm, allB_comm outB_comm]

/-- Where TxCopies stands ahead of its copy. -/
structure CopT (w W0 : World) (t u a b : TxD) (vi vo ui uo : Value) (ga gb lo hi : Nat) (ai ao bi bo : Value) (wx : World) : Prop where
  oa : Boxed wx ga (.int .u32 a.ver) ai ao (.int .u32 a.lock)
  ob : Boxed wx gb (.int .u32 b.ver) bi bo (.int .u32 b.lock)
  ia : InsOwn wx lo hi ai a.ins
  ja : OutsOwn wx lo hi ao a.outs
  tb : TxAt wx 0 wx.heap.size bi bo b
  bx : Boxes w wx t u vi vo ui uo
  bel : Below W0.heap.size W0 wx
  na : ga < lo ∨ hi ≤ ga
  la : ga < wx.heap.size
  lb : gb < wx.heap.size
  ll : W0.heap.size ≤ lo
  hh : hi ≤ wx.heap.size
  z0 : W0.heap.size = w.heap.size + 2
theorem CopT.of_s {w W0 : World} {t u : TxD} {vi vo ui uo ai ao bi bo : Value} {ga gb lo hi : Nat} {wx : World} (h : CopS w W0 t u (cutTx 12 t) (cutTx 12 u) vi vo ui uo ga gb lo hi ai ao bi bo wx) (z0 : W0.heap.size = w.heap.size + 2) : CopT w W0 t u (cutTx 12 t) (cutTx 12 u) vi vo ui uo ga gb lo hi ai ao bi bo wx :=
  ⟨h.oa.1, h.ob.1, h.ia, h.ja, h.tb, h.bx, h.bel, h.na, h.la.2, h.lb.2, h.ll, h.hh, z0⟩
/-- The second one cut anew, of the first. -/
theorem CopT.same {w W0 : World} {t u : TxD} {vi vo ui uo ai ao bi bo ci co : Value} {ga gb lo hi : Nat} {wx wy : World} (h : CopS w W0 t u (cutTx 12 t) (cutTx 12 u) vi vo ui uo ga gb lo hi ai ao bi bo wx) (z0 : W0.heap.size = w.heap.size + 2) (hb : Below wx.heap.size wx wy)
    (ht : TxAt wy wx.heap.size wy.heap.size ci co (cutTx 12 t)) : CopT w W0 t u (cutTx 12 t) (cutTx 12 t) vi vo ui uo ga gb lo hi ai ao ci co ((((wy.setCell ⟨gb, 0, none⟩ (.int .u32 t.ver)).setCell ⟨gb, 1, none⟩ ci).setCell ⟨gb, 2, none⟩ co).setCell ⟨gb, 3, none⟩ (.int .u32 t.lock)) := by
  have la := h.la
  have lb := h.lb
  have ll := h.ll
  have hh := h.hh
  have nb := h.nb
  have ne := h.ne
  have hs := hb.size
  have far : ∀ k, k ≠ gb → ((((wy.setCell ⟨gb, 0, none⟩ (.int .u32 t.ver)).setCell ⟨gb, 1, none⟩ ci).setCell ⟨gb, 2, none⟩ co).setCell ⟨gb, 3, none⟩ (.int .u32 t.lock)).heap[k]? = wy.heap[k]? := fun k hk => put4_block _ _ _ _ hk
  have zx : ((((wy.setCell ⟨gb, 0, none⟩ (.int .u32 t.ver)).setCell ⟨gb, 1, none⟩ ci).setCell ⟨gb, 2, none⟩ co).setCell ⟨gb, 3, none⟩ (.int .u32 t.lock)).heap.size = wy.heap.size := by simp only [size_set]
  have ob := (h.ob.keep (hb.block _ lb.2)).put4 (.int .u32 t.ver) ci co (.int .u32 t.lock)
  have oa := (h.oa.keep (hb.block _ la.2)).keep (far ga ne)
  have st : ∀ e, StayE lo hi e wx ((((wy.setCell ⟨gb, 0, none⟩ (.int .u32 t.ver)).setCell ⟨gb, 1, none⟩ ci).setCell ⟨gb, 2, none⟩ co).setCell ⟨gb, 3, none⟩ (.int .u32 t.lock)) := fun e k _ h1 h2 _ => (far k (by omega)).trans (hb.block k (by omega))
  have b1 := below_next h.bel h.bel.size hb
  have bb := put4_below b1 (show W0.heap.size ≤ gb from lb.1) (.int .u32 t.ver) ci co (.int .u32 t.lock)
  refine ⟨oa.1, ob.1, h.ia.keep (st 43) (st 9) (Nat.le_refl _), h.ja.keep (st 52) (Nat.le_refl _), ?_, ?_, bb, h.na, by rw [zx]; omega, by rw [zx]; omega, ll, by rw [zx]; omega, z0⟩
  · exact (ht.keep (fun k h1 _ => far k (by omega))).wide (Nat.zero_le _) (by rw [zx]; exact Nat.le_refl _)
  · have kc : ∀ k o, k ≠ gb → k < wx.heap.size → ((((wy.setCell ⟨gb, 0, none⟩ (.int .u32 t.ver)).setCell ⟨gb, 1, none⟩ ci).setCell ⟨gb, 2, none⟩ co).setCell ⟨gb, 3, none⟩ (.int .u32 t.lock)).cell? ⟨k, o, none⟩ = wx.cell? ⟨k, o, none⟩ := fun k o h1 h2 => World.cell?_of_block (w := wx) (a := ⟨k, o, none⟩) ((far k h1).trans (hb.block k h2))
    have hx := h.bel.size
    have q := h.bx
    exact ⟨⟨(kc _ 0 (by omega) (by omega)).trans q.1.1, (kc _ 1 (by omega) (by omega)).trans q.1.2.1, (kc _ 2 (by omega) (by omega)).trans q.1.2.2.1, (kc _ 3 (by omega) (by omega)).trans q.1.2.2.2⟩, ⟨(kc _ 0 (by omega) (by omega)).trans q.2.1, (kc _ 1 (by omega) (by omega)).trans q.2.2.1, (kc _ 2 (by omega) (by omega)).trans q.2.2.2.1, (kc _ 3 (by omega) (by omega)).trans q.2.2.2.2⟩⟩
theorem CopT.below {w W0 : World} {t u a b : TxD} {vi vo ui uo ai ao bi bo : Value} {ga gb lo hi : Nat} {wx wy : World} (h : CopT w W0 t u a b vi vo ui uo ga gb lo hi ai ao bi bo wx) (hb : Below wx.heap.size wx wy) : CopT w W0 t u a b vi vo ui uo ga gb lo hi ai ao bi bo wy := by
  have la := h.la
  have lb := h.lb
  have hh := h.hh
  have hs := hb.size
  have hx := h.bel.size
  have z0 := h.z0
  have st : ∀ e, StayE lo hi e wx wy := fun e => StayE.of_below hb hh
  exact ⟨h.oa.below la hb, h.ob.below lb hb, h.ia.keep (st 43) (st 9) (Nat.le_refl _), h.ja.keep (st 52) (Nat.le_refl _), (h.tb.keep (Kept.of_below hb (Nat.le_refl _))).wide (Nat.le_refl _) hs, ⟨h.bx.1.below (by omega) hb, h.bx.2.below (by omega) hb⟩, below_next h.bel hx hb, h.na, by omega, by omega, h.ll, by omega, z0⟩

/-- Where TxCopies stands while it writes. -/
structure CopL (w : World) (a : TxD) (g7 lo hi : Nat) (Ai Ao : Option Addr) (ci co M g9 g10 : Nat) (i9 o9 i10 o10 : Value) (wx : World) : Prop where
  b7 : Boxed wx g7 (.int .u32 a.ver) (.slice Ai a.ins.length ci) (.slice Ao a.outs.length co) (.int .u32 a.lock)
  mi : MutI wx lo hi M Ai a.ins.length
  mo : MutO wx lo hi Ao a.outs.length
  b9 : Boxed wx g9 (.int .u32 a.ver) i9 o9 (.int .u32 a.lock)
  b10 : Boxed wx g10 (.int .u32 a.ver) i10 o10 (.int .u32 a.lock)
  t9 : TxAt wx hi wx.heap.size i9 o9 a
  t10 : TxAt wx hi wx.heap.size i10 o10 a
  bel : Below w.heap.size w wx
  n7 : g7 < lo ∨ hi ≤ g7
  n9 : hi ≤ g9 ∧ hi ≤ g10
  l7 : g7 < wx.heap.size
  l9 : g9 < wx.heap.size ∧ g10 < wx.heap.size
  ll : w.heap.size ≤ lo
theorem CopL.write {w : World} {a : TxD} {g7 lo hi : Nat} {Ai Ao : Option Addr} {ci co M M' g9 g10 : Nat} {i9 o9 i10 o10 : Value} {wx : World} (h : CopL w a g7 lo hi Ai Ao ci co M g9 g10 i9 o9 i10 o10 wx) {g o : Nat} {v : Value} (h1 : lo ≤ g) (h2 : g < hi)
    (hi' : MutI (wx.setCell ⟨g, o, none⟩ v) lo hi M' Ai a.ins.length) (ho' : MutO (wx.setCell ⟨g, o, none⟩ v) lo hi Ao a.outs.length) : CopL w a g7 lo hi Ai Ao ci co M' g9 g10 i9 o9 i10 o10 (wx.setCell ⟨g, o, none⟩ v) := by
  have n7 := h.n7
  have n9 := h.n9
  have ll := h.ll
  have zx := size_set wx ⟨g, o, none⟩ v
  have kc : ∀ k o', k ≠ g → (wx.setCell ⟨g, o, none⟩ v).cell? ⟨k, o', none⟩ = wx.cell? ⟨k, o', none⟩ := fun k o' hk => World.cell?_of_block (w := wx) (a := ⟨k, o', none⟩) (Below.heap_setCell _ _ _ _ hk)
  have bk : ∀ {k v0 v1 v2 v3}, k ≠ g → Boxed wx k v0 v1 v2 v3 → Boxed (wx.setCell ⟨g, o, none⟩ v) k v0 v1 v2 v3 := fun hk q => ⟨(kc _ 0 hk).trans q.1, (kc _ 1 hk).trans q.2.1, (kc _ 2 hk).trans q.2.2.1, (kc _ 3 hk).trans q.2.2.2⟩
  have kp : Kept hi wx.heap.size wx (wx.setCell ⟨g, o, none⟩ v) := Kept.setCell (.inl h2) v
  exact ⟨bk (by omega) h.b7, hi', ho', bk (by omega) h.b9, bk (by omega) h.b10, by rw [zx]; exact h.t9.keep kp, by rw [zx]; exact h.t10.keep kp, h.bel.setCell (by show w.heap.size ≤ g; omega) _, n7, n9, by rw [zx]; exact h.l7, by rw [zx]; exact h.l9, ll⟩
theorem MutI.at {w : World} {lo hi M : Nat} {A : Option Addr} {n k : Nat} (h : MutI w lo hi M A n) (hk : k < n) :
    ∃ g cur, A = some ⟨g, 0, none⟩ ∧ lo ≤ g ∧ g < hi ∧ w.heap[g]? = some (.cells cur 43 (0, 0)) ∧ (∃ q, w.cell? ⟨g, k * 4 + 2, none⟩ = some (.int .u32 q)) ∧ ∃ B m c, w.cell? ⟨g, k * 4 + 3, none⟩ = some (.slice B m c) ∧ m ≤ 8 ∧ MutS w lo hi M (.slice B m c) m := by
  rcases h with h | ⟨g, cur, rfl, h1, h2, hg, h⟩
  · omega
  · obtain ⟨_, _, a2, u, m, a3, hm, hs⟩ := h k hk
    obtain ⟨B, c, rfl, _⟩ := id hs
    exact ⟨g, cur, rfl, h1, h2, hg, a2, B, m, c, a3, hm, hs⟩
theorem MutO.at {w : World} {lo hi : Nat} {A : Option Addr} {n k : Nat} (h : MutO w lo hi A n) (hk : k < n) :
    ∃ g cur, A = some ⟨g, 0, none⟩ ∧ lo ≤ g ∧ g < hi ∧ w.heap[g]? = some (.cells cur 52 (0, 0)) ∧ (∃ s : ByteArray, w.cell? ⟨g, k * 2 + 1, none⟩ = some (.string s)) := by
  rcases h with h | ⟨g, cur, rfl, h1, h2, hg, h⟩
  · omega
  · exact ⟨g, cur, rfl, h1, h2, hg, (h k hk).2⟩
theorem MutI.past {w : World} {lo hi M : Nat} {A : Option Addr} {n : Nat} (h : MutI w lo hi M A n) {g o : Nat} {v : Value} {cur : Array Value} {e : TypeId} (hg : w.heap[g]? = some (.cells cur e (0, 0))) (h1 : e ≠ 43) (h2 : e ≠ 9) : MutI (w.setCell ⟨g, o, none⟩ v) lo hi M A n :=
  h.keep (fun _ _ _ _ hb => Below.heap_setCell _ _ _ _ (blk_type hb hg (Ne.symm h1))) (fun _ _ _ _ hb => Below.heap_setCell _ _ _ _ (blk_type hb hg (Ne.symm h2)))
theorem MutO.past {w : World} {lo hi : Nat} {A : Option Addr} {n : Nat} (h : MutO w lo hi A n) {g o : Nat} {v : Value} {cur : Array Value} {e : TypeId} (hg : w.heap[g]? = some (.cells cur e (0, 0))) (he : e ≠ 52) : MutO (w.setCell ⟨g, o, none⟩ v) lo hi A n :=
  h.keep fun _ _ _ _ hb => Below.heap_setCell _ _ _ _ (blk_type hb hg (Ne.symm he))
theorem CopL.more {w : World} {a : TxD} {g7 lo hi : Nat} {Ai Ao : Option Addr} {ci co M M' g9 g10 : Nat} {i9 o9 i10 o10 : Value} {wx : World} (h : CopL w a g7 lo hi Ai Ao ci co M g9 g10 i9 o9 i10 o10 wx) (hM : M ≤ M') : CopL w a g7 lo hi Ai Ao ci co M' g9 g10 i9 o9 i10 o10 wx :=
  ⟨h.b7, h.mi.more hM, h.mo, h.b9, h.b10, h.t9, h.t10, h.bel, h.n7, h.n9, h.l7, h.l9, h.ll⟩

end Go.Proofs.Ytnljicongmknhaa
