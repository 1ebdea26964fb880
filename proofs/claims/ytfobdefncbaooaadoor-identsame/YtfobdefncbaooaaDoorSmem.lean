/-
  What IdentSame's walk leans on in memory: Witnesses written, one In after the other.
-/
import Derived.Test.YtfobdefncbaooaaDoorPlaw
namespace Go.Proofs.YtfobdefncbaooaaDoor
open Go.RowKit

theorem run_min_nat (c : Nat) (ts : Array TypeId) (t : TypeId) (x : Nat) (w : World) : (Builtin.min_ ts t #[.int .i64 (x : Int), .int .i64 (c : Int)]).run Tryd.prog w = .ok (.int .i64 (min x c : Nat)) w := by
  rw [run_min_int2 w ts t .i64 .i64 x c]
  by_cases h : (c : Int) < x
  · rw [if_pos h, Nat.min_eq_right (by omega)]
  · rw [if_neg h, Nat.min_eq_left (by omega)]
/-- A text of a Witness, cut to what may be. -/
def cut80 (s : ByteArray) : ByteArray := s.extract 0 (min s.size 80)
theorem cut80_size (s : ByteArray) : (cut80 s).size ≤ 80 := by
  unfold cut80
  rw [ByteArray.size_extract]
  omega
theorem Boxed.block {w w' : World} {b : Nat} {v0 v1 v2 v3 : Value} (h : Boxed w b v0 v1 v2 v3) (hk : w'.heap[b]? = w.heap[b]?) : Boxed w' b v0 v1 v2 v3 := by
  have f : ∀ o, w'.cell? ⟨b, o, none⟩ = w.cell? ⟨b, o, none⟩ := fun o => World.cell?_of_block (w := w) hk
  exact ⟨(f 0).trans h.1, (f 1).trans h.2.1, (f 2).trans h.2.2.1, (f 3).trans h.2.2.2⟩
theorem BkI.block {w w' : World} {g k : Nat} {xs : List InD} (h : BkI w g k xs) (hk : w'.heap[g]? = w.heap[g]?) : BkI w' g k xs := by
  obtain ⟨cur, hc⟩ := h.blk
  have f : ∀ o, w'.cell? ⟨g, o, none⟩ = w.cell? ⟨g, o, none⟩ := fun o => World.cell?_of_block (w := w) hk
  refine ⟨⟨cur, hk.trans hc⟩, fun j x hx => ?_⟩
  rw [f, f, f, f]
  exact h.at' j x hx

/-- Where the writing of Witnesses stands: the Ins' row at g, the first i of which have the texts ss, in blocks ahead of T. -/
structure SmS (w w5 : World) (u : TxD) (g i T : Nat) (ss : List ByteArray) (wr : World) : Prop where
  blk : ∃ cur, wr.heap[g]? = some (.cells cur 47 (0, 0))
  ids : ∀ (j : Nat) (x : InD), u.ins[j]? = some x → wr.cell? ⟨g, j * 4, none⟩ = some (.string x.id) ∧ wr.cell? ⟨g, j * 4 + 1, none⟩ = some (.int .u32 x.ix) ∧ wr.cell? ⟨g, j * 4 + 2, none⟩ = some (.int .u32 x.sq)
  old : ∀ j, j < i → ∃ v, wr.cell? ⟨g, j * 4 + 3, none⟩ = some v ∧ Strs wr w5.heap.size T v ss
  new : ∀ j, j < u.ins.length → ∃ v, wr.cell? ⟨g, j * 4 + 3, none⟩ = some v
  oth : ∀ b, b < w5.heap.size → b ≠ g → wr.heap[b]? = w5.heap[b]?
  lt : g < w5.heap.size ∧ w5.heap.size ≤ T ∧ T ≤ wr.heap.size ∧ w.heap.size ≤ g
  bel : Below w.heap.size w wr
theorem SmS.free {w w5 : World} {u : TxD} {g i T : Nat} {ss : List ByteArray} {wr : World} (h : SmS w w5 u g i T ss wr) (o : Nat) : wr.frozen? ⟨g, o, none⟩ = false := by
  obtain ⟨cur, hc⟩ := h.blk
  exact Lib.frozen_of_heap hc o
theorem SmS.start {w w3 w4 w5 : World} {u : TxD} {g go c d : Nat} {ss : List ByteArray} (h : CpyS w3 w4 u g go c d) (hb : Below w4.heap.size w4 w5) (hw : Below w.heap.size w w3) : SmS w w5 u g 0 w5.heap.size ss w5 := by
  have l1 := h.lg
  have l2 := h.lgo
  have l3 := h.lt
  have z := hb.size
  have z3 := hw.size
  have cl : ∀ o, w5.cell? ⟨g, o, none⟩ = w4.cell? ⟨g, o, none⟩ := fun o => hb.cell (p := ⟨g, o, none⟩) (by show g < _; omega)
  obtain ⟨cur, hc⟩ := h.blk
  refine ⟨⟨cur, (hb.block g (by omega)).trans hc⟩, fun j x hx => ?_, fun j hj => absurd hj (Nat.not_lt_zero _), fun j hj => ?_, fun _ _ _ => rfl, ⟨by omega, Nat.le_refl _, Nat.le_refl _, by omega⟩, below_next (below_next hw z3 h.bel) (by have := h.bel.size; omega) hb⟩
  · obtain ⟨c0, c1, c2, _⟩ := h.ins j x hx
    exact ⟨(cl _).trans c0, (cl _).trans c1, (cl _).trans c2⟩
  · obtain ⟨_, _, _, v, c3, _⟩ := h.ins j _ (List.getElem?_eq_getElem hj)
    exact ⟨v, (cl _).trans c3⟩
theorem SmS.grown {w w5 : World} {u : TxD} {g i T : Nat} {ss : List ByteArray} {wr w1 : World} (h : SmS w w5 u g i T ss wr) (hb : Below T wr w1) : SmS w w5 u g i T ss w1 := by
  obtain ⟨l1, l2, l3, l4⟩ := h.lt
  have cl : ∀ o, w1.cell? ⟨g, o, none⟩ = wr.cell? ⟨g, o, none⟩ := fun o => hb.cell (p := ⟨g, o, none⟩) (by show g < _; omega)
  obtain ⟨cur, hc⟩ := h.blk
  refine ⟨⟨cur, (hb.block g (by omega)).trans hc⟩, fun j x hx => ?_, fun j hj => ?_, fun j hj => ?_, fun b b1 b2 => (hb.block b (by omega)).trans (h.oth b b1 b2), ⟨l1, l2, Nat.le_trans l3 hb.size, l4⟩, h.bel.trans (hb.mono (by omega))⟩
  · obtain ⟨c0, c1, c2⟩ := h.ids j x hx
    exact ⟨(cl _).trans c0, (cl _).trans c1, (cl _).trans c2⟩
  · obtain ⟨v, c3, hs⟩ := h.old j hj
    exact ⟨v, (cl _).trans c3, hs.keep (Kept.of_below hb (Nat.le_refl _))⟩
  · obtain ⟨v, c3⟩ := h.new j hj
    exact ⟨v, (cl _).trans c3⟩
theorem SmS.set {w w5 : World} {u : TxD} {g i T : Nat} {ss : List ByteArray} {wr : World} (h : SmS w w5 u g i T ss wr) (hi : i < u.ins.length) (v : Value) :
    SmS w w5 u g i T ss (wr.setCell ⟨g, i * 4 + 3, none⟩ v) ∧ (wr.setCell ⟨g, i * 4 + 3, none⟩ v).cell? ⟨g, i * 4 + 3, none⟩ = some v := by
  obtain ⟨l1, l2, l3, l4⟩ := h.lt
  obtain ⟨cur, hc⟩ := h.blk
  obtain ⟨u0, hu0⟩ := h.new i hi
  have zx : (wr.setCell ⟨g, i * 4 + 3, none⟩ v).heap.size = wr.heap.size := World.size_setCell _ _ _
  have same := World.cell?_setCell_same wr ⟨g, i * 4 + 3, none⟩ v hu0
  have f : ∀ o, o ≠ i * 4 + 3 → (wr.setCell ⟨g, i * 4 + 3, none⟩ v).cell? ⟨g, o, none⟩ = wr.cell? ⟨g, o, none⟩ := fun o ho => World.cell?_setCell_other _ _ _ _ (by intro e; injection e with _ e; exact ho e.symm)
  refine ⟨⟨⟨cur.setIfInBounds (i * 4 + 3) v, by simp [World.setCell, Array.getElem?_modify, hc]⟩, fun j x hx => ?_, fun j hj => ?_, fun j hj => ?_, fun b b1 b2 => (Below.heap_setCell _ _ _ _ b2).trans (h.oth b b1 b2), ⟨l1, l2, by rw [zx]; exact l3, l4⟩, h.bel.setCell (p := ⟨g, i * 4 + 3, none⟩) l4 _⟩, same⟩
  · obtain ⟨c0, c1, c2⟩ := h.ids j x hx
    exact ⟨(f _ (by omega)).trans c0, (f _ (by omega)).trans c1, (f _ (by omega)).trans c2⟩
  · obtain ⟨v', c3, hs⟩ := h.old j hj
    exact ⟨v', (f _ (by omega)).trans c3, hs.keep (Kept.setCell (.inl l1) _)⟩
  · by_cases e : j = i
    · subst e; exact ⟨v, same⟩
    · obtain ⟨v', c3⟩ := h.new j hj
      exact ⟨v', (f _ (by omega)).trans c3⟩
theorem SmS.next {w w5 : World} {u : TxD} {g i T : Nat} {ss : List ByteArray} {wr : World} {v : Value} (h : SmS w w5 u g i T ss wr) (hc : wr.cell? ⟨g, i * 4 + 3, none⟩ = some v) (hs : Strs wr T wr.heap.size v ss) : SmS w w5 u g (i + 1) wr.heap.size ss wr := by
  obtain ⟨l1, l2, l3, l4⟩ := h.lt
  refine ⟨h.blk, h.ids, fun j hj => ?_, h.new, h.oth, ⟨l1, by omega, Nat.le_refl _, l4⟩, h.bel⟩
  by_cases e : j = i
  · subst e
    exact ⟨v, hc, hs.wide l2 (Nat.le_refl _)⟩
  · obtain ⟨v', c3, hs'⟩ := h.old j (by omega)
    exact ⟨v', c3, hs'.wide (Nat.le_refl _) l3⟩
/-- The copy behind the writing. -/
theorem SmS.fin {w w3 w4 w5 : World} {u : TxD} {g go c d T : Nat} {ss : List ByteArray} {wr : World} (h : SmS w w5 u g u.ins.length T ss wr) (hk : CpyS w3 w4 u g go c d) (hb : Below w4.heap.size w4 w5) :
    TxAt wr g wr.heap.size (.slice (some ⟨g, 0, none⟩) u.ins.length c) (.slice (some ⟨go, 0, none⟩) u.outs.length d) (withW u ss) := by
  obtain ⟨l1, l2, l3, l4⟩ := h.lt
  have k1 := hk.lgo
  have k2 := hk.lt
  have z := hb.size
  refine ⟨⟨_, c, by show _ = Value.slice _ (u.ins.map (setW ss)).length c; rw [List.length_map], by show (u.ins.map (setW ss)).length ≤ c; rw [List.length_map]; exact hk.cap, .inr ⟨g, 0, rfl, Nat.le_refl _, by omega, fun j x hx => ?_⟩⟩, ?_⟩
  · have hx' : (u.ins.map (setW ss))[j]? = some x := hx
    rw [List.getElem?_map] at hx'
    obtain ⟨y, hy, rfl⟩ := Option.map_eq_some_iff.1 hx'
    obtain ⟨c0, c1, c2⟩ := h.ids j y hy
    obtain ⟨v, c3, hs⟩ := h.old j (List.getElem?_eq_some_iff.1 hy).1
    rw [Nat.zero_add]
    exact ⟨c0, c1, c2, v, c3, hs.wide (by omega) l3⟩
  · rcases hk.own.2 with ⟨hv, _⟩ | ⟨go', cap, cur, hv, _, _, hn, _⟩
    · cases hv
    injection hv with _ _ e3
    subst e3
    refine ⟨_, d, rfl, hn, .inr ⟨go, 0, rfl, by omega, by omega, fun j x hx => ?_⟩⟩
    rw [Nat.zero_add]
    have f : ∀ o, wr.cell? ⟨go, o, none⟩ = w4.cell? ⟨go, o, none⟩ := fun o => World.cell?_of_block (w := w4) ((h.oth go (by omega) (by omega)).trans (hb.block go k2))
    exact ⟨(f _).trans (hk.outs j x hx).1, (f _).trans (hk.outs j x hx).2⟩

theorem own_push {w10 : World} {T : Nat} {v' : Value} {cs : List ByteArray} {r : ByteArray} (h : w10.ownsRow T 9 1 v' (cs.length + 1) (cs.map Value.string ++ [.string r])) : StrOwn w10 T w10.heap.size v' (cs ++ [r]) := by
  have := OwnAt.of_own h
  unfold StrOwn
  rw [List.length_append, List.map_append]
  exact this
theorem own_set {wr : World} {T g o : Nat} {v x : Value} {cs : List ByteArray} (h : StrOwn wr T wr.heap.size v cs) (hg : g < T) : StrOwn (wr.setCell ⟨g, o, none⟩ x) T (wr.setCell ⟨g, o, none⟩ x).heap.size v cs := by
  rw [World.size_setCell]
  exact OwnAt.keep h (StayE.setCell (.inl hg) _) (Nat.le_refl _)
theorem own_nil (wr : World) (T : Nat) : StrOwn wr T wr.heap.size (.slice none 0 0) [] := ⟨World.ownsRow_nil wr T 9 1, fun g h => by simp [Value.ownBlock] at h⟩
theorem news1 (W : World) (B : Nat) (hB : B = W.heap.size) (a : Value) (t : TypeId) : ∀ j u, [a][j]? = some u → (W.alloc (.cells #[a] t)).drew.cell? ((⟨B, 0, none⟩ : Addr).add j) = some u := by
  subst hB
  exact World.news_of_block (w := (W.alloc (.cells #[a] t)).drew) (cs := #[a]) (heap_alloc_new W _)

/-- Where the striking of the Witnesses stands: all but the row at g is as it was. -/
structure BkW (w w8 : World) (g k : Nat) (xs : List InD) (wr : World) : Prop where
  row : BkI wr g k xs
  oth : ∀ b, b ≠ g → wr.heap[b]? = w8.heap[b]?
  sz : wr.heap.size = w8.heap.size
  bel : Below w.heap.size w wr
  lo : w.heap.size ≤ g
theorem BkW.step {w w8 : World} {g k : Nat} {xs : List InD} {wr : World} (h : BkW w w8 g k xs wr) (hk : k < xs.length) : BkW w w8 g (k + 1) xs (wr.setCell ⟨g, k * 4 + 3, none⟩ (.slice none 0 0)) :=
  ⟨h.row.step hk, fun b hb => (Below.heap_setCell _ _ _ _ hb).trans (h.oth b hb), by rw [World.size_setCell]; exact h.sz, h.bel.setCell (p := ⟨g, k * 4 + 3, none⟩) h.lo _, h.lo⟩

end Go.Proofs.YtfobdefncbaooaaDoor
