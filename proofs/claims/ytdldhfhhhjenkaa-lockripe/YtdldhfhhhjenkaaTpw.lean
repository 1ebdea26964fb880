/-
  The statement TxSpends, walked.
-/
import Derived.Test.YtdldhfhhhjenkaaCut
import Derived.Test.YtdldhfhhhjenkaaSmath
import Derived.Test.YtdldhfhhhjenkaaRead
import Derived.Laws.AppendOwnNone
namespace Go.Proofs.Ytdldhfhhhjenkaa
open Go.RowKit

theorem cut_ok {t : TxD} (h : t.Came) {m : Nat} (hm : m ≤ 512) : (cutTx m t).Ok := by
  obtain ⟨_, _, h3, h4, h5, h6, h7, h8⟩ := h
  refine ⟨by simp [cutTx]; omega, by simp [cutTx]; omega, ?_, ?_, h5, h6, h7, h8⟩
  · intro x hx
    obtain ⟨y, hy, rfl⟩ := List.mem_map.1 hx
    obtain ⟨_, a, b, c, d⟩ := h3 y (List.mem_of_mem_take hy)
    refine ⟨Nat.le_trans (cutS_size 40 y.id) (by omega), a, b, c, d, ?_, ?_⟩
    · simp [cutIn]; omega
    · intro s hs
      obtain ⟨r, _, rfl⟩ := List.mem_map.1 hs
      exact Nat.le_trans (cutS_size 90 r) (by omega)
  · intro x hx
    obtain ⟨y, hy, rfl⟩ := List.mem_map.1 hx
    obtain ⟨a, b⟩ := h4 y (List.mem_of_mem_take hy)
    exact ⟨a, b, Nat.le_trans (cutS_size 50 y.scr) (by omega)⟩
theorem came_ins {t : TxD} (h : t.Came) : t.ins.length ≤ 9223372036854775807 := by have := h.1; unfold maxLen at this; omega
theorem came_outs {t : TxD} (h : t.Came) : t.outs.length ≤ 9223372036854775807 := by have := h.2.1; unfold maxLen at this; omega
theorem came_wit {t : TxD} (h : t.Came) : ∀ x ∈ t.ins, x.wit.length ≤ 9223372036854775807 := fun x hx => by have := (h.2.2.1 x hx).1; unfold maxLen at this; omega

theorem ins_of_cells {w : World} {base lo hi : Nat} {v : Value} {ys : List InD} {cells : List Value} (hown : w.ownsRow base 66 4 v ys.length cells)
    (hall : ∀ (j : Nat) (x : InD), ys[j]? = some x → cells[j * 4]? = some (.string x.id) ∧ cells[j * 4 + 1]? = some (.int .u32 x.ix) ∧ cells[j * 4 + 2]? = some (.int .u32 x.sq) ∧ ∃ u, cells[j * 4 + 3]? = some u ∧ Strs w lo hi u x.wit) (hlo : lo ≤ base) (hhi : w.heap.size ≤ hi) : Ins w lo hi v ys := by
  rcases hown.2 with ⟨rfl, h0⟩ | ⟨g, cap, cur, rfl, hb, hg, hn, hm, hs, htk⟩
  · have : ys = [] := List.eq_nil_of_length_eq_zero h0
    subst this
    exact Ins.nil _ _ _
  · refine ⟨_, cap, rfl, hn, .inr ⟨g, 0, rfl, by omega, ?_, fun k x hk => ?_⟩⟩
    · rcases Nat.lt_or_ge g w.heap.size with hlt | hge
      · omega
      · rw [Array.getElem?_eq_none hge] at hg; cases hg
    obtain ⟨c0, c1, c2, u, c3, hst⟩ := hall k x hk
    have hc := hown.cells (g := g) rfl
    have a0 := hc _ _ c0
    have a1 := hc _ _ c1
    have a2 := hc _ _ c2
    have a3 := hc _ _ c3
    simp only [Addr.add_lit, Nat.zero_add] at a0 a1 a2 a3
    rw [Nat.zero_add]
    exact ⟨a0, a1, a2, u, a3, hst⟩

/-- An input, then those of a list, copied as they stand. -/
theorem spend_list {W w2 : World} {base lo hi b off n c : Nat} {v' : Value} {ys : List InD} {pa : ByteArray} {pi : Int} {row : Option Nat} (hI : Ins W lo hi (.slice (some ⟨b, off, none⟩) n c) ys) (hhi : hi ≤ W.heap.size) (hg : W.grownBy w2 row) (hr : ∀ g, row = some g → hi ≤ g) (hlo : lo ≤ base)
    (hown : w2.ownsRow base 66 4 v' (1 + n) ([.string pa, .int .u32 pi, .int .u32 0, .slice none 0 0] ++ cellsAt W b off (n * 4))) : Ins w2 lo w2.heap.size v' (⟨pa, pi, 0, []⟩ :: ys) := by
  have hn : n = ys.length := by obtain ⟨_, _, hv, _⟩ := hI; injection hv
  have hk : Kept lo hi W w2 := fun b _ hb => hg.block b (by omega) (fun e => by have := hr b e.symm; omega)
  refine ins_of_cells (by rw [List.length_cons, ← hn, Nat.add_comm]; exact hown) (fun j x hx => ?_) hlo (Nat.le_refl _)
  cases j with
  | zero =>
    simp at hx
    subst hx
    exact ⟨rfl, rfl, rfl, .slice none 0 0, rfl, Strs.nil _ _ _⟩
  | succ j =>
    simp only [List.getElem?_cons_succ] at hx
    have hj := (List.getElem?_eq_some_iff.1 hx).1
    obtain ⟨b', off', hA, _, _, c0, c1, c2, u, c3, hs⟩ := hI.at hx
    injection hA with hA
    injection hA with e1 e2
    subst e1 e2
    have get : ∀ i, i < 4 → ([Value.string pa, .int .u32 pi, .int .u32 0, .slice none 0 0] ++ cellsAt W b off (n * 4))[(j + 1) * 4 + i]? = some ((W.cell? ⟨b, off + (j * 4 + i), none⟩).getD undef) := fun i hi => by
      rw [List.getElem?_append_right (by simp; omega)]
      rw [show (j + 1) * 4 + i - [Value.string pa, .int .u32 pi, .int .u32 0, .slice none 0 0].length = j * 4 + i from by simp; omega]
      simp [cellsAt, show j * 4 + i < n * 4 from by omega]
    refine ⟨?_, ?_, ?_, u, ?_, (hs.keep hk).wide (Nat.le_refl _) (by have := hg.size; omega)⟩
    · rw [show (j + 1) * 4 = (j + 1) * 4 + 0 from rfl, get 0 (by omega), show off + (j * 4 + 0) = off + j * 4 from by omega, c0]; rfl
    · rw [get 1 (by omega), show off + (j * 4 + 1) = off + j * 4 + 1 from by omega, c1]; rfl
    · rw [get 2 (by omega), show off + (j * 4 + 2) = off + j * 4 + 2 from by omega, c2]; rfl
    · rw [get 3 (by omega), show off + (j * 4 + 3) = off + j * 4 + 3 from by omega, c3]; rfl

theorem one_row (w : World) {base n : Nat} (hn : n = w.heap.size) (hb : base ≤ w.heap.size) (a b c d : Value) : (w.alloc (.cells #[a, b, c, d] 66)).ownsRow base 66 4 (.slice (some ⟨n, 0, none⟩) 1 1) 1 [a, b, c, d] := by
  subst hn
  exact ⟨by simp, .inr ⟨w.heap.size, 1, #[a, b, c, d], rfl, hb, heap_alloc_new w _, Nat.le_refl _, by unfold maxLen; omega, by simp, by simp⟩⟩
theorem cellsAt_here {w : World} {b off m : Nat} (h : ∀ j, j < m → ∃ u, w.cell? ⟨b, off + j, none⟩ = some u ∧ u.oneCell' = true) : ∀ j u, (cellsAt w b off m)[j]? = some u → w.cell? ((⟨b, off, none⟩ : Addr).add j) = some u := by
  intro j u hj
  obtain ⟨hj', rfl⟩ := cellsAt_get hj
  obtain ⟨u, hu, _⟩ := h j hj'
  rw [Addr.add_lit, hu]
  rfl

/-- A world in which all that lay in w lies as it did. -/
structure T_After (w : World) where
  val : World
  ok : Below w.heap.size w val

/-- A region that draws its order and whose operations read what lay there, and whose callees leave that as it was: one walk of the text's order serves every order. -/
theorem t_wp_region_after {P : Program} {id : Nat} {Q : Exit → Act → World → Prop} {a : Act} {w : World} {l : List Oper} (hm : P.follows .mixedOrders = true) (hB : Region.lexB .any l.toArray = true)
    (h : wpQuiet P l.toArray (fun w' => ∃ x : T_After w, w' = x.val) (fun a' => ∀ w', (∃ x : T_After w, w' = x.val) → Q .normal a' w') l a) : (Code.region id l.toArray true).wp P Q a w :=
  wp_region_quiet (C := fun w' => ∃ x : T_After w, w' = x.val) hm hB ⟨⟨w.drew, (Below.refl _ w).drew⟩, rfl⟩ (by simpa using h)
theorem T_After.call {P : Program} {f : FuncId} {args : Array Value} {w : World} {v : Value} (x : T_After w) (h : Calls P f args x.val fun e w' => e = .returned v ∧ Below x.val.heap.size x.val w') : Calls P f args x.val fun e w'' => e = .returned v ∧ ∃ y : T_After w, w'' = y.val :=
  h.mono fun _ w' ⟨he, hb⟩ => ⟨he, ⟨w', below_next x.ok x.ok.size hb⟩, rfl⟩

/-- Two cells of a box. -/
def Pair (w : World) (b : Nat) (a : ByteArray) (i : Int) : Prop := w.cell? ⟨b, 0, none⟩ = some (.string a) ∧ w.cell? ⟨b, 1, none⟩ = some (.int .u32 i)
theorem Pair.keep {w w' : World} {b : Nat} {a : ByteArray} {i : Int} (h : Pair w b a i) (hk : w'.heap[b]? = w.heap[b]?) : Pair w' b a i :=
  ⟨(World.cell?_of_block (w := w) (a := ⟨b, 0, none⟩) hk).trans h.1, (World.cell?_of_block (w := w) (a := ⟨b, 1, none⟩) hk).trans h.2⟩

theorem Pair.new (w : World) (a : ByteArray) (i : Int) (t : TypeId) : Pair (w.alloc (.cells #[.string a, .int .u32 i] t)) w.heap.size a i := ⟨by simp, by simp⟩
theorem Pair.three (w : World) (o : Obj) (pa : ByteArray) (pi : Int) (qa : ByteArray) (qi : Int) :
    Pair (((w.alloc o).alloc (.cells #[.string pa, .int .u32 pi] 64)).alloc (.cells #[.string qa, .int .u32 qi] 64)) (w.heap.size + 1) pa pi ∧ Pair (((w.alloc o).alloc (.cells #[.string pa, .int .u32 pi] 64)).alloc (.cells #[.string qa, .int .u32 qi] 64)) (w.heap.size + 1 + 1) qa qi := by
  have h1 := Pair.new (w.alloc o) pa pi 64
  have h2 := Pair.new ((w.alloc o).alloc (.cells #[.string pa, .int .u32 pi] 64)) qa qi 64
  simp only [World.size_alloc] at h1 h2
  exact ⟨h1.keep (Below.heap_alloc _ _ _ (by simp)), h2⟩

/-- Where TxSpends stands at its loop: the list that is gone through, the transaction in its box, both points in theirs. -/
structure SpState (w : World) (bu : Nat) (pa : ByteArray) (pi : Int) (qa : ByteArray) (qi : Int) (u : TxD) (ui uo : Value) (v : Value) (wx : World) : Prop where
  list : Ins wx 0 wx.heap.size v (⟨pa, pi, 0, []⟩ :: u.ins)
  box : T_Boxed wx bu (.int .u32 u.ver) ui uo (.int .u32 u.lock)
  tx : TxAt wx 0 wx.heap.size ui uo u
  bp : Pair wx (w.heap.size + 1) pa pi
  bq : Pair wx (w.heap.size + 1 + 1) qa qi
  bel : Below w.heap.size w wx
  le : w.heap.size + 3 ≤ wx.heap.size
  lt : bu < wx.heap.size
theorem SpState.below {w : World} {bu : Nat} {pa : ByteArray} {pi : Int} {qa : ByteArray} {qi : Int} {u : TxD} {ui uo v : Value} {wx wy : World} (h : SpState w bu pa pi qa qi u ui uo v wx) (hb : Below wx.heap.size wx wy) : SpState w bu pa pi qa qi u ui uo v wy := by
  have hs := hb.size
  have hle := h.le
  exact ⟨(h.list.keep (Kept.of_below hb (Nat.le_refl _))).wide (Nat.le_refl _) hs, h.box.below h.lt hb, (h.tx.keep (Kept.of_below hb (Nat.le_refl _))).wide (Nat.le_refl _) hs, h.bp.keep (hb.block _ (by omega)), h.bq.keep (hb.block _ (by omega)), below_next h.bel (by omega) hb, by omega, by have := h.lt; omega⟩

end Go.Proofs.Ytdldhfhhhjenkaa
