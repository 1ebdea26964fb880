/-
  The statement TxSpends, walked.
-/
import Derived.Test.YtnljicongmknhaaCut
import Derived.Test.YtnljicongmknhaaWake
import Derived.Test.YtnljicongmknhaaSmath
import Derived.Test.YtnljicongmknhaaRead
import Derived.Laws.AppendOwnNone
namespace Go.Proofs.Ytnljicongmknhaa
open Go.RowKit

theorem cut_ok {t : TxD} (h : t.Came) {m : Nat} (hm : m ≤ 512) : (cutTx m t).Ok := by
  obtain ⟨_, _, h3, h4, h5, h6, h7, h8⟩ := h
  refine ⟨by simp [cutTx]; omega, by simp [cutTx]; omega, ?_, ?_, h5, h6, h7, h8⟩
  · intro x hx
    obtain ⟨y, hy, rfl⟩ := List.mem_map.1 hx
    obtain ⟨_, a, b, c, d⟩ := h3 y (List.mem_of_mem_take hy)
    refine ⟨Nat.le_trans (cutS_size 40 y.id) (by omega), a, b, c, d, ?_, ?_⟩
    · simp [cutIn]; omega
    · intro s hs
      obtain ⟨r, _, rfl⟩ := List.mem_map.1 hs
      exact Nat.le_trans (cutS_size 90 r) (by omega)
  · intro x hx
    obtain ⟨y, hy, rfl⟩ := List.mem_map.1 hx
    obtain ⟨a, b⟩ := h4 y (List.mem_of_mem_take hy)
    exact ⟨a, b, Nat.le_trans (cutS_size 50 y.scr) (by omega)⟩
theorem came_ins {t : TxD} (h : t.Came) : t.ins.length ≤ 9223372036854775807 := by have := h.1; unfold maxLen at this; omega
theorem came_outs {t : TxD} (h : t.Came) : t.outs.length ≤ 9223372036854775807 := by have := h.2.1; unfold maxLen at this; omega
theorem came_wit {t : TxD} (h : t.Came) : ∀ x ∈ t.ins, x.wit.length ≤ 9223372036854775807 := fun x hx => by have := (h.2.2.1 x hx).1; unfold maxLen at this; omega

theorem ins_of_cells {w : World} {base lo hi : Nat} {v : Value} {ys : List InD} {cells : List Value} (hown : w.ownsRow base 43 4 v ys.length cells)
    (hall : ∀ (j : Nat) (x : InD), ys[j]? = some x → cells[j * 4]? = some (.string x.id) ∧ cells[j * 4 + 1]? = some (.int .u32 x.ix) ∧ cells[j * 4 + 2]? = some (.int .u32 x.sq) ∧ ∃ u, cells[j * 4 + 3]? = some u ∧ Strs w lo hi u x.wit) (hlo : lo ≤ base) (hhi : w.heap.size ≤ hi) : Ins w lo hi v ys := by
  rcases hown.2 with ⟨rfl, h0⟩ | ⟨g, cap, cur, rfl, hb, hg, hn, hm, hs, htk⟩
  · have : ys = [] := List.eq_nil_of_length_eq_zero h0
    subst this
    exact Ins.nil _ _ _
  · refine ⟨_, cap, rfl, hn, .inr ⟨g, 0, rfl, by omega, ?_, fun k x hk => ?_⟩⟩
    · rcases Nat.lt_or_ge g w.heap.size with hlt | hge
      · omega
      · rw [Array.getElem?_eq_none hge] at hg; cases hg
    obtain ⟨c0, c1, c2, u, c3, hst⟩ := hall k x hk
    have hc := hown.cells (g := g) rfl
    have a0 := hc _ _ c0
    have a1 := hc _ _ c1
    have a2 := hc _ _ c2
    have a3 := hc _ _ c3
    simp only [Addr.add_lit, Nat.zero_add] at a0 a1 a2 a3
    rw [Nat.zero_add]
    exact ⟨a0, a1, a2, u, a3, hst⟩

/-- An input, then those of a list, copied as they stand. -/
theorem spend_list {W w2 : World} {base lo hi b off n c : Nat} {v' : Value} {ys : List InD} {pa : ByteArray} {pi : Int} {row : Option Nat} (hI : Ins W lo hi (.slice (some ⟨b, off, none⟩) n c) ys) (hhi : hi ≤ W.heap.size) (hg : W.grownBy w2 row) (hr : ∀ g, row = some g → hi ≤ g) (hlo : lo ≤ base)
    (hown : w2.ownsRow base 43 4 v' (1 + n) ([.string pa, .int .u32 pi, .int .u32 0, .slice none 0 0] ++ cellsAt W b off (n * 4))) : Ins w2 lo w2.heap.size v' (⟨pa, pi, 0, []⟩ :: ys) := by
  have hn : n = ys.length := by obtain ⟨_, _, hv, _⟩ := hI; injection hv
  have hk : Kept lo hi W w2 := fun b _ hb => hg.block b (by omega) (fun e => by have := hr b e.symm; omega)
  refine ins_of_cells (by rw [List.length_cons, ← hn, Nat.add_comm]; exact hown) (fun j x hx => ?_) hlo (Nat.le_refl _)
  cases j with
  | zero =>
    simp at hx
    subst hx
    exact ⟨rfl, rfl, rfl, .slice none 0 0, rfl, Strs.nil _ _ _⟩
  | succ j =>
    simp only [List.getElem?_cons_succ] at hx
    have hj := (List.getElem?_eq_some_iff.1 hx).1
    obtain ⟨b', off', hA, _, _, c0, c1, c2, u, c3, hs⟩ := hI.at hx
    injection hA with hA
    injection hA with e1 e2
    subst e1 e2
    have get : ∀ i, i < 4 → ([Value.string pa, .int .u32 pi, .int .u32 0, .slice none 0 0] ++ cellsAt W b off (n * 4))[(j + 1) * 4 + i]? = some ((W.cell? ⟨b, off + (j * 4 + i), none⟩).getD undef) := fun i hi => by
      rw [List.getElem?_append_right (by simp; omega)]
      rw [show (j + 1) * 4 + i - [Value.string pa, .int .u32 pi, .int .u32 0, .slice none 0 0].length = j * 4 + i from by simp; omega]
      simp [cellsAt, show j * 4 + i < n * 4 from by omega]
    refine ⟨?_, ?_, ?_, u, ?_, (hs.keep hk).wide (Nat.le_refl _) (by have := hg.size; omega)⟩
    · rw [show (j + 1) * 4 = (j + 1) * 4 + 0 from rfl, get 0 (by omega), show off + (j * 4 + 0) = off + j * 4 from by omega, c0]; rfl
    · rw [get 1 (by omega), show off + (j * 4 + 1) = off + j * 4 + 1 from by omega, c1]; rfl
    · rw [get 2 (by omega), show off + (j * 4 + 2) = off + j * 4 + 2 from by omega, c2]; rfl
    · rw [get 3 (by omega), show off + (j * 4 + 3) = off + j * 4 + 3 from by omega, c3]; rfl

theorem one_row (w : World) {base n : Nat} (hn : n = w.heap.size) (hb : base ≤ w.heap.size) (a b c d : Value) : (w.alloc (.cells #[a, b, c, d] 43)).ownsRow base 43 4 (.slice (some ⟨n, 0, none⟩) 1 1) 1 [a, b, c, d] := by
  subst hn
  exact ⟨by simp, .inr ⟨w.heap.size, 1, #[a, b, c, d], rfl, hb, heap_alloc_new w _, Nat.le_refl _, by unfold maxLen; omega, by simp, by simp⟩⟩
theorem cellsAt_here {w : World} {b off m : Nat} (h : ∀ j, j < m → ∃ u, w.cell? ⟨b, off + j, none⟩ = some u ∧ u.oneCell' = true) : ∀ j u, (cellsAt w b off m)[j]? = some u → w.cell? ((⟨b, off, none⟩ : Addr).add j) = some u := by
  intro j u hj
  obtain ⟨hj', rfl⟩ := cellsAt_get hj
  obtain ⟨u, hu, _⟩ := h j hj'
  rw [Addr.add_lit, hu]
  rfl

/-- A world in which all that lay in w lies as it did. -/
structure After (w : World) where
  val : World
  ok : Below w.heap.size w val

/-- A region that draws its order and whose operations read what lay there, and whose callees leave that as it was: one walk of the text's order serves every order. -/
theorem wp_region_after {P : Program} {id : Nat} {Q : Exit → Act → World → Prop} {a : Act} {w : World} {l : List Oper} (hm : P.follows .mixedOrders = true) (hB : Region.lexB .any l.toArray = true)
    (h : wpQuiet P l.toArray (fun w' => ∃ x : After w, w' = x.val) (fun a' => ∀ w', (∃ x : After w, w' = x.val) → Q .normal a' w') l a) : (Code.region id l.toArray true).wp P Q a w :=
  wp_region_quiet (C := fun w' => ∃ x : After w, w' = x.val) hm hB ⟨⟨w.drew, (Below.refl _ w).drew⟩, rfl⟩ (by simpa using h)
theorem After.call {P : Program} {f : FuncId} {args : Array Value} {w : World} {v : Value} (x : After w) (h : Calls P f args x.val fun e w' => e = .returned v ∧ Below x.val.heap.size x.val w') : Calls P f args x.val fun e w'' => e = .returned v ∧ ∃ y : After w, w'' = y.val :=
  h.mono fun _ w' ⟨he, hb⟩ => ⟨he, ⟨w', below_next x.ok x.ok.size hb⟩, rfl⟩

/-- Two cells of a box. -/
def Pair (w : World) (b : Nat) (a : ByteArray) (i : Int) : Prop := w.cell? ⟨b, 0, none⟩ = some (.string a) ∧ w.cell? ⟨b, 1, none⟩ = some (.int .u32 i)
theorem Pair.keep {w w' : World} {b : Nat} {a : ByteArray} {i : Int} (h : Pair w b a i) (hk : w'.heap[b]? = w.heap[b]?) : Pair w' b a i :=
  ⟨(World.cell?_of_block (w := w) (a := ⟨b, 0, none⟩) hk).trans h.1, (World.cell?_of_block (w := w) (a := ⟨b, 1, none⟩) hk).trans h.2⟩

theorem Pair.new (w : World) (a : ByteArray) (i : Int) (t : TypeId) : Pair (w.alloc (.cells #[.string a, .int .u32 i] t)) w.heap.size a i := ⟨by simp, by simp⟩
theorem Pair.three (w : World) (o : Obj) (pa : ByteArray) (pi : Int) (qa : ByteArray) (qi : Int) :
    Pair (((w.alloc o).alloc (.cells #[.string pa, .int .u32 pi] 40)).alloc (.cells #[.string qa, .int .u32 qi] 40)) (w.heap.size + 1) pa pi ∧ Pair (((w.alloc o).alloc (.cells #[.string pa, .int .u32 pi] 40)).alloc (.cells #[.string qa, .int .u32 qi] 40)) (w.heap.size + 1 + 1) qa qi := by
  have h1 := Pair.new (w.alloc o) pa pi 40
  have h2 := Pair.new ((w.alloc o).alloc (.cells #[.string pa, .int .u32 pi] 40)) qa qi 40
  simp only [World.size_alloc] at h1 h2
  exact ⟨h1.keep (Below.heap_alloc _ _ _ (by simp)), h2⟩

/-- Where TxSpends stands at its loop: the list that is gone through, the transaction in its box, both points in theirs. -/
structure SpState (w : World) (bu : Nat) (pa : ByteArray) (pi : Int) (qa : ByteArray) (qi : Int) (u : TxD) (ui uo : Value) (v : Value) (wx : World) : Prop where
  list : Ins wx 0 wx.heap.size v (⟨pa, pi, 0, []⟩ :: u.ins)
  box : Boxed wx bu (.int .u32 u.ver) ui uo (.int .u32 u.lock)
  tx : TxAt wx 0 wx.heap.size ui uo u
  bp : Pair wx (w.heap.size + 1) pa pi
  bq : Pair wx (w.heap.size + 1 + 1) qa qi
  bel : Below w.heap.size w wx
  le : w.heap.size + 3 ≤ wx.heap.size
  lt : bu < wx.heap.size
theorem SpState.below {w : World} {bu : Nat} {pa : ByteArray} {pi : Int} {qa : ByteArray} {qi : Int} {u : TxD} {ui uo v : Value} {wx wy : World} (h : SpState w bu pa pi qa qi u ui uo v wx) (hb : Below wx.heap.size wx wy) : SpState w bu pa pi qa qi u ui uo v wy := by
  have hs := hb.size
  have hle := h.le
  exact ⟨(h.list.keep (Kept.of_below hb (Nat.le_refl _))).wide (Nat.le_refl _) hs, h.box.below h.lt hb, (h.tx.keep (Kept.of_below hb (Nat.le_refl _))).wide (Nat.le_refl _) hs, h.bp.keep (hb.block _ (by omega)), h.bq.keep (hb.block _ (by omega)), below_next h.bel (by omega) hb, by omega, by have := h.lt; omega⟩

set_option maxHeartbeats 2000000 in
set_option maxRecDepth 100000 in
theorem spends_law (t : TxD) (vi vo : Value) (pa : ByteArray) (pi : Int) (qa : ByteArray) (qi : Int) (w : World) (ht : TxAt w 0 w.heap.size vi vo t) (hc : t.Came) :
    Calls Try.prog 6 #[.agg #[.int .u32 t.ver, vi, vo, .int .u32 t.lock], .agg #[.string pa, .int .u32 pi], .agg #[.string qa, .int .u32 qi]] w fun e w' => e = .returned (.bool true) ∧ Below w.heap.size w w' := by
  have heq := run_eql_pt
  have hgd := pt_guard
  have HT := Lib.hid ht
  have HC := Lib.hid hc
  have HOK := Lib.hid (cut_ok hc (m := 12) (by omega))
  clear ht hc
  obtain ⟨i43, hi43, x0, x1, x2⟩ := info_parts info43
  have B0 := Lib.hid (fun o o' o'' => (((Below.refl w.heap.size w).alloc (Nat.le_refl _) o).alloc (by simp) o').alloc (by simp; omega) o'')
  go_enter Try.func6, Try.ntmps6
  go_wp2_with fail
  refine (cut_own t 12 _ _ _ w.heap.size (HT.out.keep (Kept.of_below (B0.out _ _ _) (Nat.le_refl _))) (by simp; omega) (by omega) (came_ins HC.out) (came_outs HC.out) (came_wit HC.out)).mono ?_
  rintro e w1 ⟨ui, uo, rfl, ⟨hu1, hu2⟩, hb1⟩
  have hver : (cutTx 12 t).ver = t.ver ∧ (cutTx 12 t).lock = t.lock := ⟨rfl, rfl⟩
  have hul := HOK.out.1
  generalize cutTx 12 t = u at hu1 hu2 HOK hul hver
  obtain ⟨hver, hlock⟩ := hver
  rw [← hver, ← hlock]
  have HU := Lib.hid (show TxAt w1 0 w1.heap.size ui uo u from ⟨hu1.ins.wide (Nat.zero_le _) (Nat.le_refl _), hu2.outs.wide (Nat.zero_le _) (Nat.le_refl _)⟩)
  obtain ⟨_, ⟨hrow, _⟩, _⟩ := hu1
  have HROW := Lib.hid hrow.2
  have z1 : w.heap.size + 3 ≤ w1.heap.size := by have := hb1.size; simp at this; omega
  have hw1a : w.heap.size + 1 < w1.heap.size := by omega
  obtain ⟨bp0, bq0⟩ := Pair.three w (.cells #[.int .u32 t.ver, vi, vo, .int .u32 t.lock] 26) pa pi qa qi
  have bp1 := bp0.keep (hb1.block _ (by simp))
  have bq1 := bq0.keep (hb1.block _ (by simp))
  obtain ⟨p0, p1⟩ := bp1
  have BP := Lib.hid (show Pair w1 (w.heap.size + 1) pa pi from ⟨p0, p1⟩)
  have BQ := Lib.hid bq1
  have K1 := Lib.hid (below_next (B0.out _ _ _) (by simp; omega) hb1)
  clear hb1 hu2 hver hlock bp0 bq0 bq1 hrow
  obtain ⟨A1, m1, rfl⟩ := HU.out.1.form
  obtain ⟨A2, m2, rfl⟩ := HU.out.2.form
  have WX := Lib.hid (show ∀ (v' : Value) (w2 : World) (base : Nat), w1.heap.size + 1 ≤ base → Below base (w1.alloc (.cells #[.int .u32 u.ver, .slice A1 u.ins.length m1, .slice A2 u.outs.length m2, .int .u32 u.lock] 26)) w2 → Ins w2 0 w2.heap.size v' (⟨pa, pi, 0, []⟩ :: u.ins) →
      SpState w w1.heap.size pa pi qa qi u (.slice A1 u.ins.length m1) (.slice A2 u.outs.length m2) v' w2 from fun v' w2 base hbase hb hI => by
    have hs := hb.size
    simp only [World.size_alloc] at hs
    have blk : ∀ b, b < w1.heap.size → w2.heap[b]? = w1.heap[b]? := fun b hb' => (hb.block b (by omega)).trans (Below.heap_alloc _ _ _ hb')
    have kp : Kept 0 w1.heap.size w1 w2 := fun b _ hb' => blk b hb'
    refine ⟨hI, ?_, (HU.out.keep (kp.mono (Nat.zero_le _) (Nat.le_refl _))).wide (Nat.zero_le _) (by omega), BP.out.keep (blk _ (by omega)), BQ.out.keep (blk _ (by omega)), ?_, by omega, by omega⟩
    · have h := Boxed.new w1 (.int .u32 u.ver) (.slice A1 u.ins.length m1) (.slice A2 u.outs.length m2) (.int .u32 u.lock) 26
      have f := fun o => hb.cell (p := ⟨w1.heap.size, o, none⟩) (by show w1.heap.size < base; omega)
      exact ⟨(f 0).trans h.1, (f 1).trans h.2.1, (f 2).trans h.2.2.1, (f 3).trans h.2.2.2⟩
    · exact ⟨hb.os.trans K1.out.os, hb.tape.trans K1.out.tape, hb.output.trans K1.out.output, by omega, fun b hb' => (blk b (by omega)).trans (K1.out.block b hb')⟩)
  go_upto_region 2 with (fail)
  go_cut [22, 23, 24] (fun v n z wx => z = .int .i64 0 ∧ n = .int .i64 ((1 + u.ins.length : Nat) : Int) ∧ (∃ A c, v = .slice A (1 + u.ins.length) c) ∧ SpState w w1.heap.size pa pi qa qi u (.slice A1 u.ins.length m1) (.slice A2 u.outs.length m2) v wx)
  case first =>
    rcases HROW.out with ⟨hv, h0⟩ | ⟨g, cap, cur, hv, hgb, hgh, _, _, _, _⟩
    · injection hv with e1 e2 e3
      subst e1 e3
      have hnil : u.ins = [] := List.eq_nil_of_length_eq_zero h0
      have hl0 : u.ins.length = 0 := h0
      have HN := Lib.hid hnil
      have HN0 := Lib.hid hl0
      clear hnil h0 hl0 e2
      have hin := one_row (w1.alloc (.cells #[.int .u32 u.ver, .slice none u.ins.length 0, .slice A2 u.outs.length m2, .int .u32 u.lock] 26)) (base := w1.heap.size + 1) (n := w1.heap.size + 1) (by simp) (by simp) (.string pa) (.int .u32 pi) (.int .u32 0) (.slice none 0 0)
      have HIN := Lib.hid hin
      clear hin
      go_wp2_with (at_builtin; refine wpList_append_own_none rfl _ _ 23 rfl (w1.heap.size + 1) 43 i43 4 Try.underlying23 hi43 _ _ _ rfl HIN.out (by rw [HN0.out]; rfl) ?_)
      go_meet
      refine ⟨rfl, by rw [HN0.out]; rfl, ⟨_, _, by rw [HN0.out]⟩, WX.out _ _ (w1.heap.size + 1) (Nat.le_refl _) ((Below.refl _ _).alloc (by simp) _) ?_⟩
      have e0 : ((⟨pa, pi, 0, []⟩ : InD) :: u.ins) = [⟨pa, pi, 0, []⟩] := by rw [HN.out]
      rw [e0]
      exact ins_of_cells (ys := [⟨pa, pi, 0, []⟩]) HIN.out (fun j x hx => by
        match j, hx with
        | 0, hx => simp at hx; subst hx; exact ⟨rfl, rfl, rfl, .slice none 0 0, rfl, Strs.nil _ _ _⟩) (Nat.zero_le _) (Nat.le_refl _)
    · injection hv with e1 e2 e3
      subst e1 e3
      clear e2
      obtain ⟨W, hW⟩ : ∃ W, W = (w1.alloc (.cells #[.int .u32 u.ver, .slice (some ⟨g, 0, none⟩) u.ins.length m1, .slice A2 u.outs.length m2, .int .u32 u.lock] 26)).alloc (.cells #[.string pa, .int .u32 pi, .int .u32 0, .slice none 0 0] 43) := ⟨_, rfl⟩
      have hin := one_row (w1.alloc (.cells #[.int .u32 u.ver, .slice (some ⟨g, 0, none⟩) u.ins.length m1, .slice A2 u.outs.length m2, .int .u32 u.lock] 26)) (base := w1.heap.size + 1) (n := w1.heap.size + 1) (by simp) (by simp) (.string pa) (.int .u32 pi) (.int .u32 0) (.slice none 0 0)
      have hIW : Ins W 0 w1.heap.size (.slice (some ⟨g, 0, none⟩) u.ins.length m1) u.ins := by
        rw [hW]
        exact (HU.out.1.keep (Kept.alloc (Nat.le_refl _) _)).keep (Kept.alloc (by simp) _)
      have zW : W.heap.size = w1.heap.size + 2 := by rw [hW]; simp
      have hbW : Below (w1.heap.size + 1) (w1.alloc (.cells #[.int .u32 u.ver, .slice (some ⟨g, 0, none⟩) u.ins.length m1, .slice A2 u.outs.length m2, .int .u32 u.lock] 26)) W := by rw [hW]; exact (Below.refl _ _).alloc (by simp) _
      have hsrc : ∀ j, j < u.ins.length * 4 → ∃ v, W.cell? ⟨g, 0 + j, none⟩ = some v ∧ v.oneCell' = true := by
        rcases hIW.source with h | ⟨b, off, hA, h⟩
        · intro j hj; omega
        · injection hA with hA
          injection hA with e1 e2
          subst e1 e2
          exact h
      rw [← hW] at hin
      have HIN := Lib.hid hin
      have HSRC := Lib.hid hsrc
      have HIW := Lib.hid hIW
      have ZW := Lib.hid zW
      have BWW := Lib.hid hbW
      have HW := Lib.hid hW
      clear hin hsrc hIW hW zW hbW hgh
      go_wp2_with (at_builtin; rw [← HW.out]; refine wpList_append_own _ rfl _ _ 23 rfl (w1.heap.size + 1) 43 i43 _ 4 56 Try.underlying23 hi43 x0 x1 x2 rfl (by decide) _ _ _ rfl HIN.out ⟨g, 0, none⟩ u.ins.length m1 (cellsAt W g 0 (u.ins.length * 4)) rfl (by simp [cellsAt]) (cellsAt_here HSRC.out) (cellsAt_one HSRC.out) (by unfold maxLen; omega) (by omega) (by have := ZW.out; omega) ?_; intro v' w2 hown' hgrow _; obtain ⟨A', c', rfl⟩ := own_form hown')
      go_meet
      have hrow : ∀ k, (Value.slice (some (⟨w1.heap.size + 1, 0, none⟩ : Addr)) 1 1).ownBlock = some k → w1.heap.size + 1 ≤ k := fun k hk => by
        have h2 : some (w1.heap.size + 1) = some k := hk
        injection h2 with h2
        omega
      refine ⟨rfl, rfl, ⟨_, _, rfl⟩, WX.out _ _ (w1.heap.size + 1) (Nat.le_refl _) (BWW.out.grown hgrow (by have := ZW.out; omega) hrow) ?_⟩
      exact spend_list HIW.out (by have := ZW.out; omega) hgrow (fun k hk => by have := hrow k hk; omega) (Nat.zero_le _) hown'
  case rest =>
    obtain ⟨rfl, rfl, ⟨A, c, rfl⟩, hst⟩ := hcut
    have HST := Lib.hid hst
    clear hst p0 p1 HROW
    go_wp2_with fail
    go_loopg [9, 10, 11, 12, 13, 14, 24] (1 + u.ins.length) (fun gg _ _ _ _ _ _ s wr => ∃ k : Nat, k ≤ 1 + u.ins.length ∧ 1 + u.ins.length - k ≤ gg ∧ s = .int .i64 k ∧ Hid (SpState w w1.heap.size pa pi qa qi u (.slice A1 u.ins.length m1) (.slice A2 u.outs.length m2) (.slice A (1 + u.ins.length) c) wr))
    case atStart => exact ⟨0, Nat.zero_le _, by omega, rfl, HST⟩
    case round =>
      obtain ⟨k, hk, hgg, rfl, HS⟩ := hrel
      have hz1 := HS.out.le
      have hz2 := HS.out.lt
      obtain ⟨a0, a1, a2, a3⟩ := HS.out.box
      by_cases hlt : k < 1 + u.ins.length
      · have hltz : (k : Int) < ((1 + u.ins.length : Nat) : Int) := by omega
        have hltz' : (k : Int) < 1 + (u.ins.length : Int) := by omega
        have hd : decide (k < 1 + u.ins.length) = true := decide_eq_true hlt
        obtain ⟨x, hxk⟩ : ∃ x, ((⟨pa, pi, 0, []⟩ : InD) :: u.ins)[k]? = some x := ⟨_, List.getElem?_eq_getElem (by simp; omega)⟩
        obtain ⟨b, off, rfl, g1, g2, c0, c1, c2, v, c3, hs⟩ := HS.out.list.at hxk
        obtain ⟨B1, n1, rfl⟩ := hs.form
        clear hs hxk
        obtain ⟨wo, hwo⟩ : ∃ wo, wo = wr := ⟨_, rfl⟩
        subst hwo
        obtain ⟨wx, hwx⟩ : ∃ wx, wx = wo.alloc (.cells #[.string x.id, .int .u32 x.ix, .int .u32 x.sq, .slice B1 x.wit.length n1] 43) := ⟨_, rfl⟩
        have hbx : Below wo.heap.size wo wx := by rw [hwx]; exact (Below.refl _ _).alloc (Nat.le_refl _) _
        have zx : wx.heap.size = wo.heap.size + 1 := by rw [hwx]; simp
        have px : Pair wx wo.heap.size x.id x.ix := by rw [hwx]; exact ⟨by simp, by simp⟩
        have HBX := Lib.hid hbx
        have ZX := Lib.hid zx
        have PX := Lib.hid px
        have HWX := Lib.hid hwx
        clear hbx zx px hwx
        go_wp2_with fail
        go_loopg [10, 11, 12] u.ins.length (fun gg s10 s11 s12 wr => ∃ (j : Nat) (i : Int), j ≤ u.ins.length ∧ j ≤ gg ∧ i = (j : Int) - 1 ∧ s12 = .int .i64 i ∧ s10 = .int .i64 (scan (fun y : InD => ptB y.id y.ix x.id x.ix) u.ins j).1 ∧ s11 = .bool (scan (fun y : InD => ptB y.id y.ix x.id x.ix) u.ins j).2 ∧ Hid (Below wx.heap.size wx wr))
        case atStart => exact ⟨u.ins.length, (u.ins.length : Int) - 1, Nat.le_refl _, Nat.le_refl _, rfl, rfl, by rw [scan_end], by rw [scan_end], (show Hid _ from by rw [HWX.out]; exact Below.refl _ _)⟩
        case round =>
          obtain ⟨j, i, hj, hgj, hij, rfl, rfl, rfl, HB⟩ := hrel
          have hb1 := Lib.hid (below_next HBX.out (by have := ZX.out; omega) HB.out)
          have HS2 := Lib.hid (HS.out.below hb1.out)
          have hzx : wo.heap.size < wr.heap.size := by have := HB.out.size; have := ZX.out; omega
          have PX2 := Lib.hid (PX.out.keep (HB.out.block _ (by have := ZX.out; omega)))
          clear a0 a1 a2 a3 c0 c1 c2 c3
          obtain ⟨a0, a1, a2, a3⟩ := HS2.out.box
          obtain ⟨x0, x1⟩ := PX2.out
          have hzu := HS2.out.lt
          rcases j with _ | j
          · obtain rfl : i = -1 := by omega
            have hsc := scan_zero (fun y : InD => ptB y.id y.ix x.id x.ix) u.ins
            have h21 := spends_any u (.slice A1 u.ins.length m1) (.slice A2 u.outs.length m2) x.id x.ix wr 0 wr.heap.size HS2.out.tx.1 (Nat.le_refl _) hul
            unfold spendsD at h21
            generalize idxOf (fun y : InD => ptB y.id y.ix x.id x.ix) u.ins = r at hsc h21
            generalize (if r < 0 then (0 : Int) else r) = r1 at hsc h21
            generalize (!decide (r < 0)) = r2 at hsc h21
            rw [hsc]
            dsimp only
            have H21 := Lib.hid h21
            clear h21 hsc hij
            obtain ⟨qq0, qq1⟩ := HS2.out.bq
            have hzq : w.heap.size + 1 + 1 < wr.heap.size := by have := HS2.out.le; omega
            go_wp2_with fail
            refine H21.out.mono ?_
            rintro e w2 ⟨rfl, hb2⟩
            have HS3 := Lib.hid (HS2.out.below hb2)
            have PX3 := Lib.hid (PX2.out.keep (hb2.block _ hzx))
            have hzx3 : wo.heap.size < w2.heap.size := by have := hb2.size; omega
            clear a0 a1 a2 a3 x0 x1 qq0 qq1 hb2
            obtain ⟨x0, x1⟩ := PX3.out
            obtain ⟨qq0, qq1⟩ := HS3.out.bq
            have hzq3 : w.heap.size + 1 + 1 < w2.heap.size := by have := HS3.out.le; omega
            have e1 : (r1 != r1) = false := by simp
            have e2 : (r2 != r2) = false := by simp
            have hl1 : ∀ W, Below w2.heap.size w2 W → Calls Try.prog 22 #[.agg #[.string x.id, .int .u32 x.ix], .agg #[.string qa, .int .u32 qi]] W fun e w' => e = .returned (.bool (lessB x.id x.ix qa qi)) ∧ Below w2.heap.size w2 w' ∧ (w'.cell? ⟨wo.heap.size, 0, none⟩ = some (.string x.id) ∧ w'.cell? ⟨wo.heap.size, 1, none⟩ = some (.int .u32 x.ix) ∧ w'.cell? ⟨w.heap.size + 1 + 1, 0, none⟩ = some (.string qa) ∧ w'.cell? ⟨w.heap.size + 1 + 1, 1, none⟩ = some (.int .u32 qi)) := fun W hW =>
              (less_any _ _ _ _ W).mono fun e w' ⟨he, hb⟩ => by
                have hn := below_next hW hW.size hb
                exact ⟨he, hn, (hn.cell (p := ⟨wo.heap.size, 0, none⟩) hzx3).trans x0, (hn.cell (p := ⟨wo.heap.size, 1, none⟩) hzx3).trans x1, (hn.cell (p := ⟨w.heap.size + 1 + 1, 0, none⟩) hzq3).trans qq0, (hn.cell (p := ⟨w.heap.size + 1 + 1, 1, none⟩) hzq3).trans qq1⟩
            have hl2 : ∀ W, Below w2.heap.size w2 W → Calls Try.prog 23 #[.agg #[.string x.id, .int .u32 x.ix], .agg #[.string qa, .int .u32 qi]] W fun e w' => e = .returned (.bool (lessB x.id x.ix qa qi)) ∧ Below w2.heap.size w2 w' ∧ (w'.cell? ⟨wo.heap.size, 0, none⟩ = some (.string x.id) ∧ w'.cell? ⟨wo.heap.size, 1, none⟩ = some (.int .u32 x.ix) ∧ w'.cell? ⟨w.heap.size + 1 + 1, 0, none⟩ = some (.string qa) ∧ w'.cell? ⟨w.heap.size + 1 + 1, 1, none⟩ = some (.int .u32 qi)) := fun W hW =>
              (rless_any _ _ _ _ W).mono fun e w' ⟨he, hb⟩ => by
                have hn := below_next hW hW.size hb
                exact ⟨he, hn, (hn.cell (p := ⟨wo.heap.size, 0, none⟩) hzx3).trans x0, (hn.cell (p := ⟨wo.heap.size, 1, none⟩) hzx3).trans x1, (hn.cell (p := ⟨w.heap.size + 1 + 1, 0, none⟩) hzq3).trans qq0, (hn.cell (p := ⟨w.heap.size + 1 + 1, 1, none⟩) hzq3).trans qq1⟩
            have hl3 : ∀ W, Below w2.heap.size w2 W → Calls Try.prog 22 #[.agg #[.string x.id, .int .u32 x.ix], .agg #[.string x.id, .int .u32 x.ix]] W fun e w' => e = .returned (.bool false) ∧ Below w2.heap.size w2 w' ∧ (w'.cell? ⟨wo.heap.size, 0, none⟩ = some (.string x.id) ∧ w'.cell? ⟨wo.heap.size, 1, none⟩ = some (.int .u32 x.ix) ∧ w'.cell? ⟨w.heap.size + 1 + 1, 0, none⟩ = some (.string qa) ∧ w'.cell? ⟨w.heap.size + 1 + 1, 1, none⟩ = some (.int .u32 qi)) := fun W hW =>
              (less_any _ _ _ _ W).mono fun e w' ⟨he, hb⟩ => by
                have hn := below_next hW hW.size hb
                rw [less_self] at he
                exact ⟨he, hn, (hn.cell (p := ⟨wo.heap.size, 0, none⟩) hzx3).trans x0, (hn.cell (p := ⟨wo.heap.size, 1, none⟩) hzx3).trans x1, (hn.cell (p := ⟨w.heap.size + 1 + 1, 0, none⟩) hzq3).trans qq0, (hn.cell (p := ⟨w.heap.size + 1 + 1, 1, none⟩) hzq3).trans qq1⟩
            have HL1 := Lib.hid hl1
            have HL2 := Lib.hid hl2
            have HL3 := Lib.hid hl3
            have e3 : (lessB x.id x.ix qa qi != lessB x.id x.ix qa qi) = false := by simp
            generalize lessB x.id x.ix qa qi = lb at HL1 HL2 e3
            have hB0 := Lib.hid ((Below.refl w2.heap.size w2).drew)
            clear hl1 hl2 hl3
            go_wp2_with fail
            go_region_held3 (fun w' => w'.cell? ⟨wo.heap.size, 0, none⟩ = some (.string x.id) ∧ w'.cell? ⟨wo.heap.size, 1, none⟩ = some (.int .u32 x.ix) ∧ w'.cell? ⟨w.heap.size + 1 + 1, 0, none⟩ = some (.string qa) ∧ w'.cell? ⟨w.heap.size + 1 + 1, 1, none⟩ = some (.int .u32 qi))
              (go_keep)
              (first
                | (go_at_call 23; ((with_reducible refine (HL2.out _ hB1.out).mono ?_); rintro e w4 ⟨rfl, hb4, hs4⟩; have hB2 := Lib.hid hb4; clear hb4; obtain ⟨s0, s1, s2, s3⟩ := hs4))
                | (go_at_call 22; ((with_reducible refine (HL1.out _ hB0.out).mono ?_); rintro e w3 ⟨rfl, hb3, hs3⟩; have hB1 := Lib.hid hb3; clear hb3; obtain ⟨s0, s1, s2, s3⟩ := hs3))
                | (go_at_call 22; ((with_reducible refine (HL3.out _ hB2.out).mono ?_); rintro e w5 ⟨rfl, hb5, hs5⟩; have hB3 := Lib.hid hb5; clear hb5; obtain ⟨s0, s1, s2, s3⟩ := hs5)))
            go_wp2_with fail
            go_roundg (1 + u.ins.length - (k + 1))
            case measure => omega
            case rel => exact ⟨k + 1, by omega, by omega, by go_num, HS3.out.below hB3.out⟩
          · obtain rfl : i = (j : Int) := by omega
            clear hij
            have hj1 : (j : Int) < (u.ins.length : Int) := by omega
            have hjd : decide ((0 : Int) ≤ (j : Int)) = true := decide_eq_true (by omega)
            obtain ⟨y, hyj⟩ : ∃ y, u.ins[j]? = some y := ⟨_, List.getElem?_eq_getElem (by omega)⟩
            obtain ⟨yb, yo, rfl, _, hyb, d0, d1, d2, _⟩ := HS2.out.tx.1.at hyj
            cases hq : ptB y.id y.ix x.id x.ix
            · have E := Lib.hid (scan_miss (p := fun y : InD => ptB y.id y.ix x.id x.ix) hyj hq)
              clear hyj
              generalize (scan (fun y : InD => ptB y.id y.ix x.id x.ix) u.ins (j + 1)) = sc at E
              go_wp2_with fail
              go_quiet (fail)
              go_wp2_with fail
              go_roundg j
              case measure => omega
              case rel => exact ⟨j, (j : Int) - 1, by omega, Nat.le_refl _, rfl, rfl, by rw [E.out], by rw [E.out], below_drewN HB.out _⟩
            · have E := Lib.hid (scan_hit (p := fun y : InD => ptB y.id y.ix x.id x.ix) hyj hq)
              clear hyj
              go_wp2_with fail
              go_quiet (fail)
              go_wp2_with fail
              go_roundg j
              case measure => omega
              case rel => exact ⟨j, (j : Int) - 1, by omega, Nat.le_refl _, rfl, rfl, by rw [E.out], by rw [E.out], below_drewN HB.out _⟩
      · have hltz : ¬ (k : Int) < 1 + (u.ins.length : Int) := by omega
        clear a0 a1 a2 a3
        obtain ⟨p0, p1⟩ := HS.out.bp
        obtain ⟨q0, q1⟩ := HS.out.bq
        have hzp : w.heap.size + 1 < wr.heap.size := by omega
        have hzq : w.heap.size + 1 + 1 < wr.heap.size := by omega
        have cells4 : ∀ W, Below wr.heap.size wr W → W.cell? ⟨w.heap.size + 1, 0, none⟩ = some (.string pa) ∧ W.cell? ⟨w.heap.size + 1, 1, none⟩ = some (.int .u32 pi) ∧ W.cell? ⟨w.heap.size + 1 + 1, 0, none⟩ = some (.string qa) ∧ W.cell? ⟨w.heap.size + 1 + 1, 1, none⟩ = some (.int .u32 qi) := fun W hn =>
          ⟨(hn.cell (p := ⟨w.heap.size + 1, 0, none⟩) hzp).trans p0, (hn.cell (p := ⟨w.heap.size + 1, 1, none⟩) hzp).trans p1, (hn.cell (p := ⟨w.heap.size + 1 + 1, 0, none⟩) hzq).trans q0, (hn.cell (p := ⟨w.heap.size + 1 + 1, 1, none⟩) hzq).trans q1⟩
        have C4 := Lib.hid cells4
        clear cells4
        have hw : ∀ W, Below wr.heap.size wr W → Calls Try.prog 17 #[] W fun e w' => e = .returned (.bool true) ∧ Below wr.heap.size wr w' := fun W hW => (wakes_any W).mono fun e w' ⟨he, hb⟩ => ⟨he, below_next hW hW.size hb⟩
        have hl : ∀ (a : ByteArray) (i : Int) (b : ByteArray) (j : Int) W, Below wr.heap.size wr W → Calls Try.prog 22 #[.agg #[.string a, .int .u32 i], .agg #[.string b, .int .u32 j]] W fun e w' => e = .returned (.bool (lessB a i b j)) ∧ Below wr.heap.size wr w' := fun a i b j W hW => (less_any a i b j W).mono fun e w' ⟨he, hb⟩ => ⟨he, below_next hW hW.size hb⟩
        have HW := Lib.hid hw
        have HL1 := Lib.hid (hl pa pi qa qi)
        have HL2 := Lib.hid (hl qa qi pa pi)
        clear hw hl
        have hB0 := Lib.hid ((Below.refl wr.heap.size wr).drew)
        cases hpq : ptB pa pi qa qi
        · have e3 := less_flip hpq
          generalize lessB pa pi qa qi = l1 at e3 HL1
          generalize lessB qa qi pa pi = l2 at e3 HL2
          go_wp2_with fail
          go_region_held3 (fun w' => w'.cell? ⟨w.heap.size + 1, 0, none⟩ = some (.string pa) ∧ w'.cell? ⟨w.heap.size + 1, 1, none⟩ = some (.int .u32 pi) ∧ w'.cell? ⟨w.heap.size + 1 + 1, 0, none⟩ = some (.string qa) ∧ w'.cell? ⟨w.heap.size + 1 + 1, 1, none⟩ = some (.int .u32 qi))
            (go_keep)
            (first
              | (go_at_call 17; ((with_reducible refine (HW.out _ hB0.out).mono ?_); rintro e w3 ⟨rfl, hb3⟩; have hB1 := Lib.hid hb3; clear hb3; obtain ⟨s0, s1, s2, s3⟩ := C4.out _ hB1.out))
              | (go_at_call 22; ((with_reducible refine (HL1.out _ hB1.out).mono ?_); rintro e w4 ⟨rfl, hb4⟩; have hB2 := Lib.hid hb4; clear hb4; obtain ⟨s0, s1, s2, s3⟩ := C4.out _ hB2.out))
              | (go_at_call 22; ((with_reducible refine (HL2.out _ hB2.out).mono ?_); rintro e w5 ⟨rfl, hb5⟩; have hB3 := Lib.hid hb5; clear hb5; obtain ⟨s0, s1, s2, s3⟩ := C4.out _ hB3.out)))
          go_wp2_with fail
          go_ret
          exact ⟨ret_bool e3, below_next HS.out.bel (by omega) hB3.out⟩
        · have hq : ∀ W : World, (binOp .eql 40 (.agg #[.string pa, .int .u32 pi]) (.agg #[.string qa, .int .u32 qi])).run Try.prog W = .ok (.bool true) W := fun W => by rw [run_eql_pt, hpq]
          clear heq
          go_wp2_with fail
          have r0 : ∀ x : After wr, x.val.cell? ⟨w.heap.size + 1, 0, none⟩ = some (.string pa) := fun x => (C4.out x.val x.ok).1
          have r1 : ∀ x : After wr, x.val.cell? ⟨w.heap.size + 1, 1, none⟩ = some (.int .u32 pi) := fun x => (C4.out x.val x.ok).2.1
          have r2 : ∀ x : After wr, x.val.cell? ⟨w.heap.size + 1 + 1, 0, none⟩ = some (.string qa) := fun x => (C4.out x.val x.ok).2.2.1
          have r3 : ∀ x : After wr, x.val.cell? ⟨w.heap.size + 1 + 1, 1, none⟩ = some (.int .u32 qi) := fun x => (C4.out x.val x.ok).2.2.2
          have hne : Nonempty (After wr) := ⟨⟨wr, Below.refl _ _⟩⟩
          refine wp_region_after (by kernel_rfl) (by kernel_rfl) ?_
          repeat (go_big_quiet_step ((go_at_call 17; exact After.call _ (wakes_any _))))
          refine wpQuiet_nil ?_
          rintro _ ⟨⟨W, hW⟩, rfl⟩
          go_wp2_with fail
          go_ret
          exact ⟨rfl, below_next HS.out.bel (by omega) hW⟩

end Go.Proofs.Ytnljicongmknhaa
