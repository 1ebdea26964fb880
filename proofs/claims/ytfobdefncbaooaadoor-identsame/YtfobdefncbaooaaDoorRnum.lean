/-
  The document's reading: a number.
  The document's reading: a count.
  The document's reading: a text.
  The document's length: a number as layer 3's bytes.
  The document's reading: the Outs.
  The document's reading: the Outs, walked.
  The document's reading: the Ins.
  The document's reading: the Ins, walked.
-/
import Derived.Test.YtfobdefncbaooaaDoorRd
import Derived.Test.YtfobdefncbaooaaDoorVivget
import Derived.BigRegion
import Derived.Test.YtfobdefncbaooaaDoorViput
import Derived.Test.YtfobdefncbaooaaDoorClo
import Derived.Test.YtfobdefncbaooaaDoorCut

namespace Go.Proofs.YtfobdefncbaooaaDoor
open Go.RowKit

/-- What a step of the document's reading gives. -/
def DcGives (w : World) (v : Value) (z : St) (x : Ending) (w' : World) : Prop := x = .returned (.tuple #[.agg #[.int .i64 z.a, .int .i64 z.e], v]) ∧ Below w.heap.size w w'

theorem numE_old {s : ByteArray} {a e k lo hi out : Int} (he : ¬ e = 0) : numE s a e k lo hi out = e := by
  unfold numE spanE
  rw [refD_old he, ite_self, refD_old he, ite_self]
theorem numE_short {s : ByteArray} {a k hi out : Int} (h : Vi.okB s a k = false) (hh : 0 ≤ hi) : numE s a 0 k 0 hi out = 5 := by
  unfold numE spanE
  rw [Vi.getN_no h, h, if_neg (by omega)]
  rfl
theorem numE_far {s : ByteArray} {a k hi out : Int} (h : Vi.okB s a k = true) (hh : hi < Vi.getN s a k) : numE s a 0 k 0 hi out = out := by
  unfold numE spanE
  rw [h, if_pos (Or.inr hh)]
  rfl
theorem numE_good {s : ByteArray} {a k hi out : Int} (h : Vi.okB s a k = true) (h0 : 0 ≤ Vi.getN s a k) (hh : ¬ hi < Vi.getN s a k) : numE s a 0 k 0 hi out = 0 := by
  unfold numE spanE
  rw [h, if_neg (by omega)]
  rfl

end Go.Proofs.YtfobdefncbaooaaDoor

namespace Go.Proofs.YtfobdefncbaooaaDoor
open Go.RowKit

/-- A block of two cells that may be written. -/
def Two2 (W : World) (b : Nat) (u v : Value) : Prop := W.cell? ⟨b, 0, none⟩ = some u ∧ W.cell? ⟨b, 1, none⟩ = some v ∧ ∀ o, W.frozen? ⟨b, o, none⟩ = false
theorem Two2.new (w : World) (u v : Value) (t : TypeId) : Two2 (w.alloc (.cells #[u, v] t)) w.heap.size u v := ⟨by simp, by simp, fun o => by simp⟩
theorem Two2.keep {w w' : World} {b : Nat} {u v : Value} (h : Two2 w b u v) (hk : w'.heap[b]? = w.heap[b]?) : Two2 w' b u v :=
  ⟨(World.cell?_of_block (w := w) (a := ⟨b, 0, none⟩) hk).trans h.1, (World.cell?_of_block (w := w) (a := ⟨b, 1, none⟩) hk).trans h.2.1, fun o => (World.frozen?_of_block (w := w) (a := ⟨b, o, none⟩) hk).trans (h.2.2 o)⟩

theorem cntE_old {s : ByteArray} {a e lo hi out : Int} (he : ¬ e = 0) : cntE s a e lo hi out = e := by
  unfold cntE spanE
  rw [refD_old he, refD_old he, ite_self]
theorem cntE_bad {s : ByteArray} {a lo hi out : Int} (h : ¬ Vi.gotE s a = 0) : cntE s a 0 lo hi out = Vi.gotE s a := by
  unfold cntE spanE
  rw [show refD 0 (Vi.gotE s a) = Vi.gotE s a from if_pos rfl, refD_old h, ite_self]
theorem cntE_far {s : ByteArray} {a lo hi out : Int} (h : Vi.gotE s a = 0) (hh : Vi.gotN s a < lo ∨ hi < Vi.gotN s a) : cntE s a 0 lo hi out = out := by
  unfold cntE spanE
  rw [if_pos hh, h]
  rfl
theorem cntE_good {s : ByteArray} {a lo hi out : Int} (h : Vi.gotE s a = 0) (hh : ¬ (Vi.gotN s a < lo ∨ hi < Vi.gotN s a)) : cntE s a 0 lo hi out = 0 := by
  unfold cntE spanE
  rw [if_neg hh, h]
  rfl

end Go.Proofs.YtfobdefncbaooaaDoor

namespace Go.Proofs.YtfobdefncbaooaaDoor
open Go.RowKit

theorem bytE_old {s : ByteArray} {a e n : Int} (he : ¬ e = 0) : bytE s a e n = e := by
  unfold bytE
  rw [refD_old he, ite_self]

end Go.Proofs.YtfobdefncbaooaaDoor

namespace Go.Proofs.YtfobdefncbaooaaDoor
open Go.RowKit

set_option maxHeartbeats 1000000 in
theorem length_any (n : Nat) (w : World) (h1 : n < 9223372036854775808) : Calls Tryd.prog 43 #[.int .i64 (n : Int)] w fun x w' => x = .returned (.string (Vi.vstr n)) ∧ Below w.heap.size w w' := by
  have v1 : IntKind.u64.wrap (n : Int) = n := by rw [IntKind.wrap_u64]; omega
  go_enter Tryd.func43, Tryd.ntmps43
  go_wp2_with fail
  refine (Vi.rvput_any (n : Int) _ (by omega) (by omega)).mono ?_
  rintro x w1 ⟨rfl, hb⟩
  go_wp2_with fail
  go_ret
  exact ⟨rfl, hb⟩

end Go.Proofs.YtfobdefncbaooaaDoor

namespace Go.Proofs.YtfobdefncbaooaaDoor
open Go.RowKit

theorem Two2.put {W : World} {b : Nat} {u v : Value} (h : Two2 W b u v) (x y : Value) : Two2 ((W.setCell ⟨b, 0, none⟩ x).setCell ⟨b, 1, none⟩ y) b x y :=
  ⟨(World.cell?_setCell_other _ _ _ _ (by simp)).trans (World.cell?_setCell_same _ _ _ h.1), World.cell?_setCell_same _ _ _ ((World.cell?_setCell_other _ _ _ _ (by simp)).trans h.2.1), fun o => (frozen_setCell _ _ _ _).trans ((frozen_setCell _ _ _ _).trans (h.2.2 o))⟩

/-- Where the document's outs stands: its state, its list. -/
structure RoS (w : World) (z : St) (ys : List OutD) (v : Value) (wr : World) : Prop where
  tb : Two2 wr w.heap.size (.int .i64 z.a) (.int .i64 z.e)
  rb : Two2 wr (w.heap.size + 1) (.int .i64 0) (.int .i64 0)
  ow : OutsOwn wr (w.heap.size + 2) wr.heap.size v ys
  le : w.heap.size + 2 ≤ wr.heap.size
  bel : Below w.heap.size w wr
theorem RoS.step {w : World} {z : St} {ys : List OutD} {v : Value} {wr wx : World} (h : RoS w z ys v wr) (hb : Below wr.heap.size wr wx) (z' : St) : RoS w z' ys v ((wx.setCell ⟨w.heap.size, 0, none⟩ (.int .i64 z'.a)).setCell ⟨w.heap.size, 1, none⟩ (.int .i64 z'.e)) := by
  have hl := h.le
  have hs := hb.size
  refine ⟨(h.tb.keep (hb.block _ (by omega))).put _ _, (h.rb.keep (hb.block _ (by omega))).keep ?_, ?_, ?_, ((below_next h.bel (by omega) hb).setCell (Nat.le_refl _) _).setCell (Nat.le_refl _) _⟩
  · exact (Below.heap_setCell _ _ _ _ (by show w.heap.size + 1 ≠ w.heap.size; omega)).trans (Below.heap_setCell _ _ _ _ (by show w.heap.size + 1 ≠ w.heap.size; omega))
  · refine h.ow.keep ((StayE.of_below hb (Nat.le_refl _)).trans ((StayE.setCell (.inl (by show w.heap.size < w.heap.size + 2; omega)) _).trans (StayE.setCell (.inl (by show w.heap.size < w.heap.size + 2; omega)) _))) ?_
    rw [World.size_setCell, World.size_setCell]
    exact hs
  · rw [World.size_setCell, World.size_setCell]
    omega

theorem ouSt_old {s : ByteArray} {z : St} (he : ¬ z.e = 0) : ouSt s z = z := by
  have h1 : ouA s z = z := by unfold ouA numSt; rw [numE_old he, if_neg he]
  have h2 : cntSt s 0 40 20 (ouA s z) = z := by rw [h1]; unfold cntSt; rw [cntE_old he, if_neg he]
  unfold ouSt
  rw [h2]
  unfold bytSt
  rw [bytE_old he, if_neg he]
theorem iter_old {s : ByteArray} {z : St} {k : Nat} (he : ¬ (iter (ouSt s) k z).e = 0) : ∀ n, k ≤ n → iter (ouSt s) n z = iter (ouSt s) k z := by
  intro n
  induction n with
  | zero => intro h; have : k = 0 := by omega
            subst this; rfl
  | succ m ih =>
    intro h
    rcases Nat.lt_or_ge m k with h1 | h1
    · have : k = m + 1 := by omega
      subst this; rfl
    · show ouSt s (iter (ouSt s) m z) = _
      rw [ih h1, ouSt_old he]

theorem numSt_in {s : ByteArray} {z : St} (k : Nat) (lo hi out : Int) (h : z.a ≤ s.size) : (numSt s k lo hi out z).a ≤ s.size := by
  unfold numSt
  by_cases hX : numE s z.a z.e k lo hi out = 0
  · simp only [if_pos hX]
    have := okB_le (numE_ok hX)
    omega
  · simp only [if_neg hX]
    exact h
theorem cntSt_in {s : ByteArray} {z : St} (lo hi out : Int) (h : z.a ≤ s.size) : (cntSt s lo hi out z).a ≤ s.size := by
  unfold cntSt
  by_cases hX : cntE s z.a z.e lo hi out = 0
  · simp only [if_pos hX]
    have := gotT_le h (cntE_ok hX)
    omega
  · simp only [if_neg hX]
    exact h
theorem bytSt_in {s : ByteArray} {z : St} (n : Nat) (h : z.a ≤ s.size) : (bytSt s n z).a ≤ s.size := by
  unfold bytSt
  by_cases hX : bytE s z.a z.e n = 0
  · simp only [if_pos hX]
    unfold bytE at hX
    split at hX
    · exact absurd hX (refD_no (by omega))
    · omega
  · simp only [if_neg hX]
    exact h
theorem ouSt_in {s : ByteArray} {z : St} (h : z.a ≤ s.size) : (ouSt s z).a ≤ s.size := bytSt_in _ (cntSt_in _ _ _ (numSt_in _ _ _ _ h))
theorem iter_in {s : ByteArray} {z : St} {f : St → St} (hf : ∀ y : St, y.a ≤ s.size → (f y).a ≤ s.size) (h : z.a ≤ s.size) : ∀ k, (iter f k z).a ≤ s.size
  | 0 => h
  | k + 1 => hf _ (iter_in hf h k)

theorem RoS.more {w wr w1 : World} {z : St} {ys : List OutD} {v v' : Value} {cells : List Value} {x : OutD} {o : Obj} (h : RoS w z ys v wr)
    (hown : wr.ownsRow (w.heap.size + 2) 50 2 v ys.length cells) (hall : ∀ (j : Nat) (y : OutD), ys[j]? = some y → cells[j * 2]? = some (.int .i64 y.val) ∧ cells[j * 2 + 1]? = some (.string y.scr))
    (hgrow : (wr.alloc o).grownBy w1 v.ownBlock) (hown' : w1.ownsRow (w.heap.size + 2) 50 2 v' (ys.length + 1) (cells ++ [.int .i64 x.val, .string x.scr])) : RoS w z (ys ++ [x]) v' w1 := by
  have hle := h.le
  have hbl : Below (w.heap.size + 2) wr w1 := ((Below.refl (w.heap.size + 2) wr).alloc hle o).grown hgrow (by simp; omega) (own_block hown)
  have hs := hbl.size
  exact ⟨h.tb.keep (hbl.block _ (by omega)), h.rb.keep (hbl.block _ (by omega)), OutsOwn.push hown.1 hall hown', by omega, ⟨hbl.os.trans h.bel.os, hbl.tape.trans h.bel.tape, hbl.output.trans h.bel.output, Nat.le_trans h.bel.size hbl.size, fun c hc => (hbl.block c (by omega)).trans (h.bel.block c hc)⟩⟩

end Go.Proofs.YtfobdefncbaooaaDoor

namespace Go.Proofs.YtfobdefncbaooaaDoor
open Go.RowKit

theorem getN_pos (s : ByteArray) (a k : Int) : 0 ≤ Vi.getN s a k := by
  unfold Vi.getN
  split
  · exact (Vi.num_bd _ (Vi.part_bd s a.toNat k.toNat)).1
  · exact Int.le_refl _
theorem range_snoc {α : Type} (f : Nat → α) (k : Nat) : (List.range (k + 1)).map f = (List.range k).map f ++ [f k] := by
  rw [List.range_succ, List.map_append]
  rfl

theorem RoS.done {w wr : World} {y : St} {ys : List OutD} {v : Value} (h : RoS w y ys v wr) : OutsOwn ((wr.setCell ⟨w.heap.size + 1, 0, none⟩ (.int .i64 y.a)).setCell ⟨w.heap.size + 1, 1, none⟩ (.int .i64 y.e)) (w.heap.size + 2) ((wr.setCell ⟨w.heap.size + 1, 0, none⟩ (.int .i64 y.a)).setCell ⟨w.heap.size + 1, 1, none⟩ (.int .i64 y.e)).heap.size v ys := by
  refine h.ow.keep ((StayE.setCell (.inl (by show w.heap.size + 1 < w.heap.size + 2; omega)) _).trans (StayE.setCell (.inl (by show w.heap.size + 1 < w.heap.size + 2; omega)) _)) ?_
  rw [World.size_setCell, World.size_setCell]
  exact Nat.le_refl _

end Go.Proofs.YtfobdefncbaooaaDoor

namespace Go.Proofs.YtfobdefncbaooaaDoor
open Go.RowKit

/-- Where the document's ins stands: its state, its list. -/
structure RiS (w : World) (z : St) (ys : List InD) (v : Value) (wr : World) : Prop where
  tb : Two2 wr w.heap.size (.int .i64 z.a) (.int .i64 z.e)
  rb : Two2 wr (w.heap.size + 1) (.int .i64 0) (.int .i64 0)
  ow : InsOwn wr (w.heap.size + 2) wr.heap.size v ys
  le : w.heap.size + 2 ≤ wr.heap.size
  bel : Below w.heap.size w wr
theorem RiS.step {w : World} {z : St} {ys : List InD} {v : Value} {wr wx : World} (h : RiS w z ys v wr) (hb : Below wr.heap.size wr wx) (z' : St) : RiS w z' ys v ((wx.setCell ⟨w.heap.size, 0, none⟩ (.int .i64 z'.a)).setCell ⟨w.heap.size, 1, none⟩ (.int .i64 z'.e)) := by
  have hl := h.le
  have hs := hb.size
  have st : ∀ e, StayE (w.heap.size + 2) wr.heap.size e wr ((wx.setCell ⟨w.heap.size, 0, none⟩ (.int .i64 z'.a)).setCell ⟨w.heap.size, 1, none⟩ (.int .i64 z'.e)) := fun e => (StayE.of_below hb (Nat.le_refl _)).trans ((StayE.setCell (.inl (by show w.heap.size < w.heap.size + 2; omega)) _).trans (StayE.setCell (.inl (by show w.heap.size < w.heap.size + 2; omega)) _))
  refine ⟨(h.tb.keep (hb.block _ (by omega))).put _ _, (h.rb.keep (hb.block _ (by omega))).keep ?_, ?_, ?_, ((below_next h.bel (by omega) hb).setCell (Nat.le_refl _) _).setCell (Nat.le_refl _) _⟩
  · exact (Below.heap_setCell _ _ _ _ (by show w.heap.size + 1 ≠ w.heap.size; omega)).trans (Below.heap_setCell _ _ _ _ (by show w.heap.size + 1 ≠ w.heap.size; omega))
  · refine h.ow.keep (st 47) (st 9) ?_
    rw [World.size_setCell, World.size_setCell]
    exact hs
  · rw [World.size_setCell, World.size_setCell]
    omega
theorem RiS.done {w wr : World} {y : St} {ys : List InD} {v : Value} (h : RiS w y ys v wr) : InsOwn ((wr.setCell ⟨w.heap.size + 1, 0, none⟩ (.int .i64 y.a)).setCell ⟨w.heap.size + 1, 1, none⟩ (.int .i64 y.e)) (w.heap.size + 2) ((wr.setCell ⟨w.heap.size + 1, 0, none⟩ (.int .i64 y.a)).setCell ⟨w.heap.size + 1, 1, none⟩ (.int .i64 y.e)).heap.size v ys := by
  have st : ∀ e, StayE (w.heap.size + 2) wr.heap.size e wr ((wr.setCell ⟨w.heap.size + 1, 0, none⟩ (.int .i64 y.a)).setCell ⟨w.heap.size + 1, 1, none⟩ (.int .i64 y.e)) := fun e => (StayE.setCell (.inl (by show w.heap.size + 1 < w.heap.size + 2; omega)) _).trans (StayE.setCell (.inl (by show w.heap.size + 1 < w.heap.size + 2; omega)) _)
  refine h.ow.keep (st 47) (st 9) ?_
  rw [World.size_setCell, World.size_setCell]
  exact Nat.le_refl _
theorem RiS.more {w wr w1 : World} {z : St} {ys : List InD} {v v' : Value} {cells : List Value} {id : ByteArray} {ix sq : Int} {o : Obj} (h : RiS w z ys v wr)
    (hown : wr.ownsRow (w.heap.size + 2) 47 4 v ys.length cells) (hall : ∀ (j : Nat) (x : InD), ys[j]? = some x → cells[j * 4]? = some (.string x.id) ∧ cells[j * 4 + 1]? = some (.int .u32 x.ix) ∧ cells[j * 4 + 2]? = some (.int .u32 x.sq) ∧ ∃ u, cells[j * 4 + 3]? = some u ∧ StrOwn wr (w.heap.size + 2) wr.heap.size u x.wit)
    (hgrow : (wr.alloc o).grownBy w1 v.ownBlock) (hown' : w1.ownsRow (w.heap.size + 2) 47 4 v' (ys.length + 1) (cells ++ [.string id, .int .u32 ix, .int .u32 sq, .slice none 0 0])) : RiS w z (ys ++ [⟨id, ix, sq, []⟩]) v' w1 := by
  have hle := h.le
  have hbl : Below (w.heap.size + 2) wr w1 := ((Below.refl (w.heap.size + 2) wr).alloc hle o).grown hgrow (by simp; omega) (own_block hown)
  have hs := hbl.size
  have hin : InsOwn w1 (w.heap.size + 2) w1.heap.size v' (ys ++ [⟨id, ix, sq, []⟩]) := by
    refine InsOwn.push (x := ⟨id, ix, sq, []⟩) (u := .slice none 0 0) (hown.alloc o) ?_ ⟨World.ownsRow_nil _ _ 9 1, fun g h => by simp [Value.ownBlock] at h⟩ hgrow hown'
    intro j x hx
    obtain ⟨c0, c1, c2, u, c3, hu⟩ := hall j x hx
    exact ⟨c0, c1, c2, u, c3, OwnAt.keep hu (StayE.alloc o (Nat.le_refl _)) (by simp)⟩
  exact ⟨h.tb.keep (hbl.block _ (by omega)), h.rb.keep (hbl.block _ (by omega)), hin, by omega, ⟨hbl.os.trans h.bel.os, hbl.tape.trans h.bel.tape, hbl.output.trans h.bel.output, Nat.le_trans h.bel.size hbl.size, fun c hc => (hbl.block c (by omega)).trans (h.bel.block c hc)⟩⟩

theorem numE_word (s : ByteArray) (a e : Int) : numE s a e 4 0 4294967295 3 = numE s a e 4 0 4294967295 0 := by
  have h := getN_four s a
  have hn : ¬ (Vi.getN s a 4 < 0 ∨ 4294967295 < Vi.getN s a 4) := by omega
  unfold numE spanE
  rw [if_neg hn, if_neg hn]
theorem wd_three (s : ByteArray) (z : St) : numSt s 4 0 4294967295 3 z = wdSt s z ∧ numV s 4 0 4294967295 3 z = wdV s z := by
  have h := numE_word s z.a z.e
  refine ⟨?_, ?_⟩
  · show St.mk (if numE s z.a z.e 4 0 4294967295 3 = 0 then _ else _) (numE s z.a z.e 4 0 4294967295 3) = St.mk (if numE s z.a z.e 4 0 4294967295 0 = 0 then _ else _) (numE s z.a z.e 4 0 4294967295 0)
    rw [h]
  · show okN (numE s z.a z.e 4 0 4294967295 3) _ = okN (numE s z.a z.e 4 0 4294967295 0) _
    rw [h]
theorem wdSt_old {s : ByteArray} {z : St} (he : ¬ z.e = 0) : wdSt s z = z := by unfold wdSt numSt; rw [numE_old he, if_neg he]
theorem inSt_old {s : ByteArray} {z : St} (he : ¬ z.e = 0) : inSt s z = z := by
  have h1 : inA s z = z := by unfold inA bytSt; rw [bytE_old he, if_neg he]
  have h2 : inB' s z = z := by unfold inB'; rw [h1, wdSt_old he]
  have h3 : inC s z = z := by unfold inC; rw [h2]; unfold cntSt; rw [cntE_old he, if_neg he]
  unfold inSt
  rw [h3, wdSt_old he]
theorem iter_oldI {s : ByteArray} {z : St} {k : Nat} (he : ¬ (iter (inSt s) k z).e = 0) : ∀ n, k ≤ n → iter (inSt s) n z = iter (inSt s) k z := by
  intro n
  induction n with
  | zero => intro h; have : k = 0 := by omega
            subst this; rfl
  | succ m ih =>
    intro h
    rcases Nat.lt_or_ge m k with h1 | h1
    · have : k = m + 1 := by omega
      subst this; rfl
    · show inSt s (iter (inSt s) m z) = _
      rw [ih h1, inSt_old he]
theorem inSt_in {s : ByteArray} {z : St} (h : z.a ≤ s.size) : (inSt s z).a ≤ s.size := numSt_in _ _ _ _ (cntSt_in _ _ _ (numSt_in _ _ _ _ (bytSt_in _ h)))

end Go.Proofs.YtfobdefncbaooaaDoor

namespace Go.Proofs.YtfobdefncbaooaaDoor
open Go.RowKit

end Go.Proofs.YtfobdefncbaooaaDoor
