/-
  A transaction's bytes, as a function.
-/
import Derived.Test.YtfobdefncbaooaaDoorClo
import Derived.Test.YtfobdefncbaooaaDoorCheck
namespace Go.Proofs.YtfobdefncbaooaaDoor
open Go.RowKit

/-- Texts one behind the other. -/
def catL {α : Type} (f : α → ByteArray) : List α → ByteArray
  | [] => ByteArray.empty
  | x :: r => f x ++ catL f r
theorem catL_append {α : Type} (f : α → ByteArray) (xs ys : List α) : catL f (xs ++ ys) = catL f xs ++ catL f ys := by
  induction xs with
  | nil => simp [catL]
  | cons x r ih => simp only [List.cons_append, catL, ih, ByteArray.append_assoc]
theorem catL_step {α : Type} (f : α → ByteArray) {xs : List α} {k : Nat} {x : α} (h : xs[k]? = some x) : catL f (xs.take (k + 1)) = catL f (xs.take k) ++ f x := by
  have hk := (List.getElem?_eq_some_iff.1 h).1
  have e : xs.take (k + 1) = xs.take k ++ [x] := by
    rw [List.take_add_one, h]
    rfl
  rw [e, catL_append]
  simp [catL]
theorem catL_size {α : Type} (f : α → ByteArray) (xs : List α) (M : Nat) (h : ∀ x ∈ xs, (f x).size ≤ M) : (catL f xs).size ≤ xs.length * M := by
  induction xs with
  | nil => simp [catL]
  | cons x r ih =>
    have h1 := h x (by simp)
    have h2 := ih (fun y hy => h y (by simp [hy]))
    simp only [catL, ByteArray.size_append, List.length_cons, Nat.succ_mul]
    omega

theorem putS_le (n k : Int) : (Vi.putS n k).size ≤ 8 := by
  unfold Vi.putS
  split
  · rename_i h
    rw [strOfNums_size, Vi.digs_length]
    rcases (Vi.szB_iff k).1 h with h | h | h | h <;> subst h <;> decide
  · simp
theorem vstr_le (n : Int) : (Vi.vstr n).size ≤ 9 := by
  rw [Vi.vstr_size]
  unfold Vi.vlen
  repeat' split
  all_goals omega

def inS (x : InD) : ByteArray := x.id ++ Vi.putS x.ix 4 ++ Vi.vstr 0 ++ Vi.putS x.sq 4
def itemS (s : ByteArray) : ByteArray := Vi.vstr s.size ++ s
def outS (x : OutD) : ByteArray := Vi.putS x.val 8 ++ itemS x.scr
def witS (x : InD) : ByteArray := Vi.vstr x.wit.length ++ catL itemS x.wit
def markS (m : Bool) : ByteArray := if m = true then Vi.putS 0 1 ++ Vi.putS 1 1 else ByteArray.empty
def witsS (m : Bool) (xs : List InD) : ByteArray := if m = true then catL witS xs else ByteArray.empty
/-- P6.1: the bytes, with Witnesses or without. -/
def wireS (t : TxD) (m : Bool) : ByteArray := Vi.putS t.ver 4 ++ markS m ++ Vi.vstr t.ins.length ++ catL inS t.ins ++ Vi.vstr t.outs.length ++ catL outS t.outs ++ witsS m t.ins ++ Vi.putS t.lock 4

theorem inS_le {x : InD} (h : x.Ok) : (inS x).size ≤ 89 := by
  have h1 := h.1
  have a := putS_le x.ix 4
  have b := putS_le x.sq 4
  have c := vstr_le 0
  simp only [inS, ByteArray.size_append]
  omega
theorem itemS_le {s : ByteArray} (h : s.size ≤ 128) : (itemS s).size ≤ 137 := by
  have c := vstr_le s.size
  simp only [itemS, ByteArray.size_append]
  omega
theorem outS_le {x : OutD} (h : x.Ok) : (outS x).size ≤ 145 := by
  have h1 := h.2.2
  have a := putS_le x.val 8
  have c := itemS_le (s := x.scr) (by omega)
  simp only [outS, ByteArray.size_append]
  omega
theorem wit_le {x : InD} (h : x.Ok) (k : Nat) : (catL itemS (x.wit.take k)).size ≤ 1096 := by
  have h1 := catL_size itemS (x.wit.take k) 137 (fun s hs => itemS_le (h.2.2.2.2.2.2 s (List.mem_of_mem_take hs)))
  have h2 := h.2.2.2.2.2.1
  rw [List.length_take] at h1
  omega
theorem witS_le {x : InD} (h : x.Ok) : (witS x).size ≤ 1105 := by
  have h1 := wit_le h x.wit.length
  rw [List.take_length] at h1
  have c := vstr_le x.wit.length
  simp only [witS, ByteArray.size_append]
  omega
theorem ins_le {t : TxD} (h : t.Ok) (k : Nat) : (catL inS (t.ins.take k)).size ≤ 45568 := by
  have h1 := catL_size inS (t.ins.take k) 89 (fun x hx => inS_le (h.2.2.1 x (List.mem_of_mem_take hx)))
  have h2 := h.1
  rw [List.length_take] at h1
  omega
theorem outs_le {t : TxD} (h : t.Ok) (k : Nat) : (catL outS (t.outs.take k)).size ≤ 74240 := by
  have h1 := catL_size outS (t.outs.take k) 145 (fun x hx => outS_le (h.2.2.2.1 x (List.mem_of_mem_take hx)))
  have h2 := h.2.1
  rw [List.length_take] at h1
  omega
theorem wits_le {t : TxD} (h : t.Ok) (k : Nat) : (catL witS (t.ins.take k)).size ≤ 565760 := by
  have h1 := catL_size witS (t.ins.take k) 1105 (fun x hx => witS_le (h.2.2.1 x (List.mem_of_mem_take hx)))
  have h2 := h.1
  rw [List.length_take] at h1
  omega
theorem markS_le (m : Bool) : (markS m).size ≤ 16 := by
  have a := putS_le 0 1
  have b := putS_le 1 1
  unfold markS
  split
  · rw [ByteArray.size_append]; omega
  · simp

/-- Where 'write' stands: the transaction in its box, the builder behind it, the closure that counts behind that. -/
structure WrS (w : World) (t : TxD) (vi vo : Value) (s : ByteArray) (wr : World) : Prop where
  bld : Bld (w.heap.size + 1) (w.heap.size + 1) s wr
  box : Boxed wr w.heap.size (.int .u32 t.ver) vi vo (.int .u32 t.lock)
  tx : TxAt wr 0 w.heap.size vi vo t
  cnt : wr.heap[w.heap.size + 1 + 1]? = some (.cells #[.func (.func 67) #[] #[.pointer (some ⟨w.heap.size + 1, 0, none⟩)]] 98 (0, 0))
  bel : Below w.heap.size w wr
theorem WrS.lt {w : World} {t : TxD} {vi vo : Value} {s : ByteArray} {wr : World} (h : WrS w t vi vo s wr) : w.heap.size + 1 + 1 < wr.heap.size := by
  have hc := h.cnt
  rcases Nat.lt_or_ge (w.heap.size + 1 + 1) wr.heap.size with h' | h'
  · exact h'
  · rw [Array.getElem?_eq_none h'] at hc; cases hc
theorem WrS.cell {w : World} {t : TxD} {vi vo : Value} {s : ByteArray} {wr : World} (h : WrS w t vi vo s wr) : wr.cell? ⟨w.heap.size + 1 + 1, 0, none⟩ = some (.func (.func 67) #[] #[.pointer (some ⟨w.heap.size + 1, 0, none⟩)]) := by
  rw [Lib.cell_of_heap h.cnt]
  rfl
theorem WrS.below {w : World} {t : TxD} {vi vo : Value} {s : ByteArray} {wr wx : World} (h : WrS w t vi vo s wr) (hb : Below wr.heap.size wr wx) : WrS w t vi vo s wx := by
  have hl := h.lt
  exact ⟨h.bld.below hb, h.box.below (by omega) hb, h.tx.keep (Kept.of_below hb (by omega)), (hb.block _ hl).trans h.cnt, below_next h.bel h.bel.size hb⟩
theorem WrS.frm {w : World} {t : TxD} {vi vo : Value} {s r : ByteArray} {wr wx : World} (h : WrS w t vi vo s wr) (hB : Bld (w.heap.size + 1) (w.heap.size + 1) r wx) (hf : Frm (w.heap.size + 1) (w.heap.size + 1) wr wx) : WrS w t vi vo r wx := by
  have kc : ∀ o, wx.cell? ⟨w.heap.size, o, none⟩ = wr.cell? ⟨w.heap.size, o, none⟩ := fun o => hf.1.cell (p := ⟨w.heap.size, o, none⟩) (by show w.heap.size < _; omega)
  exact ⟨hB, ⟨(kc 0).trans h.box.1, (kc 1).trans h.box.2.1, (kc 2).trans h.box.2.2.1, (kc 3).trans h.box.2.2.2⟩, h.tx.keep (Kept.of_below hf.1 (by omega)), hf.2 _ _ h.cnt (by intro e; injection e with e; omega) (fun c fz e => by injection e with _ e _; cases e), ⟨hf.1.os.trans h.bel.os, hf.1.tape.trans h.bel.tape, hf.1.output.trans h.bel.output, Nat.le_trans h.bel.size hf.1.size, fun b hb => (hf.1.block b (by omega)).trans (h.bel.block b hb)⟩⟩
theorem WrS.wrote {w : World} {t : TxD} {vi vo : Value} {s r : ByteArray} {wr wx : World} (h : WrS w t vi vo s wr) {e : Ending} (hw : Wrote (w.heap.size + 1) (w.heap.size + 1) s r wr e wx) : WrS w t vi vo (s ++ r) wx := h.frm hw.2.1 hw.2.2

end Go.Proofs.YtfobdefncbaooaaDoor
