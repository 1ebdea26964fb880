/-
  May a transaction be: the program's Check.
-/
import Derived.Test.YtmabfccieoaalaaTwice
import Derived.Test.YtmabfccieoaalaaTotal
import Derived.Laws.EntriesVeiled
namespace Go.Proofs.Ytmabfccieoaalaa
open Go.RowKit

/-- Has it as many parts as it may have? -/
def countsB (t : TxD) : Bool := inR t.ins.length 1 256 && inR t.outs.length 1 256 && !(t.ins.any fun x => manyB x.wit.length)
/-- Is a text too long? -/
def longB (t : TxD) : Bool := (t.outs.any fun o => decide (40 < o.scr.size)) || (t.ins.any fun x => x.wit.any fun s => decide (80 < s.size))
/-- Is a point amiss? -/
def pointsB (xs : List InD) : Bool := !(xs.any fun x => amissB (xs.length == 1) x.id x.ix)
/-- P5.1. -/
def checkD (t : TxD) : Int := if countsB t = false then 6 else if longB t = true then 20 else if pointsB t.ins = false then 4 else if twiceB t.ins = true then 7 else (totalD t.outs).2

theorem countsB_ins {t : TxD} (h : inR t.ins.length 1 256 = false) : countsB t = false := by simp [countsB, h]
theorem countsB_outs {t : TxD} (h : inR t.outs.length 1 256 = false) : countsB t = false := by simp [countsB, h]
theorem countsB_items {t : TxD} (h : inR t.ins.length 1 256 = true) (h2 : inR t.outs.length 1 256 = true) : countsB t = !(t.ins.any fun x => manyB x.wit.length) := by simp [countsB, h, h2]

theorem longB_out {t : TxD} (h : (t.outs.any fun o => decide (40 < o.scr.size)) = true) : longB t = true := by simp [longB, h]
theorem longB_in {t : TxD} (h : (t.outs.any fun o => decide (40 < o.scr.size)) = false) : longB t = t.ins.any fun x => x.wit.any fun s => decide (80 < s.size) := by simp [longB, h]

theorem checkD_count {t : TxD} (h : countsB t = false) : checkD t = 6 := by simp [checkD, h]
theorem checkD_long {t : TxD} (h : countsB t = true) (h2 : longB t = true) : checkD t = 20 := by simp [checkD, h, h2]
theorem checkD_form {t : TxD} (h : countsB t = true) (h2 : longB t = false) (h3 : pointsB t.ins = false) : checkD t = 4 := by simp [checkD, h, h2, h3]
theorem checkD_twice {t : TxD} (h : countsB t = true) (h2 : longB t = false) (h3 : pointsB t.ins = true) (h4 : twiceB t.ins = true) : checkD t = 7 := by simp [checkD, h, h2, h3, h4]
theorem checkD_range {t : TxD} (h : countsB t = true) (h2 : longB t = false) (h3 : pointsB t.ins = true) (h4 : twiceB t.ins = false) : checkD t = (totalD t.outs).2 := by simp [checkD, h, h2, h3, h4]

/-- A transaction in a box. -/
def Boxed (w : World) (b : Nat) (v0 v1 v2 v3 : Value) : Prop := w.cell? ⟨b, 0, none⟩ = some v0 ∧ w.cell? ⟨b, 1, none⟩ = some v1 ∧ w.cell? ⟨b, 2, none⟩ = some v2 ∧ w.cell? ⟨b, 3, none⟩ = some v3
theorem Boxed.new (w : World) (v0 v1 v2 v3 : Value) (t : TypeId) : Boxed (w.alloc (.cells #[v0, v1, v2, v3] t)) w.heap.size v0 v1 v2 v3 := by
  refine ⟨?_, ?_, ?_, ?_⟩ <;> simp
theorem Boxed.below {w w' : World} {b : Nat} {v0 v1 v2 v3 : Value} (h : Boxed w b v0 v1 v2 v3) (hlt : b < w.heap.size) (hb : Below w.heap.size w w') : Boxed w' b v0 v1 v2 v3 :=
  ⟨(hb.cell (p := ⟨b, 0, none⟩) hlt).trans h.1, (hb.cell (p := ⟨b, 1, none⟩) hlt).trans h.2.1, (hb.cell (p := ⟨b, 2, none⟩) hlt).trans h.2.2.1, (hb.cell (p := ⟨b, 3, none⟩) hlt).trans h.2.2.2⟩

end Go.Proofs.Ytmabfccieoaalaa
