/-
  Are two transactions the same: the closure over inputs, slices.EqualFunc, tx.Equal.
-/
import Derived.Test.YtjclklppnkoehaaGreatDoorEq
namespace Go.Proofs.YtjclklppnkoehaaGreatDoor
open Go.RowKit
set_option maxRecDepth 100000

theorem inB_pt {x y : InD} (h : ptB x.id x.ix y.id y.ix = false) : inB x y = false := by simp [inB, h]
theorem inB_sq {x y : InD} (h : ptB x.id x.ix y.id y.ix = true) (h2 : (x.sq == y.sq) = false) : inB x y = false := by simp [inB, h, h2]
theorem inB_wit {x y : InD} (h : ptB x.id x.ix y.id y.ix = true) (h2 : (x.sq == y.sq) = true) : inB x y = strsB x.wit y.wit := by simp [inB, h, h2]

theorem Ins.form {w : World} {lo hi : Nat} {v : Value} {xs : List InD} (h : Ins w lo hi v xs) : ∃ A c, v = .slice A xs.length c := by obtain ⟨A, c, h, _⟩ := h; exact ⟨A, c, h⟩
theorem Outs.form {w : World} {lo hi : Nat} {v : Value} {xs : List OutD} (h : Outs w lo hi v xs) : ∃ A c, v = .slice A xs.length c := by obtain ⟨A, c, h, _⟩ := h; exact ⟨A, c, h⟩
theorem Strs.form {w : World} {lo hi : Nat} {v : Value} {xs : List ByteArray} (h : Strs w lo hi v xs) : ∃ A c, v = .slice A xs.length c := by obtain ⟨A, c, h, _⟩ := h; exact ⟨A, c, h⟩

theorem txB_ver {t u : TxD} (h : (t.ver == u.ver) = false) : txB t u = false := by simp [txB, h]
theorem txB_lock {t u : TxD} (h : (t.lock == u.lock) = false) : txB t u = false := by simp [txB, h]
theorem txB_ins {t u : TxD} (h : allB inB t.ins u.ins = false) : txB t u = false := by simp [txB, h]
theorem txB_outs {t u : TxD} (h1 : (t.ver == u.ver) = true) (h2 : (t.lock == u.lock) = true) (h3 : allB inB t.ins u.ins = true) : txB t u = allB outB t.outs u.outs := by simp [txB, h1, h2, h3]

end Go.Proofs.YtjclklppnkoehaaGreatDoor
