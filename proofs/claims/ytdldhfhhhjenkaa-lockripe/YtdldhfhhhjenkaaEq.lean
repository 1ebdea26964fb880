/-
  Are two transactions the same: slices.Equal, slices.EqualFunc, tx.Equal.
-/
import Derived.Test.YtdldhfhhhjenkaaLeaf
import Derived.Test.YtdldhfhhhjenkaaPure
import Derived.Deep.LoopGhost
import Derived.Shelf.Abstract
import Derived.Shelf.AbstractIn
namespace Go.Proofs.Ytdldhfhhhjenkaa
open Go.RowKit

def strB (a b : ByteArray) : Bool := a.toList == b.toList
def strsB (xs ys : List ByteArray) : Bool := allB strB xs ys
def outB (x y : OutD) : Bool := (x.val == y.val) && strB x.scr y.scr
def inB (x y : InD) : Bool := ptB x.id x.ix y.id y.ix && (x.sq == y.sq) && strsB x.wit y.wit
def txB (t u : TxD) : Bool := (t.ver == u.ver) && (t.lock == u.lock) && allB inB t.ins u.ins && allB outB t.outs u.outs

theorem run_neq_out (w : World) (a : Int) (s : ByteArray) (b : Int) (r : ByteArray) :
    (binOp .neq 87 (.agg #[.int .i64 a, .string s]) (.agg #[.int .i64 b, .string r])).run Try.prog w = .ok (.bool !(outB ⟨a, s⟩ ⟨b, r⟩)) w := by
  have u9 := Try.underlying9
  have u3 := Try.underlying3
  have a9 := Try.isAgg9
  have z9 := Try.sizeOf9
  have a3 := Try.isAgg3
  have z3 := Try.sizeOf3
  have hS : Try.prog.underlying 87 = some (.struct (Try.prog.fieldsOf 87)) := by kernel_rfl
  have hp : Try.prog.stoodInHeld 87 = false := by kernel_rfl
  rw [run_neq_struct, show (10000 : Nat) = 9999 + 1 from rfl, run_equalIn_agg w 9999 87 _ _ hS hp]
  simp only [Program.fieldsOf, Try.underlying87]
  go_simp
  unfold outB strB
  by_cases h1 : s.toList = r.toList <;> by_cases h2 : a = b <;> simp [h1, h2]
theorem out_guard (op : BinOp) (x y : Operand) (a : Array Value) (b : Array Value) (w : World) : (eqGuard op 87 x y (.agg a) (.agg b)).run Try.prog w = .ok () w := run_eqGuard_agg w op 87 x y a b (by kernel_rfl)

/-- A counter and a world, as a loop over two lists has them. -/
def EqHead {α : Type} (r : α → α → Bool) (xs ys : List α) (w : World) (gg : Nat) (s : Value) (wr : World) : Prop :=
  ∃ kk : Nat, kk ≤ xs.length ∧ xs.length - kk ≤ gg ∧ s = .int .i64 kk ∧ Below w.heap.size w wr ∧ SoFar r xs ys kk

set_option maxHeartbeats 1000000 in
theorem eq_strs (A A' : Option Addr) (n n' c c' : Nat) (xs ys : List ByteArray) (w : World) (lo hi lo' hi' : Nat)
    (hx : Strs w lo hi (.slice A n c) xs) (hy : Strs w lo' hi' (.slice A' n' c') ys) (hhi : hi ≤ w.heap.size) (hhi' : hi' ≤ w.heap.size) (hl : xs.length ≤ 512) :
    Calls Try.prog 17 #[.slice A n c, .slice A' n' c'] w fun e w' => e = .returned (.bool (strsB xs ys)) ∧ Below w.heap.size w w' := by
  obtain rfl : n = xs.length := by obtain ⟨_, _, hv, _⟩ := hx; injection hv
  obtain rfl : n' = ys.length := by obtain ⟨_, _, hv, _⟩ := hy; injection hv
  have HX := Lib.hid hx
  have HY := Lib.hid hy
  clear hx hy
  by_cases hlen : xs.length = ys.length
  · have e1 : ((xs.length : Int) != (ys.length : Int)) = false := by rw [bne_eq_false_iff_eq]; omega
    have HL := Lib.hid hlen
    clear hlen
    go_enter Try.func17, Try.ntmps17
    go_wp2
    go_loopg [5, 13] xs.length (fun gg _ s wr => EqHead strB xs ys w gg s wr)
    case atStart => exact ⟨0, Nat.zero_le _, by omega, rfl, Below.refl _ w, SoFar.zero _ _ _⟩
    case round =>
      obtain ⟨kk, hkk, hg, rfl, BW, A0⟩ := hrel
      have BW := Lib.hid BW
      have A0 := Lib.hid A0
      by_cases hlt : kk < xs.length
      · have hltz : (kk : Int) < (xs.length : Int) := by omega
        have hlty : (kk : Int) < (ys.length : Int) := by have := HL.out; omega
        obtain ⟨x, hxk⟩ : ∃ x, xs[kk]? = some x := ⟨_, List.getElem?_eq_getElem hlt⟩
        obtain ⟨y, hyk⟩ : ∃ y, ys[kk]? = some y := ⟨_, List.getElem?_eq_getElem (by omega)⟩
        obtain ⟨b, off, rfl, h1, h2, cx⟩ := (HX.out.keep (Kept.of_below BW.out hhi)).at hlt
        obtain ⟨b', off', rfl, h1', h2', cy⟩ := (HY.out.keep (Kept.of_below BW.out hhi')).at (k := kk) (by omega)
        rw [show xs.getD kk ByteArray.empty = x from by simp [List.getD_eq_getElem?_getD, hxk]] at cx
        rw [show ys.getD kk ByteArray.empty = y from by simp [List.getD_eq_getElem?_getD, hyk]] at cy
        have HXK := Lib.hid hxk
        have HYK := Lib.hid hyk
        clear hxk hyk
        cases hq : x.toList == y.toList
        · go_wp2_with fail
          go_quiet (fail)
          go_wp2
          go_ret
          exact ⟨ret_bool (allB_miss HXK.out HYK.out hq).symm, below_drewN BW.out _⟩
        · go_wp2_with fail
          go_quiet (fail)
          go_wp2
          go_roundg (xs.length - (kk + 1))
          case measure => omega
          case rel => exact ⟨kk + 1, by omega, by omega, by go_num, below_drewN BW.out _, A0.out.step HXK.out HYK.out hq⟩
      · have hltz : ¬ (kk : Int) < (xs.length : Int) := by omega
        go_wp2
        go_ret
        exact ⟨ret_bool (A0.out.full (by omega) HL.out).symm, BW.out⟩
  · have e1 : ((xs.length : Int) != (ys.length : Int)) = true := by rw [bne_iff_ne]; omega
    have HL := Lib.hid hlen
    clear hlen
    go_enter Try.func17, Try.ntmps17
    go_wp2
    go_ret
    exact ⟨ret_bool (allB_len HL.out).symm, Below.refl _ _⟩

end Go.Proofs.Ytdldhfhhhjenkaa
