/-
  slices.Equal at branches.
-/
import Derived.Test.YtdldhfhhhjenkaaEq
import Derived.Test.YtdldhfhhhjenkaaBrd
namespace Go.Proofs.Ytdldhfhhhjenkaa
open Go.RowKit

def brB (x y : BrD) : Bool := (x.tag == y.tag) && (x.del == y.del) && (x.hgt == y.hgt)
theorem brB_iff (x y : BrD) : brB x y = true ↔ x = y := by
  obtain ⟨a, b, c⟩ := x
  obtain ⟨d, e, f⟩ := y
  simp [brB, and_assoc]
theorem run_neq_br (w : World) (a b c d e f : Int) :
    (binOp .neq 34 (.agg #[.int .u16 a, .int .u16 b, .int .u32 c]) (.agg #[.int .u16 d, .int .u16 e, .int .u32 f])).run Try.prog w = .ok (.bool !(brB ⟨a, b, c⟩ ⟨d, e, f⟩)) w := by
  have u9 := Try.underlying31
  have u3 := Try.underlying32
  have a9 := Try.isAgg31
  have z9 := Try.sizeOf31
  have a3 := Try.isAgg32
  have z3 := Try.sizeOf32
  have hS : Try.prog.underlying 34 = some (.struct (Try.prog.fieldsOf 34)) := by kernel_rfl
  have hp : Try.prog.stoodInHeld 34 = false := by kernel_rfl
  rw [run_neq_struct, show (10000 : Nat) = 9999 + 1 from rfl, run_equalIn_agg w 9999 34 _ _ hS hp]
  simp only [Program.fieldsOf, Try.underlying34]
  go_simp
  unfold brB
  by_cases h1 : a = d <;> by_cases h2 : b = e <;> by_cases h3 : c = f <;> simp [h1, h2, h3]
theorem br_guard (op : BinOp) (x y : Operand) (a : Array Value) (b : Array Value) (w : World) : (eqGuard op 34 x y (.agg a) (.agg b)).run Try.prog w = .ok () w := run_eqGuard_agg w op 34 x y a b (by kernel_rfl)
def brsB (xs ys : List BrD) : Bool := allB brB xs ys
theorem brsB_iff (xs ys : List BrD) : brsB xs ys = true ↔ xs = ys := by
  unfold brsB
  rw [allB_iff]
  constructor
  · rintro ⟨hl, h⟩
    refine List.ext_getElem hl fun k h1 h2 => ?_
    exact (brB_iff _ _).1 (h k _ _ (List.getElem?_eq_getElem h1) (List.getElem?_eq_getElem h2))
  · rintro rfl
    exact ⟨rfl, fun k x y hx hy => (brB_iff _ _).2 (by rw [hx] at hy; injection hy)⟩

set_option maxHeartbeats 1000000 in
theorem eq_brs (A A' : Option Addr) (n n' c c' : Nat) (xs ys : List BrD) (w : World) (lo hi lo' hi' : Nat)
    (hx : Brs w lo hi (.slice A n c) xs) (hy : Brs w lo' hi' (.slice A' n' c') ys) (hhi : hi ≤ w.heap.size) (hhi' : hi' ≤ w.heap.size) (hl : xs.length ≤ 512) :
    Calls Try.prog 12 #[.slice A n c, .slice A' n' c'] w fun e w' => e = .returned (.bool (allB brB xs ys)) ∧ Below w.heap.size w w' := by
  obtain rfl : n = xs.length := by obtain ⟨_, _, hv, _⟩ := hx; injection hv
  obtain rfl : n' = ys.length := by obtain ⟨_, _, hv, _⟩ := hy; injection hv
  have hne := run_neq_br
  have hgd := br_guard
  have HX := Lib.hid hx
  have HY := Lib.hid hy
  clear hx hy
  by_cases hlen : xs.length = ys.length
  · have e1 : ((xs.length : Int) != (ys.length : Int)) = false := by rw [bne_eq_false_iff_eq]; omega
    have HL := Lib.hid hlen
    clear hlen
    go_enter Try.func12, Try.ntmps12
    go_wp2
    go_loopg [5, 13] xs.length (fun gg _ s wr => EqHead brB xs ys w gg s wr)
    case atStart => exact ⟨0, Nat.zero_le _, by omega, rfl, Below.refl _ w, SoFar.zero _ _ _⟩
    case round =>
      obtain ⟨kk, hkk, hg, rfl, BW, A0⟩ := hrel
      have BW := Lib.hid BW
      have A0 := Lib.hid A0
      by_cases hlt : kk < xs.length
      · have hltz : (kk : Int) < (xs.length : Int) := by omega
        have hlty : (kk : Int) < (ys.length : Int) := by have := HL.out; omega
        obtain ⟨x, hxk⟩ : ∃ x, xs[kk]? = some x := ⟨_, List.getElem?_eq_getElem hlt⟩
        obtain ⟨y, hyk⟩ : ∃ y, ys[kk]? = some y := ⟨_, List.getElem?_eq_getElem (by omega)⟩
        obtain ⟨b, off, rfl, h1, h2, cx, cx', cx2⟩ := (HX.out.keep (Kept.of_below BW.out hhi)).at hxk
        obtain ⟨b', off', rfl, h1', h2', cy, cy', cy2⟩ := (HY.out.keep (Kept.of_below BW.out hhi')).at hyk
        have HXK := Lib.hid hxk
        have HYK := Lib.hid hyk
        clear hxk hyk
        obtain ⟨xv, xd, xh⟩ := x
        obtain ⟨yv, yd, yh⟩ := y
        cases hq : brB ⟨xv, xd, xh⟩ ⟨yv, yd, yh⟩
        · go_wp2_with fail
          go_quiet (fail)
          go_wp2
          go_ret
          exact ⟨ret_bool (allB_miss HXK.out HYK.out hq).symm, below_drewN BW.out _⟩
        · go_wp2_with fail
          go_quiet (fail)
          go_wp2
          go_roundg (xs.length - (kk + 1))
          case measure => omega
          case rel => exact ⟨kk + 1, by omega, by omega, by go_num, below_drewN BW.out _, A0.out.step HXK.out HYK.out hq⟩
      · have hltz : ¬ (kk : Int) < (xs.length : Int) := by omega
        go_wp2
        go_ret
        exact ⟨ret_bool (A0.out.full (by omega) HL.out).symm, BW.out⟩
  · have e1 : ((xs.length : Int) != (ys.length : Int)) = true := by rw [bne_iff_ne]; omega
    have HL := Lib.hid hlen
    clear hlen
    go_enter Try.func12, Try.ntmps12
    go_wp2
    go_ret
    exact ⟨ret_bool (allB_len HL.out).symm, Below.refl _ _⟩

end Go.Proofs.Ytdldhfhhhjenkaa
