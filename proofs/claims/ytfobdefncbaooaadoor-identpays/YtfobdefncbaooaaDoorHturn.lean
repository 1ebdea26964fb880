/-
  Digests: the program's small calls: a word turned, a word of a text.
-/
import Derived.Test.YtfobdefncbaooaaDoorHsmath
import Derived.Test.YtfobdefncbaooaaDoorHpmath
import Derived.Lib.EndianBits
namespace Go.Proofs.YtfobdefncbaooaaDoor.Sh
open Go.RowKit

theorem or_comm32 (x y : Int) : bits BinOp.or IntKind.u32 x y = bits BinOp.or IntKind.u32 y x := by
  simp [bits, BitVec.or_comm]

theorem turn_by (n : Nat) (h0 : 0 < n) (hn : n < 32) : bits BinOp.and IntKind.u64 (IntKind.u64.wrap (-(n : Int))) 31 = ((32 - n : Nat) : Int) := by
  have h : IntKind.u64.wrap (-(n : Int)) = 18446744073709551616 - (n : Int) := by rw [IntKind.wrap_u64]; omega
  rw [h]
  refine (bits_mask .u64 64 (by decide) wraps_u64 5 (by decide) _ (by omega) (by omega)).trans ?_
  omega

theorem rot_any (x : Int) (n : Nat) (w : World) (h0 : 0 < n) (hn : n < 32) :
    Calls Tryd.prog 107 #[.int .u32 x, .int .i64 (-(n : Int))] w fun e w' => e = .returned (.int .u32 (rotr x n)) ∧ w = w' := by
  have hb := turn_by n h0 hn
  obtain ⟨m, hm⟩ : ∃ m : Nat, 32 - n = m := ⟨_, rfl⟩
  have hm2 : (32 : Int) - (m : Int) = (n : Int) := by omega
  have hr : rotr x n = bits BinOp.or IntKind.u32 (x * 2 ^ m % 4294967296) (x / 2 ^ n) := by rw [← hm]; exact or_comm32 _ _
  have HR := Lib.hid hr
  rw [hm] at hb
  have hw : IntKind.u64.wrap (32 - (m : Int)) = (n : Int) := by rw [hm2]; exact IntWalk.u64_in _ (by omega)
  have hm3 : m ≤ 32 := by omega
  clear hr
  go_enter Tryd.func107, Tryd.ntmps107
  go_wp2_with fail
  go_ret
  exact ⟨by rw [HR.out]; rfl, rfl⟩

theorem turn_any (x : Int) (n : Nat) (w : World) (h0 : 0 < n) (hn : n < 32) :
    Calls Tryd.prog 104 #[.int .u32 x, .int .i64 (n : Int)] w fun e w' => e = .returned (.int .u32 (rotr x n)) ∧ w = w' := by
  go_enter Tryd.func104, Tryd.ntmps104
  go_wp2_with fail
  refine (rot_any x n w h0 hn).mono ?_
  rintro e w1 ⟨rfl, rfl⟩
  go_wp2_with fail
  go_ret
  exact ⟨rfl, rfl⟩
end Go.Proofs.YtfobdefncbaooaaDoor.Sh
