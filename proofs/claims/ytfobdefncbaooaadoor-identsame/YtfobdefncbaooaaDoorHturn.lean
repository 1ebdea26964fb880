/-
  Digests: the program's small calls: a word turned, a word of a text.
  Digests: the program's word of a text.
-/
import Derived.Test.YtfobdefncbaooaaDoorHarr
import Derived.Test.YtfobdefncbaooaaDoorHpmath
import Derived.Lib.EndianBits

namespace Go.Proofs.YtfobdefncbaooaaDoor.Sh
open Go.RowKit

theorem or_comm32 (x y : Int) : bits BinOp.or IntKind.u32 x y = bits BinOp.or IntKind.u32 y x := by
  simp [bits, BitVec.or_comm]

theorem turn_by (n : Nat) (h0 : 0 < n) (hn : n < 32) : bits BinOp.and IntKind.u64 (IntKind.u64.wrap (-(n : Int))) 31 = ((32 - n : Nat) : Int) := by
  have h : IntKind.u64.wrap (-(n : Int)) = 18446744073709551616 - (n : Int) := by rw [IntKind.wrap_u64]; omega
  rw [h]
  refine (bits_mask .u64 64 (by decide) wraps_u64 5 (by decide) _ (by omega) (by omega)).trans ?_
  omega

theorem rot_any (x : Int) (n : Nat) (w : World) (h0 : 0 < n) (hn : n < 32) :
    Calls Tryd.prog 107 #[.int .u32 x, .int .i64 (-(n : Int))] w fun e w' => e = .returned (.int .u32 (rotr x n)) ∧ w = w' := by
  have hb := turn_by n h0 hn
  obtain ⟨m, hm⟩ : ∃ m : Nat, 32 - n = m := ⟨_, rfl⟩
  have hm2 : (32 : Int) - (m : Int) = (n : Int) := by omega
  have hr : rotr x n = bits BinOp.or IntKind.u32 (x * 2 ^ m % 4294967296) (x / 2 ^ n) := by rw [← hm]; exact or_comm32 _ _
  have HR := Lib.hid hr
  rw [hm] at hb
  have hw : IntKind.u64.wrap (32 - (m : Int)) = (n : Int) := by rw [hm2]; exact IntWalk.u64_in _ (by omega)
  have hm3 : m ≤ 32 := by omega
  clear hr
  go_enter Tryd.func107, Tryd.ntmps107
  go_wp2_with fail
  go_ret
  exact ⟨by rw [HR.out]; rfl, rfl⟩

theorem turn_any (x : Int) (n : Nat) (w : World) (h0 : 0 < n) (hn : n < 32) :
    Calls Tryd.prog 104 #[.int .u32 x, .int .i64 (n : Int)] w fun e w' => e = .returned (.int .u32 (rotr x n)) ∧ w = w' := by
  go_enter Tryd.func104, Tryd.ntmps104
  go_wp2_with fail
  refine (rot_any x n w h0 hn).mono ?_
  rintro e w1 ⟨rfl, rfl⟩
  go_wp2_with fail
  go_ret
  exact ⟨rfl, rfl⟩
end Go.Proofs.YtfobdefncbaooaaDoor.Sh

namespace Go.Proofs.YtfobdefncbaooaaDoor.Sh
open Go.RowKit

theorem num_at (l : List Int) (j : Nat) (h : ∀ x ∈ l, 0 ≤ x ∧ x < 256) : 0 ≤ l.getD j 0 ∧ l.getD j 0 < 256 := by
  by_cases hj : j < l.length
  · exact h _ (by simp [List.getD_eq_getElem?_getD, hj])
  · simp [List.getD_eq_getElem?_getD, hj]

theorem word_or (p q r s : Int) (hp : 0 ≤ p ∧ p < 256) (hq : 0 ≤ q ∧ q < 256) (hr : 0 ≤ r ∧ r < 256) (hs : 0 ≤ s ∧ s < 256) :
    bits BinOp.or IntKind.u32 (bits BinOp.or IntKind.u32 (bits BinOp.or IntKind.u32 (p * 16777216) (q * 65536)) (r * 256)) s = p * 16777216 + q * 65536 + r * 256 + s := by
  rw [bits_join .u32 32 (by decide) wraps_u32 24 (p * 16777216) (q * 65536) (by omega) (by omega) (by omega) (by omega) (by omega) (by omega)]
  rw [bits_join .u32 32 (by decide) wraps_u32 16 (p * 16777216 + q * 65536) (r * 256) (by omega) (by omega) (by omega) (by omega) (by omega) (by omega)]
  rw [bits_join .u32 32 (by decide) wraps_u32 8 (p * 16777216 + q * 65536 + r * 256) s (by omega) (by omega) (by omega) (by omega) (by omega) (by omega)]

theorem at_any (s : ByteArray) (k q : Nat) (w : World) (hq : 4 * k = q) (h : q + 3 < s.size) (hs : s.size ≤ 140737488351232) :
    Calls Tryd.prog 106 #[.string s, .int .i64 (q : Int)] w fun e w' => e = .returned (.int .u32 (word (nums s) k)) ∧ ∃ n, w' = w.drewN n := by
  have e0 := index_num s q (by omega)
  have e1 := index_num s (q + 1) (by omega)
  have e2 := index_num s (q + 2) (by omega)
  have e3 := index_num s (q + 3) (by omega)
  have wq : (nums s).getD q 0 * 16777216 + (nums s).getD (q + 1) 0 * 65536 + (nums s).getD (q + 2) 0 * 256 + (nums s).getD (q + 3) 0 = word (nums s) k := by rw [← hq]; rfl
  have b0 := num_at (nums s) q (nums_bd s)
  have b1 := num_at (nums s) (q + 1) (nums_bd s)
  have b2 := num_at (nums s) (q + 2) (nums_bd s)
  have b3 := num_at (nums s) (q + 3) (nums_bd s)
  have wo := word_or _ _ _ _ b0 b1 b2 b3
  rw [wq] at wo
  have WO := Lib.hid wo
  generalize (nums s).getD q 0 = p0 at e0 WO b0
  generalize (nums s).getD (q + 1) 0 = p1 at e1 WO b1
  generalize (nums s).getD (q + 2) 0 = p2 at e2 WO b2
  generalize (nums s).getD (q + 3) 0 = p3 at e3 WO b3
  obtain ⟨q1, hq1⟩ : ∃ j : Nat, q + 1 = j := ⟨_, rfl⟩
  obtain ⟨q2, hq2⟩ : ∃ j : Nat, q + 2 = j := ⟨_, rfl⟩
  obtain ⟨q3, hq3⟩ : ∃ j : Nat, q + 3 = j := ⟨_, rfl⟩
  rw [hq1] at e1
  rw [hq2] at e2
  rw [hq3] at e3
  have x1 : IntKind.i64.wrap ((q : Int) + 1) = (q1 : Int) := by rw [IntWalk.i64_in _ (by omega)]; omega
  have x2 : IntKind.i64.wrap ((q : Int) + 2) = (q2 : Int) := by rw [IntWalk.i64_in _ (by omega)]; omega
  have x3 : IntKind.i64.wrap ((q : Int) + 3) = (q3 : Int) := by rw [IntWalk.i64_in _ (by omega)]; omega
  have z1 : (q : Int) + 1 = (q1 : Int) := by omega
  have z2 : (q : Int) + 2 = (q2 : Int) := by omega
  have z3 : (q : Int) + 3 = (q3 : Int) := by omega
  have t0 : IntKind.u32.wrap p0 = p0 := IntWalk.u32_in _ (by omega)
  have t1 : IntKind.u32.wrap p1 = p1 := IntWalk.u32_in _ (by omega)
  have t2 : IntKind.u32.wrap p2 = p2 := IntWalk.u32_in _ (by omega)
  have t3 : IntKind.u32.wrap p3 = p3 := IntWalk.u32_in _ (by omega)
  clear wo wq hq1 hq2 hq3
  go_enter Tryd.func106, Tryd.ntmps106
  go_wp2_with fail
  go_quiet (fail)
  go_wp2_with fail
  go_ret
  exact ⟨by rw [← WO.out]; rfl, _, rfl⟩
end Go.Proofs.YtfobdefncbaooaaDoor.Sh
