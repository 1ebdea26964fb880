/-
  The statement VintPuts, walked.
-/
import Derived.Test.YtmdifblaloalpaaMid
namespace Go.Proofs.Ytmdifblaloalpaa
open Go.RowKit

set_option maxHeartbeats 1000000 in
theorem puts_any (n : Int) (a b : ByteArray) (w : World) (h0 : 0 ≤ n) (h1 : n < 18446744073709551616) (ha : a.size ≤ 140737488351232) (hb : b.size ≤ 140737488351232) :
    Calls Try.prog 3 #[.int .u64 n, .string a, .string b] w fun e w' => e = .returned (.bool true) ∧ Below w.heap.size w w' := by
  have hv := vstr_size n
  obtain ⟨m, em⟩ : ∃ m, vlen n = m := ⟨_, rfl⟩
  have hl := vlen_pos n
  have hg := vget_mid a b n
  rw [em] at hv hl hg
  clear em
  go_enter Try.func3, Try.ntmps3
  go_wp2_with fail
  refine (vput_any n w h0 h1).mono ?_
  rintro e w1 ⟨rfl, hB1⟩
  go_wp2_with fail
  refine (hg w1 h0 h1 ha hb).mono ?_
  rintro e w2 ⟨rfl, hB2⟩
  have HB := Lib.hid (hB1.trans (hB2.mono hB1.size))
  clear hB1 hB2
  go_wp2_with fail
  refine (wakes_any w2).mono ?_
  rintro e w3 ⟨rfl, hB3⟩
  go_wp2_with fail
  refine (rvput_any n w3 h0 h1).mono ?_
  rintro e w4 ⟨rfl, hB4⟩
  go_wp2_with fail
  go_ret
  exact ⟨rfl, (HB.out.trans (hB3.mono HB.out.size)).trans (hB4.mono (Nat.le_trans HB.out.size hB3.size))⟩
end Go.Proofs.Ytmdifblaloalpaa
