/-
  Layer 3's calls: contracts over the translation.
-/
import Derived.Test.YtmdifblaloalpaaVmath
namespace Go.Proofs.Ytmdifblaloalpaa
open Go.RowKit

theorem vstr1 {n : Int} (h : n < 253) : putS n 1 = vstr n := by
  rw [vstr, vlist, if_pos h]; rfl
theorem vstr3 {n : Int} (h : ¬ n < 253) (h2 : n < 65536) : strOfNums [253] ++ putS n 2 = vstr n := by
  rw [vstr, vlist, if_neg h, if_pos h2, show (253 :: digs n 2) = [253] ++ digs n 2 from rfl, str_append]; rfl
theorem vstr5 {n : Int} (h : ¬ n < 253) (h2 : ¬ n < 65536) (h3 : n < 4294967296) : strOfNums [254] ++ putS n 4 = vstr n := by
  rw [vstr, vlist, if_neg h, if_neg h2, if_pos h3, show (254 :: digs n 4) = [254] ++ digs n 4 from rfl, str_append]; rfl
theorem vstr9 {n : Int} (h : ¬ n < 253) (h2 : ¬ n < 65536) (h3 : ¬ n < 4294967296) : strOfNums [255] ++ putS n 8 = vstr n := by
  rw [vstr, vlist, if_neg h, if_neg h2, if_neg h3, show (255 :: digs n 8) = [255] ++ digs n 8 from rfl, str_append]; rfl

/-- What both of Put answer. -/
def VputEnd (n : Int) (w : World) (e : Ending) (w' : World) : Prop := e = .returned (.string (vstr n)) ∧ Below w.heap.size w w'

theorem putS_sz1 (n : Int) : (putS n 1).size = 1 := putS_size (k := 1) (by decide)
theorem putS_sz2 (n : Int) : (putS n 2).size = 2 := putS_size (k := 2) (by decide)
theorem putS_sz4 (n : Int) : (putS n 4).size = 4 := putS_size (k := 4) (by decide)
theorem putS_sz8 (n : Int) : (putS n 8).size = 8 := putS_size (k := 8) (by decide)

set_option maxHeartbeats 1000000 in
theorem vput_any (n : Int) (w : World) (h0 : 0 ≤ n) (h1 : n < 18446744073709551616) : Calls Try.prog 7 #[.int .u64 n] w (VputEnd n w) := by
  by_cases c1 : n < 253
  · have H := Lib.hid (vstr1 c1)
    go_enter Try.func7, Try.ntmps7
    go_wp2_with fail
    refine (put_any n 1 w h0 h1).mono ?_
    rintro e w1 ⟨rfl, hB⟩
    go_wp2_with fail
    go_ret
    exact ⟨ret_str H.out, hB⟩
  by_cases c2 : n < 65536
  · have H := Lib.hid (vstr3 c1 c2)
    have z1 := putS_sz1 253
    have z2 := putS_sz2 n
    go_enter Try.func7, Try.ntmps7
    go_wp2_with fail
    refine (put_any 253 1 w (by decide) (by decide)).mono ?_
    rintro e w1 ⟨rfl, hB⟩
    go_wp2_with fail
    refine (put_any n 2 w1 h0 h1).mono ?_
    rintro e w2 ⟨rfl, hB2⟩
    go_wp2_with fail
    go_ret
    exact ⟨ret_str H.out, hB.trans (hB2.mono hB.size)⟩
  by_cases c3 : n < 4294967296
  · have H := Lib.hid (vstr5 c1 c2 c3)
    have z1 := putS_sz1 254
    have z2 := putS_sz4 n
    go_enter Try.func7, Try.ntmps7
    go_wp2_with fail
    refine (put_any 254 1 w (by decide) (by decide)).mono ?_
    rintro e w1 ⟨rfl, hB⟩
    go_wp2_with fail
    refine (put_any n 4 w1 h0 h1).mono ?_
    rintro e w2 ⟨rfl, hB2⟩
    go_wp2_with fail
    go_ret
    exact ⟨ret_str H.out, hB.trans (hB2.mono hB.size)⟩
  · have H := Lib.hid (vstr9 c1 c2 c3)
    have z1 := putS_sz1 255
    have z2 := putS_sz8 n
    go_enter Try.func7, Try.ntmps7
    go_wp2_with fail
    refine (put_any 255 1 w (by decide) (by decide)).mono ?_
    rintro e w1 ⟨rfl, hB⟩
    go_wp2_with fail
    refine (put_any n 8 w1 h0 h1).mono ?_
    rintro e w2 ⟨rfl, hB2⟩
    go_wp2_with fail
    go_ret
    exact ⟨ret_str H.out, hB.trans (hB2.mono hB.size)⟩

set_option maxHeartbeats 1000000 in
theorem rvput_any (n : Int) (w : World) (h0 : 0 ≤ n) (h1 : n < 18446744073709551616) : Calls Try.prog 10 #[.int .u64 n] w (VputEnd n w) := by
  by_cases c1 : n < 253
  · have H := Lib.hid (vstr1 c1)
    go_enter Try.func10, Try.ntmps10
    go_wp2_with fail
    refine (rput_any n 1 w h0 h1).mono ?_
    rintro e w1 ⟨rfl, hB⟩
    go_wp2_with fail
    go_ret
    exact ⟨ret_str H.out, hB⟩
  by_cases c2 : n < 65536
  · have H := Lib.hid (vstr3 c1 c2)
    have z2 := putS_sz2 n
    go_enter Try.func10, Try.ntmps10
    go_wp2_with fail
    refine (rput_any n 2 w h0 h1).mono ?_
    rintro e w1 ⟨rfl, hB⟩
    go_wp2_with fail
    go_ret
    exact ⟨ret_str H.out, hB⟩
  by_cases c3 : n < 4294967296
  · have H := Lib.hid (vstr5 c1 c2 c3)
    have z2 := putS_sz4 n
    go_enter Try.func10, Try.ntmps10
    go_wp2_with fail
    refine (rput_any n 4 w h0 h1).mono ?_
    rintro e w1 ⟨rfl, hB⟩
    go_wp2_with fail
    go_ret
    exact ⟨ret_str H.out, hB⟩
  · have H := Lib.hid (vstr9 c1 c2 c3)
    have z2 := putS_sz8 n
    go_enter Try.func10, Try.ntmps10
    go_wp2_with fail
    refine (rput_any n 8 w h0 h1).mono ?_
    rintro e w1 ⟨rfl, hB⟩
    go_wp2_with fail
    go_ret
    exact ⟨ret_str H.out, hB⟩

set_option maxHeartbeats 400000 in
theorem behind_any (b : Int) (w : World) (h : ¬ b < 253) : Calls Try.prog 14 #[.int .u64 b] w fun e w' => e = .returned (.int .i64 (wid b)) ∧ w = w' := by
  by_cases c1 : b = 253
  · subst c1
    go_enter Try.func14, Try.ntmps14
    go_wp2
    go_ret
    exact ⟨rfl, rfl⟩
  by_cases c2 : b = 254
  · subst c2
    go_enter Try.func14, Try.ntmps14
    go_wp2
    go_ret
    exact ⟨rfl, rfl⟩
  have H := Lib.hid (show 8 = wid b by unfold wid; rw [if_neg h, if_neg c1, if_neg c2])
  go_enter Try.func14, Try.ntmps14
  go_wp2
  go_ret
  exact ⟨ret_int H.out, rfl⟩
end Go.Proofs.Ytmdifblaloalpaa
