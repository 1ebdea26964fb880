/-
  What the document fixes of layer 9: the examples.
-/
import Derived.Test.YtmabfccieoaalaaDst
namespace Go.Proofs.Ytmabfccieoaalaa
open Go.RowKit

def wkS : ByteArray := ⟨#[49, 50, 51, 52, 53, 54, 55, 56, 57]⟩
theorem wk_ls : lsN wkS = 255 := by decide +kernel
theorem wk_sz : szE wkS = 0 := by decide +kernel
theorem wk_du : duB 254 wkS = true := by decide +kernel
theorem wk_no : duB 255 wkS = false := by decide +kernel

set_option maxHeartbeats 1000000 in
theorem wakes_any (w : World) : Calls Try.prog 14 #[] w fun e w' => e = .returned (.bool true) ∧ Below w.heap.size w w' := by
  have C1 := Lib.hid (fun W => show Calls Try.prog 9 #[.agg #[.int .i64 0, .string ⟨#[49, 50, 51, 52, 53, 54, 55, 56, 57]⟩]] W fun e w' => e = .returned (.tuple #[.int .i64 255, .int .i64 0]) ∧ Below W.heap.size W w' from by
    have h := least_any 0 wkS W (by decide +kernel)
    rw [wk_ls, wk_sz] at h
    exact h)
  have C2 := Lib.hid (fun W => show Calls Try.prog 11 #[.agg #[.int .i64 254, .string ⟨#[49, 50, 51, 52, 53, 54, 55, 56, 57]⟩]] W fun e w' => e = .returned (.bool true) ∧ Below W.heap.size W w' from by
    have h := dust_any 254 wkS W (by decide +kernel)
    rw [wk_du] at h
    exact h)
  have C3 := Lib.hid (fun W => show Calls Try.prog 11 #[.agg #[.int .i64 255, .string ⟨#[49, 50, 51, 52, 53, 54, 55, 56, 57]⟩]] W fun e w' => e = .returned (.bool false) ∧ Below W.heap.size W w' from by
    have h := dust_any 255 wkS W (by decide +kernel)
    rw [wk_no] at h
    exact h)
  go_enter Try.func14, Try.ntmps14
  go_wp2_with fail
  refine (C1.out _).mono ?_
  rintro e w1 ⟨rfl, hb1⟩
  have B1 := Lib.hid hb1
  clear hb1
  go_wp2_with fail
  refine (C2.out _).mono ?_
  rintro e w2 ⟨rfl, hb2⟩
  have B2 := Lib.hid (below_next B1.out B1.out.size hb2)
  clear hb2
  go_wp2_with fail
  refine (C3.out _).mono ?_
  rintro e w3 ⟨rfl, hb3⟩
  have B3 := Lib.hid (below_next B2.out B2.out.size hb3)
  clear hb3
  go_wp2_with fail
  go_ret
  exact ⟨rfl, B3.out⟩

end Go.Proofs.Ytmabfccieoaalaa
