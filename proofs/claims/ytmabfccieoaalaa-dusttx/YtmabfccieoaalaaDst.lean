/-
  Layer 9's calls of one output: contracts over the translation.
-/
import Derived.Test.YtmabfccieoaalaaViput
import Derived.Test.YtmabfccieoaalaaAref
import Derived.Test.YtmabfccieoaalaaData
import Derived.Deep.RegionHeld3
import Derived.BigQuiet
import Derived.Deep.DeepCutAuto
import Derived.Laws.BytesArg
namespace Go.Proofs.Ytmabfccieoaalaa
open Go.RowKit

/-- The bytes of an output, by its script. -/
def szN (s : ByteArray) : Int := if 40 < s.size then 0 else (s.size : Int) + 9
/-- The error of an output. -/
def szE (s : ByteArray) : Int := if 40 < s.size then 20 else 0
/-- The least value of an output. -/
def lsN (s : ByteArray) : Int := if 40 < s.size then 0 else 3 * ((s.size : Int) + 76)
/-- Is it dust? -/
def duB (v : Int) (s : ByteArray) : Bool := decide (s.size ≤ 40) && decide (v < lsN s)

theorem fee_dust {n : Int} (h0 : 0 ≤ n) (h1 : n ≤ 40) : Am.feeV 3000 (n + 9 + 67) = 3 * (n + 76) ∧ Am.feeE 3000 (n + 9 + 67) = 0 := by
  refine ⟨?_, Am.feeE_yes (Am.inB_true (by decide) (by decide)) (Am.inB_true (by omega) (by omega))⟩
  rw [Am.feeV_yes (Am.inB_true (by decide) (by decide)) (Am.inB_true (by omega) (by omega))]
  omega
theorem vstr_one {n : Int} (h : n ≤ 40) : (Vi.vstr n).size = 1 := by
  rw [Vi.vstr_size]
  unfold Vi.vlen
  rw [if_pos (by omega)]

/-- What Size answers. -/
theorem size_any (v : Int) (s : ByteArray) (w : World) (hs : s.size ≤ maxLen) :
    Calls Try.prog 7 #[.agg #[.int .i64 v, .string s]] w fun e w' => e = .returned (.tuple #[.int .i64 (szN s), .int .i64 (szE s)]) ∧ Below w.heap.size w w' := by
  have B0 := Lib.hid (fun o => (Below.refl w.heap.size w).alloc (Nat.le_refl _) o)
  unfold maxLen at hs
  by_cases h : 40 < s.size
  · have e1 := Lib.hid (show szN s = 0 by unfold szN; rw [if_pos h])
    have e2 := Lib.hid (show szE s = 20 by unfold szE; rw [if_pos h])
    have h' : (40 : Int) < (s.size : Int) := by omega
    clear h
    go_enter Try.func7, Try.ntmps7
    go_wp2_with fail
    go_ret2
    rw [e1.out, e2.out]
    exact ⟨rfl, B0.out _⟩
  · have e1 := Lib.hid (show szN s = (s.size : Int) + 9 by unfold szN; rw [if_neg h])
    have e2 := Lib.hid (show szE s = 0 by unfold szE; rw [if_neg h])
    have hz := vstr_one (n := (s.size : Int)) (by omega)
    have h' : ¬ (40 : Int) < (s.size : Int) := by omega
    have CV := Lib.hid (fun W => Vi.vput_any (s.size : Int) W (by omega) (by omega))
    clear h
    go_enter Try.func7, Try.ntmps7
    go_wp2_with fail
    refine (CV.out _).mono ?_
    rintro e w1 ⟨rfl, hb1⟩
    have B1 := Lib.hid (below_next (B0.out _) (by simp) hb1)
    clear hb1
    go_wp2_with fail
    go_ret2
    rw [e1.out, e2.out]
    exact ⟨Am.ret_pair (by omega) rfl, B1.out⟩

/-- What the document's Size answers. -/
theorem rsize_any (v : Int) (s : ByteArray) (w : World) (hs : s.size ≤ maxLen) :
    Calls Try.prog 8 #[.agg #[.int .i64 v, .string s]] w fun e w' => e = .returned (.tuple #[.int .i64 (szN s), .int .i64 (szE s)]) ∧ Below w.heap.size w w' := by
  have B0 := Lib.hid (fun o => (Below.refl w.heap.size w).alloc (Nat.le_refl _) o)
  unfold maxLen at hs
  by_cases h : 40 < s.size
  · have e1 := Lib.hid (show szN s = 0 by unfold szN; rw [if_pos h])
    have e2 := Lib.hid (show szE s = 20 by unfold szE; rw [if_pos h])
    have h' : (40 : Int) < (s.size : Int) := by omega
    clear h
    go_enter Try.func8, Try.ntmps8
    go_wp2_with fail
    go_ret2
    rw [e1.out, e2.out]
    exact ⟨rfl, B0.out _⟩
  · have e1 := Lib.hid (show szN s = (s.size : Int) + 9 by unfold szN; rw [if_neg h])
    have e2 := Lib.hid (show szE s = 0 by unfold szE; rw [if_neg h])
    have hz := vstr_one (n := (s.size : Int)) (by omega)
    have h' : ¬ (40 : Int) < (s.size : Int) := by omega
    have CV := Lib.hid (fun W => Vi.rvput_any (s.size : Int) W (by omega) (by omega))
    clear h
    obtain ⟨w0, hw0⟩ : ∃ w0, w0 = w.alloc (.cells #[.int .i64 v, .string s] 29) := ⟨_, rfl⟩
    have hc : w0.cell? ⟨w.heap.size, 1, none⟩ = some (.string s) := by rw [hw0]; simp
    have z0 : w0.heap.size = w.heap.size + 1 := by rw [hw0]; simp
    have B00 := Lib.hid (show Below w.heap.size w w0 by rw [hw0]; exact B0.out _)
    have HW0 := Lib.hid hw0
    clear hw0 B0
    go_enter Try.func8, Try.ntmps8
    go_upto_region 1 with (fail)
    rw [show World.alloc w _ = w0 from HW0.out.symm]
    go_wp2_with fail
    refine (CV.out _).mono ?_
    rintro e w1 ⟨rfl, hb1⟩
    rw [← hb1.cell (p := ⟨w.heap.size, 1, none⟩) (show w.heap.size < w0.heap.size by omega)] at hc
    have B1 := Lib.hid (below_next B00.out (by omega) hb1)
    clear hb1
    go_wp2_with fail
    go_ret2
    rw [e1.out, e2.out]
    exact ⟨Am.ret_pair (by omega) rfl, B1.out⟩

/-- What Least answers. -/
theorem least_any (v : Int) (s : ByteArray) (w : World) (hs : s.size ≤ maxLen) :
    Calls Try.prog 9 #[.agg #[.int .i64 v, .string s]] w fun e w' => e = .returned (.tuple #[.int .i64 (lsN s), .int .i64 (szE s)]) ∧ Below w.heap.size w w' := by
  have B0 := Lib.hid (fun o => (Below.refl w.heap.size w).alloc (Nat.le_refl _) o)
  have CS := Lib.hid (fun W => size_any v s W hs)
  by_cases h : 40 < s.size
  · have e1 := Lib.hid (show lsN s = 0 by unfold lsN; rw [if_pos h])
    have e2 : szE s = 20 := by unfold szE; rw [if_pos h]
    have e3 : szN s = 0 := by unfold szN; rw [if_pos h]
    rw [e2, e3] at CS
    have E2 := Lib.hid e2
    clear h hs e2 e3
    go_enter Try.func9, Try.ntmps9
    go_wp2_with fail
    refine (CS.out _).mono ?_
    rintro e w1 ⟨rfl, hb1⟩
    have B1 := Lib.hid (below_next (B0.out _) (by simp) hb1)
    clear hb1
    go_wp2_with fail
    go_ret2
    rw [e1.out, E2.out]
    exact ⟨rfl, B1.out⟩
  · have e1 := Lib.hid (show lsN s = 3 * ((s.size : Int) + 76) by unfold lsN; rw [if_neg h])
    have e2 : szE s = 0 := by unfold szE; rw [if_neg h]
    have e3 : szN s = (s.size : Int) + 9 := by unfold szN; rw [if_neg h]
    rw [e2, e3] at CS
    obtain ⟨n, hn⟩ : ∃ n : Nat, s.size = n := ⟨_, rfl⟩
    rw [hn] at CS e1 h
    have E2 := Lib.hid e2
    have CF := Lib.hid (fun W => Am.fee_any 3000 ((n : Int) + 9 + 67) W)
    rw [(fee_dust (n := (n : Int)) (by omega) (by omega)).1, (fee_dust (n := (n : Int)) (by omega) (by omega)).2] at CF
    have hn40 : (n : Int) ≤ 40 := by omega
    clear h hs e2 e3 hn
    go_enter Try.func9, Try.ntmps9
    go_wp2_with fail
    refine (CS.out _).mono ?_
    rintro e w1 ⟨rfl, hb1⟩
    have B1 := Lib.hid (below_next (B0.out _) (by simp) hb1)
    clear hb1
    go_wp2_with fail
    refine (CF.out _).mono ?_
    rintro e w2 ⟨rfl, rfl⟩
    go_wp2_with fail
    go_ret2
    rw [e1.out, E2.out]
    exact ⟨rfl, B1.out⟩

/-- What the document's Least answers. -/
theorem rleast_any (v : Int) (s : ByteArray) (w : World) (hs : s.size ≤ maxLen) :
    Calls Try.prog 10 #[.agg #[.int .i64 v, .string s]] w fun e w' => e = .returned (.tuple #[.int .i64 (lsN s), .int .i64 (szE s)]) ∧ Below w.heap.size w w' := by
  have B0 := Lib.hid (fun o => (Below.refl w.heap.size w).alloc (Nat.le_refl _) o)
  have CS := Lib.hid (fun W => rsize_any v s W hs)
  by_cases h : 40 < s.size
  · have e1 := Lib.hid (show lsN s = 0 by unfold lsN; rw [if_pos h])
    have e2 : szE s = 20 := by unfold szE; rw [if_pos h]
    have e3 : szN s = 0 := by unfold szN; rw [if_pos h]
    rw [e2, e3] at CS
    have E2 := Lib.hid e2
    clear h hs e2 e3
    go_enter Try.func10, Try.ntmps10
    go_wp2_with fail
    refine (CS.out _).mono ?_
    rintro e w1 ⟨rfl, hb1⟩
    have B1 := Lib.hid (below_next (B0.out _) (by simp) hb1)
    clear hb1
    go_wp2_with fail
    go_ret2
    rw [e1.out, E2.out]
    exact ⟨rfl, B1.out⟩
  · have e1 := Lib.hid (show lsN s = 3 * ((s.size : Int) + 76) by unfold lsN; rw [if_neg h])
    have e2 : szE s = 0 := by unfold szE; rw [if_neg h]
    have e3 : szN s = (s.size : Int) + 9 := by unfold szN; rw [if_neg h]
    rw [e2, e3] at CS
    obtain ⟨n, hn⟩ : ∃ n : Nat, s.size = n := ⟨_, rfl⟩
    rw [hn] at CS e1 h
    have E2 := Lib.hid e2
    have CF := Lib.hid (fun W => Am.rfee_any 3000 ((n : Int) + 9 + 67) W)
    rw [(fee_dust (n := (n : Int)) (by omega) (by omega)).1, (fee_dust (n := (n : Int)) (by omega) (by omega)).2] at CF
    have hn40 : (n : Int) ≤ 40 := by omega
    clear h hs e2 e3 hn
    go_enter Try.func10, Try.ntmps10
    go_wp2_with fail
    refine (CS.out _).mono ?_
    rintro e w1 ⟨rfl, hb1⟩
    have B1 := Lib.hid (below_next (B0.out _) (by simp) hb1)
    clear hb1
    go_wp2_with fail
    refine (CF.out _).mono ?_
    rintro e w2 ⟨rfl, rfl⟩
    go_wp2_with fail
    go_ret2
    rw [e1.out, E2.out]
    exact ⟨rfl, B1.out⟩

/-- What Dust answers. -/
theorem dust_any (v : Int) (s : ByteArray) (w : World) (hs : s.size ≤ maxLen) :
    Calls Try.prog 11 #[.agg #[.int .i64 v, .string s]] w fun e w' => e = .returned (.bool (duB v s)) ∧ Below w.heap.size w w' := by
  obtain ⟨w0, hw0⟩ : ∃ w0, w0 = w.alloc (.cells #[.int .i64 v, .string s] 29) := ⟨_, rfl⟩
  have hc0 : w0.cell? ⟨w.heap.size, 0, none⟩ = some (.int .i64 v) := by rw [hw0]; simp
  have hc1 : w0.cell? ⟨w.heap.size, 1, none⟩ = some (.string s) := by rw [hw0]; simp
  have z0 : w0.heap.size = w.heap.size + 1 := by rw [hw0]; simp
  have B0 := Lib.hid (show Below w.heap.size w w0 by rw [hw0]; exact (Below.refl w.heap.size w).alloc (Nat.le_refl _) _)
  have CS := Lib.hid (least_any v s w0 hs)
  have HW0 := Lib.hid hw0
  clear hw0
  by_cases h : 40 < s.size
  · have e1 := Lib.hid (show duB v s = false by unfold duB; rw [decide_eq_false (show ¬ s.size ≤ 40 by omega)]; rfl)
    have e2 : szE s = 20 := by unfold szE; rw [if_pos h]
    rw [e2] at CS
    generalize lsN s = l at CS
    clear h hs e2
    go_enter Try.func11, Try.ntmps11
    go_upto_region 1 with (fail)
    rw [show World.alloc w _ = w0 from HW0.out.symm]
    go_wp2_with fail
    refine CS.out.mono ?_
    rintro e w1 ⟨rfl, hb1⟩
    have B1 := Lib.hid (below_next B0.out (by omega) hb1)
    clear hb1 hc0 hc1
    go_wp2_with fail
    go_ret
    rw [e1.out]
    exact ⟨rfl, B1.out⟩
  · have e1 := Lib.hid (show duB v s = decide (v < lsN s) by unfold duB; rw [decide_eq_true (show s.size ≤ 40 by omega)]; rfl)
    have e2 : szE s = 0 := by unfold szE; rw [if_neg h]
    rw [e2] at CS
    generalize lsN s = l at CS e1
    clear h hs e2
    go_enter Try.func11, Try.ntmps11
    go_upto_region 1 with (fail)
    rw [show World.alloc w _ = w0 from HW0.out.symm]
    go_wp2_with fail
    refine CS.out.mono ?_
    rintro e w1 ⟨rfl, hb1⟩
    rw [← hb1.cell (p := ⟨w.heap.size, 0, none⟩) (show w.heap.size < w0.heap.size by omega)] at hc0
    have B1 := Lib.hid (below_next B0.out (by omega) hb1)
    clear hb1 hc1
    go_wp2_with fail
    go_ret
    rw [e1.out]
    exact ⟨rfl, B1.out⟩

end Go.Proofs.Ytmabfccieoaalaa
