/-
  AmountSums: its walk.
-/
import Derived.Test.YtndjbobgccpdfaaOwn
import Derived.LoopN
namespace Go.Proofs.Ytndjbobgccpdfaa
open Go.RowKit

set_option maxRecDepth 100000 in
set_option maxHeartbeats 1000000 in
theorem sums_any (A : Option Addr) (cap : Nat) (zs : List Int) (a1 a2 : Int) (w : World) (h : Ints w w.heap.size A zs) (_hm : zs.length ≤ maxLen) (hcap : zs.length ≤ cap) :
    Calls Try.prog 3 #[.slice A zs.length cap, .int .i64 a1, .int .i64 a2] w fun e w' => e = .returned (.bool true) ∧ Below w.heap.size w w' := by
  obtain ⟨i0, hi0, hz0, hz1, hz2⟩ := info_parts info3
  unfold maxLen at _hm
  have hx := run_max0
  have hn := run_min50
  have hc := cutN_le 50 zs.length
  have H := Lib.hid h
  clear h
  go_enter Try.func3, Try.ntmps3
  go_wp2_with fail
  go_loopw [7, 32] (fun v i wr => NearHead w (cutN 50 zs.length) v i wr) (fun _ i _ => cutN 50 zs.length - (intOf i).toNat)
  case atStart => exact ⟨0, [], by omega, rfl, rfl, Own.nil _ _, Below.refl _ _⟩
  case round =>
    obtain ⟨k, xs, hk, rfl, hl, hown, hbel⟩ := hrel
    by_cases hlt : k < cutN 50 zs.length
    · obtain ⟨b, off, rfl, hb, hcell⟩ := (H.out.below hbel).at (show k < zs.length by omega)
      generalize zs.getD k 0 = x at hcell
      have hkb : decide (k < cutN 50 zs.length) = true := decide_eq_true hlt
      have HL := Lib.hid hl
      have HOWN := Lib.hid hown
      have HB := Lib.hid hbel
      have hs := hbel.size
      have hle : xs.length ≤ 50 := by omega
      clear hl hown hbel
      go_wp2_with (first
        | (go_at_call 9; refine (most_any _ _).mono ?_; rintro e w' ⟨rfl, rfl⟩)
        | (at_builtin; refine wpList_append_own _ rfl _ _ 22 rfl w.heap.size 3 i0 (.int .i64 0) 1 8 Try.underlying22 hi0 hz0 hz1 hz2 rfl (by decide) _ _ _ rfl (HOWN.out.alloc _) ⟨wr.heap.size, 0, none⟩ 1 1 [.int .i64 (pos (near x))] rfl rfl (one_new _ _ _) (by simp [Value.oneCell']) (by unfold maxLen; omega) (by omega) (by simp; omega) ?_; intro v' w1 hown' hgrow _))
      go_roundw
      case rel => exact ⟨k + 1, xs ++ [pos (near x)], by omega, by go_num, by simp [HL.out], Own.push hown', (HB.out.alloc hs _).grown hgrow (by simp; omega) HOWN.out.row⟩
      case measure => simp [intOf]; omega
    · obtain ⟨A', c', rfl, hc', hints⟩ := hown.ints
      have ht := (H.out.below hbel).take (cutN 50 zs.length)
      have hlen : (zs.take (cutN 50 zs.length)).length = cutN 50 zs.length := by simp; omega
      generalize hT : zs.take (cutN 50 zs.length) = T at ht hlen
      have hs := hbel.size
      have HB := Lib.hid hbel
      have HT := Lib.hid (ht.more hs)
      have HI := Lib.hid hints
      have HLEN := Lib.hid hlen
      have hle : xs.length ≤ 50 := by omega
      have hkb : decide (k < cutN 50 zs.length) = false := decide_eq_false hlt
      clear hT ht hints hbel hown hlen hl
      go_wp2_with fail
      rw [← HLEN.out]
      have m1 : T.length ≤ maxLen := by rw [HLEN.out]; unfold maxLen; omega
      have m2 : xs.length ≤ maxLen := by unfold maxLen; omega
      have M1 := Lib.hid m1
      have M2 := Lib.hid m2
      clear m1 m2
      refine wp_loop_rounds 3 ?_
      rw [rounds_succ]
      go_wp2_with fail
      refine (sum_any _ _ _ _ _ (HT.out.alloc (Nat.le_refl _) _) M1.out).mono ?_
      rintro e w' ⟨rfl, rfl⟩
      go_wp2_with fail
      refine (rsum_any _ _ _ _ _ (HT.out.alloc (Nat.le_refl _) _) M1.out).mono ?_
      rintro e w' ⟨rfl, rfl⟩
      go_wp2_with fail
      rw [rounds_succ]
      go_wp2_with fail
      refine (sum_any _ _ _ _ _ (HI.out.alloc (Nat.le_refl _) _) M2.out).mono ?_
      rintro e w' ⟨rfl, rfl⟩
      go_wp2_with fail
      refine (rsum_any _ _ _ _ _ (HI.out.alloc (Nat.le_refl _) _) M2.out).mono ?_
      rintro e w' ⟨rfl, rfl⟩
      go_wp2_with fail
      rw [rounds_succ]
      go_wp2_with fail
      refine (most_any _ _).mono ?_
      rintro e w' ⟨rfl, rfl⟩
      go_wp2_with fail
      refine (most_any _ _).mono ?_
      rintro e w' ⟨rfl, rfl⟩
      go_wp2_with fail
      refine (most_any _ _).mono ?_
      rintro e w' ⟨rfl, rfl⟩
      go_wp2_with fail
      refine (most_any _ _).mono ?_
      rintro e w' ⟨rfl, rfl⟩
      go_wp2_with fail
      have e1 := sum_two a1 a2
      have e2 := sum_two (near a1) (near a2)
      have e3 := sum_two (pos (near a1)) (pos (near a2))
      refine wp_loop_rounds 4 ?_
      rw [rounds_succ]
      go_wp2_with fail
      refine (add_any _ _ _).mono ?_
      rintro e w' ⟨rfl, rfl⟩
      go_wp2_with fail
      refine (rsum_any _ _ _ [a1, a2] _ (Ints.pair (Nat.lt_succ_self _) (by go_simp) (by go_simp)) (by unfold maxLen; simp)).mono ?_
      rintro e w' ⟨rfl, rfl⟩
      go_wp2_with fail
      refine (sub_any _ _ _).mono ?_
      rintro e w' ⟨rfl, rfl⟩
      go_wp2_with fail
      refine (rsub_any _ _ _).mono ?_
      rintro e w' ⟨rfl, rfl⟩
      go_wp2_with fail
      go_quiet (first | (go_at_call 15; exact quiet_once (good_any _ _)) | (go_at_call 16; exact quiet_once (rgood_any _ _)))
      go_wp2_with fail
      rw [rounds_succ]
      go_wp2_with fail
      refine (add_any _ _ _).mono ?_
      rintro e w' ⟨rfl, rfl⟩
      go_wp2_with fail
      refine (rsum_any _ _ _ [near a1, near a2] _ (Ints.pair (Nat.lt_succ_self _) (by go_simp) (by go_simp)) (by unfold maxLen; simp)).mono ?_
      rintro e w' ⟨rfl, rfl⟩
      go_wp2_with fail
      refine (sub_any _ _ _).mono ?_
      rintro e w' ⟨rfl, rfl⟩
      go_wp2_with fail
      refine (rsub_any _ _ _).mono ?_
      rintro e w' ⟨rfl, rfl⟩
      go_wp2_with fail
      go_quiet (first | (go_at_call 15; first | exact quiet_once (good_any _ _) | exact quiet_more (good_any _ _)) | (go_at_call 16; first | exact quiet_once (rgood_any _ _) | exact quiet_more (rgood_any _ _)))
      go_wp2_with fail
      rw [rounds_succ]
      go_wp2_with fail
      refine (add_any _ _ _).mono ?_
      rintro e w' ⟨rfl, rfl⟩
      go_wp2_with fail
      refine (rsum_any _ _ _ [pos (near a1), pos (near a2)] _ (Ints.pair (Nat.lt_succ_self _) (by go_simp) (by go_simp)) (by unfold maxLen; simp)).mono ?_
      rintro e w' ⟨rfl, rfl⟩
      go_wp2_with fail
      refine (sub_any _ _ _).mono ?_
      rintro e w' ⟨rfl, rfl⟩
      go_wp2_with fail
      refine (rsub_any _ _ _).mono ?_
      rintro e w' ⟨rfl, rfl⟩
      go_wp2_with fail
      go_quiet (first | (go_at_call 15; first | exact quiet_once (good_any _ _) | exact quiet_more (good_any _ _)) | (go_at_call 16; first | exact quiet_once (rgood_any _ _) | exact quiet_more (rgood_any _ _)))
      go_wp2_with fail
      rw [rounds_succ]
      go_wp2_with fail
      refine (wakes_any _).mono ?_
      rintro e w' ⟨rfl, n3, rfl⟩
      go_wp2_with fail
      go_ret
      refine ⟨rfl, ?_⟩
      repeat (first | exact HB.out | refine below_drewN ?_ _ | refine Below.alloc ?_ (by first | exact hs | (simp; omega)) _)
end Go.Proofs.Ytndjbobgccpdfaa
