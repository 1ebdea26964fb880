/-
  What the document fixes (the examples of layer 6): the statements' first question.
-/
import Derived.Test.YtkdkkndccjddnaaWkm
import Derived.Test.YtkdkkndccjddnaaIdn
import Derived.Deep.RegionHeld3
namespace Go.Proofs.Ytkdkkndccjddnaa
open Go.RowKit

theorem gT_ok : gT.Ok := by
  refine ⟨by decide, by decide, ?_, ?_, by decide, by decide, by decide, by decide⟩
  · intro x hx
    have : x = ⟨zeros, 4294967295, 4294967295, []⟩ := by simpa [gT, grantD] using hx
    subst this
    exact ⟨by decide +kernel, by decide, by decide, by decide, by decide, by decide, by simp⟩
  · intro x hx
    have : x = ⟨0, ⟨#[]⟩⟩ := by simpa [gT, grantD] using hx
    subst this
    exact ⟨by decide, by decide, by decide⟩
theorem dcT_ok (s : ByteArray) : (dcT s).Ok := by
  unfold dcT
  split
  · exact trD_ok _ _
  · exact ⟨by simp, by simp, by simp, by simp, by simp, by simp, by simp, by simp⟩
/-- A slice with one Out of 0. -/
theorem one_out (W : World) : Outs (W.alloc (.cells #[.int .i64 0, .string ⟨#[]⟩] 51)) W.heap.size (W.heap.size + 1) (.slice (some ⟨W.heap.size, 0, none⟩) 1 1) [⟨0, ⟨#[]⟩⟩] := by
  refine ⟨_, 1, rfl, Nat.le_refl _, .inr ⟨W.heap.size, 0, rfl, Nat.le_refl _, Nat.lt_succ_self _, fun k x hx => ?_⟩⟩
  match k, hx with
  | 0, hx =>
    simp at hx
    subst hx
    exact ⟨by simp, by simp⟩
theorem grant_one (W : World) (b : Nat) (hb : b = W.heap.size) : Calls Try.prog 27 #[.int .i64 0, .slice (some ⟨b, 0, none⟩) 1 1] (W.alloc (.cells #[.int .i64 0, .string ⟨#[]⟩] 51)) fun e w' => ∃ vi' vo', e = .returned (.agg #[.int .u32 2, vi', vo', .int .u32 0]) ∧ TxAt w' W.heap.size w'.heap.size vi' vo' gT ∧ Below W.heap.size W w' := by
  subst hb
  refine (grant_any 0 _ [⟨0, ⟨#[]⟩⟩] _ _ _ (one_out W) (by simp) (by simp)).mono ?_
  rintro e w1 ⟨vi, vo, rfl, ht, hb1⟩
  exact ⟨vi, vo, rfl, ht.wide (by simp) (Nat.le_refl _), below_next ((Below.refl _ _).alloc (Nat.le_refl _) _) (by simp) hb1⟩

theorem grant_oneD (W : World) (b : Nat) (hb : b = W.heap.size) : Calls Try.prog 27 #[.int .i64 0, .slice (some ⟨b, 0, none⟩) 1 1] (W.alloc (.cells #[.int .i64 0, .string ⟨#[]⟩] 51)).drew fun e w' => ∃ vi' vo', e = .returned (.agg #[.int .u32 2, vi', vo', .int .u32 0]) ∧ TxAt w' W.heap.size w'.heap.size vi' vo' gT ∧ Below W.heap.size W w' := by
  subst hb
  refine (grant_any 0 _ [⟨0, ⟨#[]⟩⟩] (W.alloc (.cells #[.int .i64 0, .string ⟨#[]⟩] 51)).drew _ _ ((one_out W).keep (fun _ _ _ => rfl)) (by simp) (by simp)).mono ?_
  rintro e w1 ⟨vi, vo, rfl, ht, hb1⟩
  exact ⟨vi, vo, rfl, ht.wide (by simp) (Nat.le_refl _), below_next ((Below.refl _ _).alloc (Nat.le_refl _) _).drew (by simp) hb1⟩

set_option maxHeartbeats 2000000 in
set_option maxRecDepth 100000 in
theorem wakes_any (w : World) : Calls Try.prog 14 #[] w fun e w' => e = .returned (.bool true) ∧ Below w.heap.size w w' := by
  go_enter Try.func14, Try.ntmps14
  go_wp2_with fail
  refine (grant_one w _ rfl).mono ?_
  rintro e w1 ⟨vi, vo, rfl, ht, hb1⟩
  have z1 := hb1.size
  have K1 := Lib.hid hb1
  have C10 := Lib.hid (encode_any gT vi vo w1 (ht.wide (Nat.zero_le _) (Nat.le_refl _)) gT_ok)
  rw [g_enc, g_check] at C10
  clear ht hb1
  go_wp2_with fail
  refine (show Calls Try.prog 10 #[.agg #[.int .u32 2, vi, vo, .int .u32 0]] w1 _ from C10.out).mono ?_
  rintro e w2 ⟨rfl, hb2⟩
  have z2 := hb2.size
  have K2 := Lib.hid (below_next K1.out z1 hb2)
  clear hb2
  have hgs : gS.size = 60 := g_size
  obtain ⟨s, hs⟩ : ∃ s, gS = s := ⟨_, rfl⟩
  have HS := Lib.hid hs
  rw [hs] at hgs ⊢
  have C15 := Lib.hid (decode_any s w2 (by omega))
  have G := Lib.hid (show dcE s = 0 ∧ dcA s = 60 ∧ (dcT s).ver = 2 ∧ (dcT s).lock = 0 ∧ txB (dcT s) gT = true from by rw [← hs]; exact ⟨g_dcE, g_dcA, g_ver.1, g_ver.2, g_same⟩)
  rw [G.out.1, G.out.2.1, G.out.2.2.1, G.out.2.2.2.1] at C15
  obtain ⟨sx, hsx⟩ : ∃ sx, s ++ ⟨#[120]⟩ = sx := ⟨_, rfl⟩
  have hxz : sx.size = 61 := by rw [← hsx, ByteArray.size_append, hgs]; rfl
  have G1 := Lib.hid (show dcE sx = 4 ∧ dcA sx = 60 from by rw [← hsx, ← hs]; exact ⟨g_dcE1, g_dcA1⟩)
  have D15 := Lib.hid (fun W => decode_any sx W (by omega))
  rw [G1.out.1, G1.out.2] at D15
  go_wp2_with fail
  refine C15.out.mono ?_
  rintro e w3 ⟨ti, tp, rfl, ht3, hb3⟩
  have z3 := hb3.size
  obtain ⟨w4, hw4⟩ : ∃ w4, w4 = w3.alloc (.cells #[.int .u32 2, ti, tp, .int .u32 0] 26) := ⟨_, rfl⟩
  have z4 : w4.heap.size = w3.heap.size + 1 := by rw [hw4]; simp
  have hb4 : Below w3.heap.size w3 w4 := by rw [hw4]; exact (Below.refl _ _).alloc (Nat.le_refl _) _
  have B4 := Lib.hid (show Boxed w4 w3.heap.size (.int .u32 2) ti tp (.int .u32 0) from by rw [hw4]; exact Boxed.new _ _ _ _ _ _)
  have T4 := Lib.hid (ht3.keep (Kept.of_below hb4 (Nat.le_refl _)))
  have K4 := Lib.hid (below_next (below_next K2.out (by omega) hb3) (by omega) hb4)
  have HW4 := Lib.hid hw4
  obtain ⟨A1, m1, rfl⟩ := ht3.1.form
  obtain ⟨A2, m2, rfl⟩ := ht3.2.form
  clear ht3 hb3 hb4 hw4
  go_upto_region 3 with (fail)
  rw [show World.alloc w3 _ = w4 from HW4.out.symm]
  have hcat : ∀ W, (Op.stringOp .add s ⟨#[120]⟩).run Try.prog W = .ok (.string sx) W := fun W => by
    rw [run_string_add_sum W _ _ (by rw [hgs]; decide), hsx]
  clear hsx
  go_wp2_with fail
  refine (D15.out w4).mono ?_
  rintro e w5 ⟨ui, up, rfl, ht5, hb5⟩
  obtain ⟨A3, m3, rfl⟩ := ht5.1.form
  obtain ⟨A4, m4, rfl⟩ := ht5.2.form
  generalize (dcT sx).ins.length = n3
  generalize (dcT sx).outs.length = n4
  clear ht5
  have z5 := hb5.size
  obtain ⟨dv, hdv⟩ : ∃ dv, (dcT sx).ver = dv := ⟨_, rfl⟩
  obtain ⟨dl, hdl⟩ : ∃ dl, (dcT sx).lock = dl := ⟨_, rfl⟩
  rw [hdv, hdl]
  obtain ⟨w6, hw6⟩ : ∃ w6, w6 = w5.alloc (.cells #[.int .u32 dv, .slice A3 n3 m3, .slice A4 n4 m4, .int .u32 dl] 26) := ⟨_, rfl⟩
  have z6 : w6.heap.size = w5.heap.size + 1 := by rw [hw6]; simp
  have hb6 : Below w4.heap.size w4 w6 := below_next hb5 (by omega) (by rw [hw6]; exact (Below.refl _ _).alloc (Nat.le_refl _) _)
  have HB6 := Lib.hid hb6
  have HW6 := Lib.hid hw6
  clear hw6 hb5 hb6
  go_upto_region 4 with (fail)
  rw [show World.alloc w5 _ = w6 from HW6.out.symm]
  obtain ⟨Z1, hZ1⟩ : ∃ Z1 : ByteArray, ⟨(zerosL 32).toArray⟩ = Z1 := ⟨_, rfl⟩
  obtain ⟨Z2, hZ2⟩ : ∃ Z2 : ByteArray, ⟨(zerosL 13).toArray⟩ = Z2 := ⟨_, rfl⟩
  have hz1 : Z1.size = 32 := by rw [← hZ1]; decide +kernel
  have hz2 : Z2.size = 13 := by rw [← hZ2]; decide +kernel
  have R32 := Lib.hid (fun W => repeat_zero 32 (by omega) (by omega) W)
  have R13 := Lib.hid (fun W => repeat_zero 13 (by omega) (by omega) W)
  rw [hZ1] at R32
  rw [hZ2] at R13
  obtain ⟨y1, hy1⟩ : ∃ y1 : ByteArray, ⟨#[2, 0, 0, 0, 1]⟩ ++ Z1 = y1 := ⟨_, rfl⟩
  obtain ⟨y2, hy2⟩ : ∃ y2 : ByteArray, y1 ++ ⟨#[255, 255, 255, 255, 0, 255, 255, 255, 255, 1]⟩ = y2 := ⟨_, rfl⟩
  have hy3 : y2 ++ Z2 = s := by rw [← hy2, ← hy1, ← hZ1, ← hZ2, ← hs]; exact g_want
  have e1 : y1.size = 37 := by rw [← hy1, ByteArray.size_append, hz1]; rfl
  have e2 : y2.size = 47 := by rw [← hy2, ByteArray.size_append, e1]; rfl
  have q1 : ∀ W, (Op.stringOp .add ⟨#[2, 0, 0, 0, 1]⟩ Z1).run Try.prog W = .ok (.string y1) W := fun W => by
    rw [run_string_add_sum W _ _ (by rw [hz1]; decide), hy1]
  have q2 : ∀ W, (Op.stringOp .add y1 ⟨#[255, 255, 255, 255, 0, 255, 255, 255, 255, 1]⟩).run Try.prog W = .ok (.string y2) W := fun W => by
    rw [run_string_add_sum W _ _ (by rw [e1]; decide), hy2]
  have q3 : ∀ W, (Op.stringOp .add y2 Z2).run Try.prog W = .ok (.string s) W := fun W => by
    rw [run_string_add_sum W _ _ (by rw [e2, hz2]; decide), hy3]
  clear hy1 hy2 hy3 hZ1 hZ2 hdv hdl hs
  go_wp2_with fail
  refine (R32.out w6).mono ?_
  rintro e w7 ⟨rfl, hb7⟩
  have z7 := hb7.size
  go_wp2_with fail
  refine (R13.out w7).mono ?_
  rintro e w8 ⟨rfl, hb8⟩
  have z8 := hb8.size
  have hb48 : Below w4.heap.size w4 w8 := below_next (below_next HB6.out (by have := HB6.out.size; omega) hb7) (by have := HB6.out.size; omega) hb8
  have K8 := Lib.hid (below_next K4.out (by omega) hb48)
  have B8 := Lib.hid (B4.out.below (by omega) hb48)
  have T8 := Lib.hid (T4.out.keep (Kept.of_below hb48 (by omega)))
  clear hb7 hb8 hb48
  obtain ⟨n1, hn1⟩ : ∃ n1, (dcT s).ins.length = n1 := ⟨_, rfl⟩
  obtain ⟨n2, hn2⟩ : ∃ n2, (dcT s).outs.length = n2 := ⟨_, rfl⟩
  rw [hn1, hn2] at B8 T8
  obtain ⟨a0, a1, a2, a3⟩ := B8.out
  have C17 := Lib.hid (fun (W : World) (hW : Below w8.heap.size w8 W) (ui uo : Value) (lo : Nat) (hu : TxAt W lo W.heap.size ui uo gT) => show Calls Try.prog 17 #[.agg #[.int .u32 2, .slice A1 n1 m1, .slice A2 n2 m2, .int .u32 0], .agg #[.int .u32 2, ui, uo, .int .u32 0]] W _ from by
    have q := rsame_any (dcT s) gT _ _ ui uo W w2.heap.size w3.heap.size lo W.heap.size (T8.out.keep (Kept.of_below hW (by have := HB6.out.size; omega))) hu (by have := hW.size; have := HB6.out.size; omega) (Nat.le_refl _) (dcT_ok s)
    rw [G.out.2.2.1, G.out.2.2.2.1, G.out.2.2.2.2] at q
    exact q)
  clear hn1 hn2
  have h60 : ((60 : Int) == (s.size : Int)) = true := by rw [hgs]; rfl
  have hss : (s.toList == s.toList) = true := by simp
  have D8 := Lib.hid ((Below.refl w8.heap.size w8).drew)
  have l8 : w3.heap.size < w8.heap.size := by have := HB6.out.size; omega
  go_upto_region 5 with (fail)
  go_region_held3 (fun w' => w'.cell? ⟨w3.heap.size, 0, none⟩ = some (.int .u32 2) ∧ w'.cell? ⟨w3.heap.size, 1, none⟩ = some (.slice A1 n1 m1) ∧ w'.cell? ⟨w3.heap.size, 2, none⟩ = some (.slice A2 n2 m2) ∧ w'.cell? ⟨w3.heap.size, 3, none⟩ = some (.int .u32 0))
    (go_keep)
    (first
      | (go_at_call 27; ((with_reducible refine (grant_oneD w8 _ rfl).mono ?_); rintro e w9 ⟨gi, go', rfl, ht9, hb9⟩; have HB9 := Lib.hid hb9; have HT9 := Lib.hid ht9; obtain ⟨a0, a1, a2, a3⟩ := B8.out.below l8 hb9; clear hb9 ht9))
      | (go_at_call 17; ((with_reducible refine (C17.out w9 HB9.out gi go' _ HT9.out).mono ?_); rintro e w10 ⟨rfl, hb10⟩; have HB10 := Lib.hid (below_next HB9.out HB9.out.size hb10); obtain ⟨a0, a1, a2, a3⟩ := B8.out.below l8 HB10.out; clear hb10)))
  all_goals go_wp2_with fail
  go_ret
  exact ⟨rfl, below_next K8.out (by have := K8.out.size; omega) HB10.out⟩

end Go.Proofs.Ytkdkkndccjddnaa
