/-
  What the document fixes of layer 8: the examples.
-/
import Derived.Test.YtdldhfhhhjenkaaRip
namespace Go.Proofs.Ytdldhfhhhjenkaa
open Go.RowKit

def wkB : List BrD := [⟨1, 0, 0⟩]
def wkT : TxD := ⟨2, [⟨⟨#[]⟩, 0, 5, [sgS 0 1]⟩], [], 0⟩
def wkS : ByteArray := ⟨#[1, 1, 0, 0, 0, 0, 0, 0, 0]⟩
theorem wk_put : ptS wkB = wkS := by decide +kernel
theorem wk_putE : ptE wkB = 0 := by decide +kernel
theorem wk_nil : ptE [] = 6 := by decide +kernel
theorem wk_sgE : sgE 0 = 0 := by decide +kernel
theorem wk_sgL : sgL 0 1 = [sgS 0 1] := by unfold sgL; rw [if_pos wk_sgE]
theorem wk_open : opE wkS wkT 0 = 0 := by decide +kernel
theorem wk_none : opE ⟨#[]⟩ wkT 0 = 9 := by decide +kernel
theorem wk_ripe : rpB wkT 0 3 8 = true := by decide +kernel
theorem wk_early : rpB wkT 0 3 7 = false := by decide +kernel
theorem wkT_ok : wkT.Ok := by
  refine ⟨by decide, by decide, ?_, ?_, by decide, by decide, by decide, by decide⟩
  · intro x hx
    have : x = ⟨⟨#[]⟩, 0, 5, [sgS 0 1]⟩ := by simpa [wkT] using hx
    subst this
    exact ⟨by decide +kernel, by decide, by decide, by decide, by decide, by decide, by decide +kernel⟩
  · intro x hx
    cases hx
theorem wkB_ok : ∀ x ∈ wkB, x.Ok := by
  intro x hx
  have : x = ⟨1, 0, 0⟩ := by simpa [wkB] using hx
  subst this
  exact ⟨by decide, by decide, by decide, by decide, by decide, by decide⟩
theorem one_br (W : World) : Brs (W.alloc (.cells #[.int .u16 1, .int .u16 0, .int .u32 0] 34)) W.heap.size (W.heap.size + 1) (.slice (some ⟨W.heap.size, 0, none⟩) 1 1) wkB := by
  refine ⟨_, 1, rfl, Nat.le_refl _, .inr ⟨W.heap.size, 0, rfl, Nat.le_refl _, Nat.lt_succ_self _, fun k x hx => ?_⟩⟩
  match k, hx with
  | 0, hx =>
    simp [wkB] at hx
    subst hx
    exact ⟨by simp, by simp, by simp⟩
theorem one_tx {W : World} {v : Value} {lo : Nat} (h : Strs W lo W.heap.size v [sgS 0 1]) : TxAt (W.alloc (.cells #[.string ⟨#[]⟩, .int .u32 0, .int .u32 5, v] 66)) 0 (W.heap.size + 1) (.slice (some ⟨W.heap.size, 0, none⟩) 1 1) (.slice none 0 0) wkT := by
  refine ⟨⟨_, 1, rfl, Nat.le_refl _, .inr ⟨W.heap.size, 0, rfl, Nat.zero_le _, Nat.lt_succ_self _, fun k x hx => ?_⟩⟩, Outs.nil _ _ _⟩
  match k, hx with
  | 0, hx =>
    simp [wkT] at hx
    subst hx
    exact ⟨by simp, by simp, by simp, v, by simp, (h.keep (Kept.alloc (Nat.le_refl _) _)).wide (Nat.zero_le _) (Nat.le_succ _)⟩

set_option maxHeartbeats 2000000 in
set_option maxRecDepth 100000 in
theorem wakes_any (w : World) : Calls Try.prog 14 #[] w fun e w' => e = .returned (.bool true) ∧ Below w.heap.size w w' := by
  obtain ⟨w1, hw1⟩ : ∃ w1, w1 = w.alloc (.cells #[.int .u16 1, .int .u16 0, .int .u32 0] 34) := ⟨_, rfl⟩
  have z1 : w1.heap.size = w.heap.size + 1 := by rw [hw1]; simp
  have hb1 : Below w.heap.size w w1 := by rw [hw1]; exact (Below.refl _ _).alloc (Nat.le_refl _) _
  have CP := Lib.hid (lput_any wkB (.slice (some ⟨w.heap.size, 0, none⟩) 1 1) w1 w.heap.size (w.heap.size + 1) (by rw [hw1]; exact one_br w) (by omega) (by decide) wkB_ok)
  rw [wk_put, wk_putE] at CP
  have B1 := Lib.hid hb1
  have HW1 := Lib.hid hw1
  clear hb1 hw1
  go_enter Try.func14, Try.ntmps14
  go_wp2_with fail
  rw [show World.alloc w _ = w1 from HW1.out.symm]
  refine CP.out.mono ?_
  rintro e w2 ⟨rfl, hb2⟩
  have B2 := Lib.hid (below_next B1.out (by omega) hb2)
  clear hb2
  go_wp2_with fail
  refine (sign_any 0 1 w2 (by decide)).mono ?_
  rintro e w3 ⟨v, rfl, hst, hb3⟩
  rw [wk_sgL] at hst
  rw [wk_sgE]
  have B3 := Lib.hid (below_next B2.out B2.out.size hb3)
  obtain ⟨Av, cv, hv⟩ : ∃ A c, v = .slice A 1 c := by obtain ⟨A, c, rfl, _⟩ := hst; exact ⟨A, c, rfl⟩
  subst hv
  obtain ⟨w5, hw5⟩ : ∃ w5, w5 = (w3.alloc (.cells #[.string ⟨#[]⟩, .int .u32 0, .int .u32 5, .slice Av 1 cv] 66)).alloc (.cells #[.int .u32 2, .slice (some ⟨w3.heap.size, 0, none⟩) 1 1, .slice none 0 0, .int .u32 0] 53) := ⟨_, rfl⟩
  have z5 : w5.heap.size = w3.heap.size + 2 := by rw [hw5]; simp
  have hb5 : Below w3.heap.size w3 w5 := by rw [hw5]; exact ((Below.refl _ _).alloc (Nat.le_refl _) _).alloc (by simp) _
  have T5 := Lib.hid (show TxAt w5 0 w5.heap.size (.slice (some ⟨w3.heap.size, 0, none⟩) 1 1) (.slice none 0 0) wkT from by
    have h := (one_tx hst).keep (w' := w5) (by rw [hw5]; exact Kept.alloc (by simp) _)
    exact h.wide (Nat.le_refl _) (by omega))
  have BX := Lib.hid (show Boxed w5 (w3.heap.size + 1) (.int .u32 2) (.slice (some ⟨w3.heap.size, 0, none⟩) 1 1) (.slice none 0 0) (.int .u32 0) from by
    rw [hw5]
    have h := Boxed.new (w3.alloc (.cells #[.string ⟨#[]⟩, .int .u32 0, .int .u32 5, .slice Av 1 cv] 66)) (.int .u32 2) (.slice (some ⟨w3.heap.size, 0, none⟩) 1 1) (.slice none 0 0) (.int .u32 0) 53
    simpa using h)
  have B5 := Lib.hid (below_next B3.out B3.out.size hb5)
  have HW5 := Lib.hid hw5
  clear hb3 hst hb5 hw5
  have hlt : w3.heap.size + 1 < w5.heap.size := by omega
  have CN := Lib.hid (lput_any [] (.slice none 0 0) w5 0 0 (Brs.nil _ _ _) (Nat.zero_le _) (by decide) (by simp))
  rw [wk_nil] at CN
  generalize ptS [] = sn at CN
  have G := fun W (hW : Below w5.heap.size w5 W) => (T5.out.keep (Kept.of_below hW (Nat.le_refl _))).wide (Nat.le_refl _) hW.size
  have C1 := Lib.hid (fun W (hW : Below w5.heap.size w5 W) => (show Calls Try.prog 23 #[.string wkS, .agg #[.int .u32 2, .slice (some ⟨w3.heap.size, 0, none⟩) 1 1, .slice none 0 0, .int .u32 0], .int .i64 0] W fun e w' => e = .returned (.int .i64 0) ∧ Below W.heap.size W w' from by
    have h := open_any wkS wkT 0 _ _ W (G W hW) wkT_ok (by decide +kernel)
    rw [wk_open] at h
    exact h))
  have C2 := Lib.hid (fun W (hW : Below w5.heap.size w5 W) => (show Calls Try.prog 23 #[.string ⟨#[]⟩, .agg #[.int .u32 2, .slice (some ⟨w3.heap.size, 0, none⟩) 1 1, .slice none 0 0, .int .u32 0], .int .i64 0] W fun e w' => e = .returned (.int .i64 9) ∧ Below W.heap.size W w' from by
    have h := open_any ⟨#[]⟩ wkT 0 _ _ W (G W hW) wkT_ok (by decide +kernel)
    rw [wk_none] at h
    exact h))
  have C3 := Lib.hid (fun W (hW : Below w5.heap.size w5 W) => (show Calls Try.prog 25 #[.agg #[.int .u32 2, .slice (some ⟨w3.heap.size, 0, none⟩) 1 1, .slice none 0 0, .int .u32 0], .int .i64 0, .int .i64 3, .int .i64 8] W fun e w' => e = .returned (.bool true) ∧ Below W.heap.size W w' from by
    have h := ripe_any wkT 0 3 8 _ _ W (G W hW) wkT_ok
    rw [wk_ripe] at h
    exact h))
  have C4 := Lib.hid (fun W (hW : Below w5.heap.size w5 W) => (show Calls Try.prog 25 #[.agg #[.int .u32 2, .slice (some ⟨w3.heap.size, 0, none⟩) 1 1, .slice none 0 0, .int .u32 0], .int .i64 0, .int .i64 3, .int .i64 7] W fun e w' => e = .returned (.bool false) ∧ Below W.heap.size W w' from by
    have h := ripe_any wkT 0 3 7 _ _ W (G W hW) wkT_ok
    rw [wk_early] at h
    exact h))
  clear G
  go_upto_region 4 with (fail)
  rw [show World.alloc (World.alloc w3 _) _ = w5 from HW5.out.symm]
  go_wp2_with fail
  refine CN.out.mono ?_
  rintro e w6 ⟨rfl, hb6⟩
  have L6 := Lib.hid hb6
  clear hb6
  obtain ⟨a0, a1, a2, a3⟩ := BX.out.below hlt L6.out
  have hq : wkS.toList = [1, 1, 0, 0, 0, 0, 0, 0, 0] := by decide +kernel
  generalize hks : wkS = ks at C1 hq
  go_wp2_with fail
  refine (C1.out w6 L6.out).mono ?_
  rintro e w7 ⟨rfl, hb7⟩
  have L7 := Lib.hid (below_next L6.out L6.out.size hb7)
  clear hb7 a0 a1 a2 a3
  obtain ⟨a0, a1, a2, a3⟩ := BX.out.below hlt L7.out
  go_wp2_with fail
  refine (C2.out w7 L7.out).mono ?_
  rintro e w8 ⟨rfl, hb8⟩
  have L8 := Lib.hid (below_next L7.out L7.out.size hb8)
  clear hb8 a0 a1 a2 a3
  obtain ⟨a0, a1, a2, a3⟩ := BX.out.below hlt L8.out
  go_wp2_with fail
  refine (C3.out w8 L8.out).mono ?_
  rintro e w9 ⟨rfl, hb9⟩
  have L9 := Lib.hid (below_next L8.out L8.out.size hb9)
  clear hb9 a0 a1 a2 a3
  obtain ⟨a0, a1, a2, a3⟩ := BX.out.below hlt L9.out
  go_wp2_with fail
  refine (C4.out w9 L9.out).mono ?_
  rintro e wa ⟨rfl, hba⟩
  have La := Lib.hid (below_next L9.out L9.out.size hba)
  clear hba a0 a1 a2 a3
  go_wp2_with fail
  go_ret
  exact ⟨rfl, below_next B5.out B5.out.size La.out⟩

end Go.Proofs.Ytdldhfhhhjenkaa
