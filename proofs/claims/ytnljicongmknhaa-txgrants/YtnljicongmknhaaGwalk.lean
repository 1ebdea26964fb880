/-
  The statement TxGrants, walked.
-/
import Derived.Test.YtnljicongmknhaaPwalk
import Derived.Test.YtnljicongmknhaaSame
import Derived.Test.YtnljicongmknhaaMut
import Derived.Test.YtnljicongmknhaaGstep
import Derived.Test.YtnljicongmknhaaGends
import Derived.Laws.BitsLemmas
import Derived.Laws.Concat
import Derived.Test.YtnljicongmknhaaCwalk
import Derived.Deep.RegionLawGrows
namespace Go.Proofs.Ytnljicongmknhaa
open Go.RowKit

set_option maxHeartbeats 12000000 in
set_option linter.unusedSimpArgs false in
set_option maxRecDepth 100000 in
theorem grants_law (height : Int) (vo : Value) (xs : List OutD) (w : World) (ho : Outs w 0 w.heap.size vo xs) (hl : xs.length ≤ maxLen) (hv : ∀ y ∈ xs, -9223372036854775808 ≤ y.val ∧ y.val ≤ 9223372036854775807) :
    Calls Try.prog 5 #[.int .i64 height, vo] w fun e w' => e = .returned (.bool true) ∧ Below w.heap.size w w' := by
  have HC := Lib.hid (show (⟨0, [], xs, 0⟩ : TxD).Came from ⟨by simp, hl, by simp, hv, by simp, by simp, by simp, by simp⟩)
  have HT := Lib.hid (show TxAt w 0 w.heap.size (.slice none 0 0) vo ⟨0, [], xs, 0⟩ from ⟨Ins.nil _ _ _, ho⟩)
  have HOK := Lib.hid (cut_ok HC.out (m := 12) (by omega))
  obtain ⟨A, c, rfl⟩ := ho.form
  clear ho hl hv
  have hfd := run_field26
  go_enter Try.func5, Try.ntmps5
  go_wp2_with fail
  refine (cut_more ⟨0, [], xs, 0⟩ 12 _ _ _ w.heap.size HT.out (Nat.le_refl _) (by omega) (came_ins HC.out) (came_outs HC.out) (came_wit HC.out)).mono ?_
  rintro e w1 ⟨ui, uo, rfl, ⟨hu1, hu2⟩, hb1, hz1⟩
  obtain ⟨D, f, rfl⟩ := hu1.ins.form
  generalize (cutTx 12 ⟨0, [], xs, 0⟩).ins.length = nn
  clear hu1
  have hul := HOK.out.2.1
  have HY := Lib.hid HOK.out.2.2.2.1
  generalize (cutTx 12 ⟨0, [], xs, 0⟩).outs = ys at hu2 hul HY
  obtain ⟨B, d, rfl⟩ := hu2.outs.form
  have HU := Lib.hid hu2
  have HB1 := Lib.hid hb1
  clear hu2 hb1
  go_wp2_with fail
  refine (grant_any height _ ys _ _ _ (HU.out.outs) (Nat.le_refl _) hul).mono ?_
  rintro e w2 ⟨gi, gz, rfl, ht2, hb2⟩
  have HG := Lib.hid ht2
  have HB2 := Lib.hid hb2
  clear ht2 hb2
  obtain ⟨A1, m1, rfl⟩ := HG.out.1.form
  obtain ⟨A2, m2, rfl⟩ := HG.out.2.form
  have hz12 := HB2.out.size
  have BX := Lib.hid (fun o => Below.alloc HB2.out hz12 o)
  have hwr : IntKind.u32.wrap height = height % 4294967296 := IntKind.wrap_u32 height
  have hmk := make32
  have htx := text32
  have hz1' := z32_newI
  have hz2' := z32_allocI
  have hz3' := z32_drewI
  have hz4' := z32_setI
  go_upto_region 3 with (fail)
  have HGOK := Lib.hid (grant_ok height ys hul HY.out)
  go_cut [6] (fun v6 wx => ∃ (g6 : Nat) (A3 : Option Addr) (m3 : Nat) (A4 : Option Addr) (m4 : Nat), v6 = .pointer (some ⟨g6, 0, none⟩) ∧ GrS w w1 height ys B 64 w2.heap.size g6 (.slice A1 (grantD height ys).ins.length m1) (.slice A2 (grantD height ys).outs.length m2) (.slice A3 (grantD height ys).ins.length m3) (.slice A4 (grantD height ys).outs.length m4) wx)
  case first =>
    go_region_law (refine step_copy rfl _ _ rfl (by rfl) (by rfl) HU.out (by repeat (first | (with_reducible exact BX.out _) | (with_reducible refine Below.drew ?_) | (with_reducible refine Below.alloc ?_ (by first | omega | (simp; done) | (simp; omega)) _))) hul ?_; intro A' c' w3 ho3 hb3; have HO3 := Lib.hid ho3; have HB3 := Lib.hid hb3; have hz5 := z32_belowI hb3; have hs3 := hb3.size; (try simp at hs3); (have q0 : w2.heap.size < w3.heap.size := (by omega)); (try (have q1 : w2.heap.size + 1 < w3.heap.size := (by omega))); (try (have q2 : w2.heap.size + 1 + 1 < w3.heap.size := (by omega))); (try (have q3 : w2.heap.size + 1 + 1 + 1 < w3.heap.size := (by omega))); obtain ⟨rc3, rf3⟩ := bcell hb3; clear ho3 hb3)
    all_goals go_wp2_with fail
    all_goals go_meet
    all_goals clear rc3 rf3 hz5 hmk htx hz1' hz2' hz3' hz4' hfd
    all_goals with_reducible first
      | exact gend0 HU.out HY.out HB1.out hz1 HB2.out HG.out HO3.out HB3.out
      | exact gend1 HU.out HY.out HB1.out hz1 HB2.out HG.out HO3.out HB3.out
      | exact gend2 HU.out HY.out HB1.out hz1 HB2.out HG.out HO3.out HB3.out
      | exact gend3 HU.out HY.out HB1.out hz1 HB2.out HG.out HO3.out HB3.out
      | exact gend4 HU.out HY.out HB1.out hz1 HB2.out HG.out HO3.out HB3.out
      | exact gend5 HU.out HY.out HB1.out hz1 HB2.out HG.out HO3.out HB3.out
      | exact gend6 HU.out HY.out HB1.out hz1 HB2.out HG.out HO3.out HB3.out
      | exact gend7 HU.out HY.out HB1.out hz1 HB2.out HG.out HO3.out HB3.out
      | exact gend8 HU.out HY.out HB1.out hz1 HB2.out HG.out HO3.out HB3.out
      | exact gend9 HU.out HY.out HB1.out hz1 HB2.out HG.out HO3.out HB3.out
      | exact gend10 HU.out HY.out HB1.out hz1 HB2.out HG.out HO3.out HB3.out
      | exact gend11 HU.out HY.out HB1.out hz1 HB2.out HG.out HO3.out HB3.out
  case rest =>
    obtain ⟨g6, A3, m3, A4, m4, rfl, hst⟩ := hcut
    have HS := Lib.hid hst
    clear hst hmk htx hz1' hz2' hz3' hz4' hfd
    go_wp2_with fail
    refine (wakes_any _).mono ?_
    rintro e w4 ⟨rfl, hb4⟩
    have HS4 := Lib.hid (HS.out.below hb4)
    clear hb4
    obtain ⟨a0, a1, a2, a3⟩ := HS4.out.b5
    obtain ⟨c0, c1, c2, c3⟩ := HS4.out.b6
    go_wp2_with fail
    have h20 := rsame_any (grantD height ys) (grantD height ys) _ _ _ _ w4 _ _ _ _ HS4.out.t5 HS4.out.t6 (Nat.le_refl _) (Nat.le_refl _) HGOK.out
    rw [txB_refl] at h20
    refine h20.mono ?_
    rintro e w5 ⟨rfl, hb5⟩
    have HS5 := Lib.hid (HS4.out.below hb5)
    clear hb5 a0 a1 a2 a3 c0 c1 c2 c3 h20
    obtain ⟨a0, a1, a2, a3⟩ := HS5.out.b5
    go_wp2_with fail
    have h15 := base_any (grantD height ys) (.slice A1 (grantD height ys).ins.length m1) (.slice A2 (grantD height ys).outs.length m2) w5 _ _ HS5.out.t5.1 (Nat.le_refl _)
    rw [grant_base] at h15
    refine h15.mono ?_
    rintro e w6 ⟨rfl, hb6⟩
    have HS6 := Lib.hid (HS5.out.below hb6)
    clear hb6 a0 a1 a2 a3 h15
    go_wp2_with fail
    go_loopg [7, 40] ys.length (fun gg _ s wr => ∃ k : Nat, k ≤ ys.length ∧ ys.length - k ≤ gg ∧ s = .int .i64 k ∧ Hid (GrS w w1 height ys B (64 + k) w2.heap.size g6 (.slice A1 (grantD height ys).ins.length m1) (.slice A2 (grantD height ys).outs.length m2) (.slice A3 (grantD height ys).ins.length m3) (.slice A4 (grantD height ys).outs.length m4) wr))
    case atStart => exact ⟨0, Nat.zero_le _, by omega, rfl, HS6⟩
    case round =>
      obtain ⟨k, hk, hgg, rfl, HK⟩ := hrel
      by_cases hlt : k < ys.length
      · have hltz : (k : Int) < (ys.length : Int) := by omega
        have hd : decide (k < ys.length) = true := decide_eq_true hlt
        obtain ⟨g, cur, rfl, h1, h2, hgh, hall⟩ : ∃ g cur, B = some ⟨g, 0, none⟩ ∧ w.heap.size + 3 ≤ g ∧ g < w1.heap.size ∧ wr.heap[g]? = some (.cells cur 52 (0, 0)) ∧ ∀ j, j < ys.length → (∃ q, wr.cell? ⟨g, j * 2, none⟩ = some (.int .i64 q)) ∧ (∃ s : ByteArray, wr.cell? ⟨g, j * 2 + 1, none⟩ = some (.string s) ∧ s.size ≤ 64 + k) := by
          rcases HK.out.own with h0 | h
          · omega
          · exact h
        obtain ⟨_, ⟨s, d1, hs⟩⟩ := hall k hlt
        have fz := free_of hgh (k * 2 + 1)
        have hsz : (s ++ (⟨#[120]⟩ : ByteArray)).size ≤ 64 + (k + 1) := by simp [ByteArray.size_append]; have : (⟨#[120]⟩ : ByteArray).size = 1 := rfl; omega
        have hadd : ∀ W : World, (Op.stringOp .add s ⟨#[120]⟩).run Try.prog W = .ok (.string (s ++ ⟨#[120]⟩)) W := fun W => run_string_add_sum (w := W) s ⟨#[120]⟩ (by have : (⟨#[120]⟩ : ByteArray).size = 1 := rfl; omega)
        have HSZ := Lib.hid hsz
        clear hall hgh hs hsz
        go_wp2_with fail
        go_roundg (ys.length - (k + 1))
        case measure => omega
        case rel => exact ⟨k + 1, by omega, by omega, by go_num, HK.out.write ⟨h1, h2⟩ (by omega) _ HSZ.out⟩
      · have hltz : ¬ (k : Int) < (ys.length : Int) := by omega
        obtain ⟨a0, a1, a2, a3⟩ := HK.out.b5
        obtain ⟨c0, c1, c2, c3⟩ := HK.out.b6
        go_wp2_with fail
        have h20 := rsame_any (grantD height ys) (grantD height ys) _ _ _ _ wr _ _ _ _ HK.out.t5 HK.out.t6 (Nat.le_refl _) (Nat.le_refl _) HGOK.out
        rw [txB_refl] at h20
        refine h20.mono ?_
        rintro e w7 ⟨rfl, hb7⟩
        go_wp2_with fail
        go_ret
        exact ⟨rfl, below_next HK.out.bel HK.out.bel.size hb7⟩

end Go.Proofs.Ytnljicongmknhaa
