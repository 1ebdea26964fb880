/-
  The statement TxCounts, walked.
-/
import Derived.Test.YtnljicongmknhaaCnt
import Derived.Test.YtnljicongmknhaaRchk
import Derived.Deep.RegionLawGrows
import Derived.BigRegion
namespace Go.Proofs.Ytnljicongmknhaa
open Go.RowKit

set_option maxHeartbeats 4000000 in
set_option maxRecDepth 100000 in
theorem counts_law (a b c : Int) (ha : 0 ≤ a ∧ a ≤ 65535) (hb : 0 ≤ b ∧ b ≤ 65535) (hc : 0 ≤ c ∧ c ≤ 65535) (w : World) :
    Calls Try.prog 4 #[.int .u16 a, .int .u16 b, .int .u16 c] w fun e w' => e = .returned (.bool true) ∧ Below w.heap.size w w' := by
  obtain ⟨n1, hn1, hn2⟩ : ∃ n : Nat, a.tmod 260 = (n : Int) ∧ n < 260 := by
    have h1 := Int.tmod_nonneg 260 ha.1
    have h2 := Int.tmod_lt_of_pos a (b := 260) (by omega)
    exact ⟨(a.tmod 260).toNat, by omega, by omega⟩
  obtain ⟨m1, hm1, hm2⟩ : ∃ n : Nat, b.tmod 260 = (n : Int) ∧ n < 260 := by
    have h1 := Int.tmod_nonneg 260 hb.1
    have h2 := Int.tmod_lt_of_pos b (b := 260) (by omega)
    exact ⟨(b.tmod 260).toNat, by omega, by omega⟩
  obtain ⟨k9, hk1, hk2⟩ : ∃ n : Nat, c.tmod 7 = (n : Int) ∧ n < 7 := by
    have h1 := Int.tmod_nonneg 7 hc.1
    have h2 := Int.tmod_lt_of_pos c (b := 7) (by omega)
    exact ⟨(c.tmod 7).toNat, by omega, by omega⟩
  have v1 : IntKind.u16.wrap (n1 : Int) = n1 := by rw [IntKind.wrap_u16]; omega
  have v2 : IntKind.u16.wrap (m1 : Int) = m1 := by rw [IntKind.wrap_u16]; omega
  have v3 : IntKind.u16.wrap (k9 : Int) = k9 := by rw [IntKind.wrap_u16]; omega
  have v4 : IntKind.i64.wrap (n1 : Int) = n1 := IntWalk.i64_in _ (by omega)
  have v5 : IntKind.i64.wrap (m1 : Int) = m1 := IntWalk.i64_in _ (by omega)
  have v6 : IntKind.i64.wrap (k9 : Int) = k9 := IntWalk.i64_in _ (by omega)
  obtain ⟨i43, hi43, x0, x1, x2⟩ := info_parts info43
  have hmk := make_strs k9 (by omega)
  go_enter Try.func4, Try.ntmps4
  go_wp2_with fail
  go_loopg [11, 23] n1 (fun gg _ s wr => ∃ (k : Nat) (ys : List InD) (A : Option Addr) (ca : Nat), k ≤ n1 ∧ n1 - k ≤ gg ∧ s = .int .i64 k ∧ ys.length = k ∧ Hid (CntS w k9 ys (.slice A k ca) wr))
  case atStart =>
    refine ⟨0, [], none, 0, Nat.zero_le _, by omega, rfl, rfl, ⟨Open.new _ _ _ _ _ _, InsOwn.nil _ _ _, CntL.nil _, (Below.refl _ _).alloc (Nat.le_refl _) _, by simp⟩⟩
  case round =>
    obtain ⟨k, ys, A, ca, hk, hg, rfl, hyl, HS⟩ := hrel
    obtain ⟨⟨b0, b1, b2, b3⟩, fz⟩ := HS.out.box
    have f1 := fz 1
    have zr := HS.out.lt
    by_cases hlt : k < n1
    · have k1 : (k : Int) < (n1 : Int) := by omega
      have k2 : decide (k < n1) = true := decide_eq_true hlt
      have u1 : IntKind.u32.wrap (k : Int) = k := by rw [IntKind.wrap_u32]; omega
      obtain ⟨cells, hcells⟩ := HS.out.ins
      rw [hyl] at hcells
      have HCE := Lib.hid hcells
      have CB := Lib.hid (show ∀ W, Below wr.heap.size wr W → W.cell? ⟨w.heap.size, 1, none⟩ = some (.slice A k ca) ∧ W.frozen? ⟨w.heap.size, 1, none⟩ = false from fun W hW => ⟨(hW.cell (p := ⟨w.heap.size, 1, none⟩) zr).trans b1, (hW.frozen (p := ⟨w.heap.size, 1, none⟩) zr).trans f1⟩)
      have OB := Lib.hid (own_block hcells.1.1)
      have D0 := Lib.hid ((Below.refl wr.heap.size wr).drew)
      clear hcells fz b0 b2 b3
      go_upto_region 6 with (fail)
      go_region_law (first
          | (refine step_append_lies _ rfl _ _ 23 rfl (w.heap.size + 1) 43 i43 _ 4 56 Try.underlying23 hi43 x0 x1 x2 rfl (by decide) (.slice A k ca) k cells rfl (by refine own_below HCE.out.1.1 ?_; repeat (first | (with_reducible exact HB3.out) | (with_reducible refine Below.drew ?_) | (with_reducible refine Below.alloc ?_ (by first | omega | (simp; done) | (simp; omega)) _))) ⟨_, 0, none⟩ 1 1 [.string s', .int .u32 (k : Int), .int .u32 0, .slice (some ⟨_, 0, none⟩) k9 k9] rfl rfl (by first | exact news4 _ _ (by simp) _ _ _ _ _ | exact news4 _ _ rfl _ _ _ _ _) (by intro u hu; simp at hu; rcases hu with rfl | rfl | rfl | rfl <;> rfl) (by omega) (by unfold maxLen; omega) (by omega) (by first | omega | (simp; omega)) _ rfl ?_; intro gn cap2 w10 hown2 hgrow hat hlt2; obtain ⟨y1, yf⟩ := cnt_far hgrow (by repeat (first | (with_reducible exact HB3.out) | (with_reducible refine Below.drew ?_) | (with_reducible refine Below.alloc ?_ (by first | omega | (simp; done) | (simp; omega)) _))) OB.out zr ⟨b1, f1⟩; have HOWN2 := Lib.hid hown2; have HGR := Lib.hid hgrow; clear hown2 hgrow hat hlt2)
          | (go_simp; go_at_call 18; refine (id_any _ _).mono ?_; rintro e w3 ⟨s', rfl, hs', hb3⟩; have HS3 := Lib.hid hs'; have HB3 := Lib.hid (show Below wr.heap.size wr w3 from by first | exact hb3 | exact below_next D0.out D0.out.size hb3 | exact below_next ((D0.out.alloc D0.out.size _)) (by first | omega | (simp; done) | (simp; omega)) hb3); have c1 := CB.out w3 HB3.out; obtain ⟨c1, c2⟩ := c1; have z3 := HB3.out.size; have z4 : w.heap.size < w3.heap.size := (by omega); have HL3 := Lib.hid hb3; clear hs' hb3))
      all_goals go_wp2_with fail
      all_goals go_roundg (n1 - (k + 1))
      all_goals first
        | omega
        | exact ⟨k + 1, _, some ⟨gn, 0, none⟩, cap2, by omega, by omega, by go_num, by simp [hyl], CntS.push HS.out hyl (by repeat (first | (with_reducible exact HB3.out) | (with_reducible refine Below.drew ?_) | (with_reducible refine Below.alloc ?_ (by first | omega | (simp; done) | (simp; omega)) _))) (by omega) HS3.out HCE.out (by omega) (by first | exact (Below.heap_alloc _ _ _ (by simp)).trans (heap_alloc_new _ _) | exact (Below.heap_alloc _ _ _ (by have := HL3.out.size; simp at this; omega)).trans ((HL3.out.block _ (by simp)).trans (heap_alloc_new wr _))) HGR.out HOWN2.out⟩
    · have k1 : ¬ (k : Int) < (n1 : Int) := by omega
      obtain rfl : k = n1 := by omega
      have hmo := make_outs m1 (by omega)
      have f2 := fz 2
      obtain ⟨hz8, hb8⟩ := cnt_out (m := m1) HS.out hyl
      have HALL := Lib.hid HS.out.all
      have HOK := Lib.hid (HS.out.all.ok (by omega) (by omega) (m := m1) (by omega))
      obtain ⟨w8, hw8⟩ : ∃ w8, w8 = (wr.setCell ⟨w.heap.size, 2, none⟩ (.slice (some ⟨wr.heap.size, 0, none⟩) m1 m1)).alloc (.cells (mkO m1) 52) := ⟨_, rfl⟩
      rw [← hw8] at hz8 hb8
      have Z8 := Lib.hid hz8
      have K8 := Lib.hid hb8
      have HW8 := Lib.hid hw8
      clear hz8 hb8 hw8
      go_upto_region 9 with (fail)
      rw [show World.alloc _ _ = w8 from HW8.out.symm]
      have z8 := Z8.out.lt
      obtain ⟨d0, d1, d2, d3⟩ := Z8.out.box
      have r0 : ∀ x : After w8, x.val.cell? ⟨w.heap.size, 0, none⟩ = some (.int .u32 2) := fun x => (x.ok.cell (p := ⟨w.heap.size, 0, none⟩) z8).trans d0
      have r1 : ∀ x : After w8, x.val.cell? ⟨w.heap.size, 1, none⟩ = some (.slice A k ca) := fun x => (x.ok.cell (p := ⟨w.heap.size, 1, none⟩) z8).trans d1
      have r2 : ∀ x : After w8, x.val.cell? ⟨w.heap.size, 2, none⟩ = some (.slice (some ⟨wr.heap.size, 0, none⟩) m1 m1) := fun x => (x.ok.cell (p := ⟨w.heap.size, 2, none⟩) z8).trans d2
      have r3 : ∀ x : After w8, x.val.cell? ⟨w.heap.size, 3, none⟩ = some (.int .u32 0) := fun x => (x.ok.cell (p := ⟨w.heap.size, 3, none⟩) z8).trans d3
      have hne : Nonempty (After w8) := ⟨⟨w8, Below.refl _ _⟩⟩
      have C13 := Lib.hid (show ∀ x : After w8, Calls Try.prog 13 #[.agg #[.int .u32 2, .slice A k ca, .slice (some ⟨wr.heap.size, 0, none⟩) m1 m1, .int .u32 0]] x.val fun e w' => e = .returned (.int .i64 (checkD ⟨2, ys, List.replicate m1 ⟨0, ⟨#[]⟩⟩, 0⟩)) ∧ Below x.val.heap.size x.val w' from fun x => check_any ⟨2, ys, List.replicate m1 ⟨0, ⟨#[]⟩⟩, 0⟩ _ _ x.val 0 w8.heap.size (Z8.out.tx.keep (Kept.of_below x.ok (Nat.le_refl _))) x.ok.size HOK.out)
      have C14 := Lib.hid (show ∀ x : After w8, Calls Try.prog 14 #[.agg #[.int .u32 2, .slice A k ca, .slice (some ⟨wr.heap.size, 0, none⟩) m1 m1, .int .u32 0]] x.val fun e w' => e = .returned (.int .i64 (checkD ⟨2, ys, List.replicate m1 ⟨0, ⟨#[]⟩⟩, 0⟩)) ∧ Below x.val.heap.size x.val w' from fun x => rcheck_any ⟨2, ys, List.replicate m1 ⟨0, ⟨#[]⟩⟩, 0⟩ _ _ x.val 0 w8.heap.size (Z8.out.tx.keep (Kept.of_below x.ok (Nat.le_refl _))) x.ok.size HOK.out)
      have CD1 := Lib.hid (fun hb => cnt_bad (m := m1) HALL.out hb)
      have CD0 := Lib.hid (cnt_good (m := m1) HALL.out)
      obtain ⟨nI, hnI⟩ : ∃ x : Int, (k : Int) = x := ⟨_, rfl⟩
      obtain ⟨mI, hmI⟩ : ∃ x : Int, (m1 : Int) = x := ⟨_, rfl⟩
      obtain ⟨kI, hkI⟩ : ∃ x : Int, (k9 : Int) = x := ⟨_, rfl⟩
      rw [hnI, hmI, hkI]
      clear d0 d1 d2 d3 b0 b1 b2 b3 v1 v2 v3 v4 v5 v6 hmk hmo f1 f2 fz k1
      by_cases h1 : 1 ≤ nI
      case neg =>
        have g1 : decide (1 ≤ nI) = false := decide_eq_false h1
        have e2 : (checkD ⟨2, ys, List.replicate m1 ⟨0, ⟨#[]⟩⟩, 0⟩ == 0) = false := by rw [CD1.out (by omega)]; rfl
        clear CD1
        generalize checkD ⟨2, ys, List.replicate m1 ⟨0, ⟨#[]⟩⟩, 0⟩ = cd at C13 C14 e2
        have e1 : (cd == cd) = true := by simp
        refine wp_region_after (by kernel_rfl) (by kernel_rfl) ?_
        repeat (go_big_quiet_step ((first | (go_at_call 17; exact After.call _ (wakes_any _)) | (go_at_call 13; exact After.call _ (C13.out _)) | (go_at_call 14; exact After.call _ (C14.out _)))))
        refine wpQuiet_nil ?_
        rintro _ ⟨⟨W, hW⟩, rfl⟩
        go_wp2_with fail
        go_ret
        exact ⟨rfl, below_next K8.out K8.out.size hW⟩
      have g1 : decide (1 ≤ nI) = true := decide_eq_true h1
      by_cases h2 : nI ≤ 256
      case neg =>
        have g2 : decide (nI ≤ 256) = false := decide_eq_false h2
        have e2 : (checkD ⟨2, ys, List.replicate m1 ⟨0, ⟨#[]⟩⟩, 0⟩ == 0) = false := by rw [CD1.out (by omega)]; rfl
        clear CD1
        generalize checkD ⟨2, ys, List.replicate m1 ⟨0, ⟨#[]⟩⟩, 0⟩ = cd at C13 C14 e2
        have e1 : (cd == cd) = true := by simp
        refine wp_region_after (by kernel_rfl) (by kernel_rfl) ?_
        repeat (go_big_quiet_step ((first | (go_at_call 17; exact After.call _ (wakes_any _)) | (go_at_call 13; exact After.call _ (C13.out _)) | (go_at_call 14; exact After.call _ (C14.out _)))))
        refine wpQuiet_nil ?_
        rintro _ ⟨⟨W, hW⟩, rfl⟩
        go_wp2_with fail
        go_ret
        exact ⟨rfl, below_next K8.out K8.out.size hW⟩
      have g2 : decide (nI ≤ 256) = true := decide_eq_true h2
      by_cases h3 : 1 ≤ mI
      case neg =>
        have g3 : decide (1 ≤ mI) = false := decide_eq_false h3
        have e2 : (checkD ⟨2, ys, List.replicate m1 ⟨0, ⟨#[]⟩⟩, 0⟩ == 0) = false := by rw [CD1.out (by omega)]; rfl
        clear CD1
        generalize checkD ⟨2, ys, List.replicate m1 ⟨0, ⟨#[]⟩⟩, 0⟩ = cd at C13 C14 e2
        have e1 : (cd == cd) = true := by simp
        refine wp_region_after (by kernel_rfl) (by kernel_rfl) ?_
        repeat (go_big_quiet_step ((first | (go_at_call 17; exact After.call _ (wakes_any _)) | (go_at_call 13; exact After.call _ (C13.out _)) | (go_at_call 14; exact After.call _ (C14.out _)))))
        refine wpQuiet_nil ?_
        rintro _ ⟨⟨W, hW⟩, rfl⟩
        go_wp2_with fail
        go_ret
        exact ⟨rfl, below_next K8.out K8.out.size hW⟩
      have g3 : decide (1 ≤ mI) = true := decide_eq_true h3
      by_cases h4 : mI ≤ 256
      case neg =>
        have g4 : decide (mI ≤ 256) = false := decide_eq_false h4
        have e2 : (checkD ⟨2, ys, List.replicate m1 ⟨0, ⟨#[]⟩⟩, 0⟩ == 0) = false := by rw [CD1.out (by omega)]; rfl
        clear CD1
        generalize checkD ⟨2, ys, List.replicate m1 ⟨0, ⟨#[]⟩⟩, 0⟩ = cd at C13 C14 e2
        have e1 : (cd == cd) = true := by simp
        refine wp_region_after (by kernel_rfl) (by kernel_rfl) ?_
        repeat (go_big_quiet_step ((first | (go_at_call 17; exact After.call _ (wakes_any _)) | (go_at_call 13; exact After.call _ (C13.out _)) | (go_at_call 14; exact After.call _ (C14.out _)))))
        refine wpQuiet_nil ?_
        rintro _ ⟨⟨W, hW⟩, rfl⟩
        go_wp2_with fail
        go_ret
        exact ⟨rfl, below_next K8.out K8.out.size hW⟩
      have g4 : decide (mI ≤ 256) = true := decide_eq_true h4
      by_cases h5 : kI ≤ 4
      case neg =>
        have g5 : decide (kI ≤ 4) = false := decide_eq_false h5
        have e2 : (checkD ⟨2, ys, List.replicate m1 ⟨0, ⟨#[]⟩⟩, 0⟩ == 0) = false := by rw [CD1.out (by omega)]; rfl
        clear CD1
        generalize checkD ⟨2, ys, List.replicate m1 ⟨0, ⟨#[]⟩⟩, 0⟩ = cd at C13 C14 e2
        have e1 : (cd == cd) = true := by simp
        refine wp_region_after (by kernel_rfl) (by kernel_rfl) ?_
        repeat (go_big_quiet_step ((first | (go_at_call 17; exact After.call _ (wakes_any _)) | (go_at_call 13; exact After.call _ (C13.out _)) | (go_at_call 14; exact After.call _ (C14.out _)))))
        refine wpQuiet_nil ?_
        rintro _ ⟨⟨W, hW⟩, rfl⟩
        go_wp2_with fail
        go_ret
        exact ⟨rfl, below_next K8.out K8.out.size hW⟩
      have g5 : decide (kI ≤ 4) = true := decide_eq_true h5
      have e2 : (checkD ⟨2, ys, List.replicate m1 ⟨0, ⟨#[]⟩⟩, 0⟩ == 0) = true := by rw [CD0.out (by omega) (by omega) (by omega) (by omega) (by omega)]; rfl
      clear CD1
      generalize checkD ⟨2, ys, List.replicate m1 ⟨0, ⟨#[]⟩⟩, 0⟩ = cd at C13 C14 e2
      have e1 : (cd == cd) = true := by simp
      refine wp_region_after (by kernel_rfl) (by kernel_rfl) ?_
      repeat (go_big_quiet_step ((first | (go_at_call 17; exact After.call _ (wakes_any _)) | (go_at_call 13; exact After.call _ (C13.out _)) | (go_at_call 14; exact After.call _ (C14.out _)))))
      refine wpQuiet_nil ?_
      rintro _ ⟨⟨W, hW⟩, rfl⟩
      go_wp2_with fail
      go_ret
      exact ⟨rfl, below_next K8.out K8.out.size hW⟩

end Go.Proofs.Ytnljicongmknhaa
