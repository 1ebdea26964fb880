/-
  The statement TxCopies, walked.
-/
import Derived.Test.YtnljicongmknhaaCmem
import Derived.Deep.RegionHeld3
import Derived.Test.YtnljicongmknhaaFit
import Derived.Laws.Concat
namespace Go.Proofs.Ytnljicongmknhaa
open Go.RowKit

set_option maxHeartbeats 8000000 in
set_option maxRecDepth 100000 in
theorem copies_law (t u : TxD) (vi vo ui uo : Value) (same : Bool) (w : World) (ht : TxAt w 0 w.heap.size vi vo t) (hu : TxAt w 0 w.heap.size ui uo u) (hct : t.Came) (hcu : u.Came) :
    Calls Try.prog 7 #[.agg #[.int .u32 t.ver, vi, vo, .int .u32 t.lock], .agg #[.int .u32 u.ver, ui, uo, .int .u32 u.lock], .bool same] w fun e w' => e = .returned (.bool true) ∧ Below w.heap.size w w' := by
  obtain ⟨W0, hW0⟩ : ∃ W0, W0 = two w t u vi vo ui uo := ⟨_, rfl⟩
  have z0 : W0.heap.size = w.heap.size + 2 := by rw [hW0]; simp [two]
  have b0 : Below w.heap.size w W0 := by rw [hW0]; exact ((Below.refl w.heap.size w).alloc (Nat.le_refl _) _).alloc (by simp) _
  have hbx : Boxes w W0 t u vi vo ui uo := by
    rw [hW0]
    refine ⟨?_, ?_⟩
    · have h := Boxed.new w (.int .u32 t.ver) vi vo (.int .u32 t.lock) 26
      exact h.below (by simp) ((Below.refl _ _).alloc (Nat.le_refl _) _)
    · have h := Boxed.new (w.alloc (.cells #[.int .u32 t.ver, vi, vo, .int .u32 t.lock] 26)) (.int .u32 u.ver) ui uo (.int .u32 u.lock) 26
      simpa [two] using h
  have HCT := Lib.hid (cut_gives hbx z0 (ht.keep (Kept.of_below b0 (Nat.le_refl _))) hct)
  have HCU := Lib.hid (cut_gives hbx z0 (hu.keep (Kept.of_below b0 (Nat.le_refl _))) hcu)
  have HBX := Lib.hid hbx
  have Z0 := Lib.hid z0
  have B0 := Lib.hid b0
  have HW0 := Lib.hid hW0
  have okt := Lib.hid (cut_ok hct (m := 12) (by omega))
  have oku := Lib.hid (cut_ok hcu (m := 12) (by omega))
  obtain ⟨⟨t0, t1, t2, t3⟩, ⟨u0, u1, u2, u3⟩⟩ := hbx
  have D0 := Lib.hid (Below.refl W0.heap.size W0)
  clear hW0 z0 b0 ht hu hct hcu
  have q0 : w.heap.size < W0.heap.size := by have := Z0.out; omega
  have q1 : w.heap.size + 1 < W0.heap.size := by have := Z0.out; omega
  have na0 : ¬ W0.heap.size = w.heap.size := (by omega)
  have na1 : ¬ w.heap.size = W0.heap.size := (by omega)
  have na2 : ¬ W0.heap.size = w.heap.size + 1 := (by omega)
  have na3 : ¬ w.heap.size + 1 = W0.heap.size := (by omega)
  have na4 : ¬ W0.heap.size + 1 = w.heap.size := (by omega)
  have na5 : ¬ w.heap.size = W0.heap.size + 1 := (by omega)
  have na6 : ¬ W0.heap.size + 1 = w.heap.size + 1 := (by omega)
  have na7 : ¬ w.heap.size + 1 = W0.heap.size + 1 := (by omega)
  go_enter Try.func7, Try.ntmps7
  go_upto_region 1 with (fail)
  rw [show World.alloc (World.alloc w _) _ = W0 from HW0.out.symm]
  go_cut [7, 8] (fun a b wx => CopA w W0 t u (cutTx 12 t) (cutTx 12 u) vi vo ui uo a b wx)
  case first =>
    go_region_held3 (fun w' => w'.cell? ⟨w.heap.size, 0, none⟩ = some (.int .u32 t.ver) ∧ w'.cell? ⟨w.heap.size, 1, none⟩ = some vi ∧ w'.cell? ⟨w.heap.size, 2, none⟩ = some vo ∧ w'.cell? ⟨w.heap.size, 3, none⟩ = some (.int .u32 t.lock) ∧ w'.cell? ⟨w.heap.size + 1, 0, none⟩ = some (.int .u32 u.ver) ∧ w'.cell? ⟨w.heap.size + 1, 1, none⟩ = some ui ∧ w'.cell? ⟨w.heap.size + 1, 2, none⟩ = some uo ∧ w'.cell? ⟨w.heap.size + 1, 3, none⟩ = some (.int .u32 u.lock))
      (go_keep)
      (first
        | (go_at_call 9; ((with_reducible refine (HCT.out _ (by repeat (first | exact D0.out | refine Below.drew ?_ | refine Below.alloc ?_ (by first | omega | (simp; done) | (simp; omega)) _))).mono ?_); rintro e w1 ⟨Ai, Ao, ci, co, rfl, hown1, hb1, hB1, ⟨⟨s0, s1, s2, s3⟩, ⟨s4, s5, s6, s7⟩⟩, hz1⟩; have HB1 := Lib.hid hB1; have HL1 := Lib.hid hb1; have HO1 := Lib.hid hown1; obtain ⟨rc1, rf1⟩ := bcell hb1; (try simp at hz1); have g1 : W0.heap.size < w1.heap.size := (by omega); have g2 : W0.heap.size + 1 < w1.heap.size := (by omega); have g3 := hB1.size; have nb0 : ¬ w1.heap.size = w.heap.size := (by omega); have nb1 : ¬ w.heap.size = w1.heap.size := (by omega); have nb2 : ¬ w1.heap.size = w.heap.size + 1 := (by omega); have nb3 : ¬ w.heap.size + 1 = w1.heap.size := (by omega); have nb4 : ¬ w1.heap.size + 1 = w.heap.size := (by omega); have nb5 : ¬ w.heap.size = w1.heap.size + 1 := (by omega); have nb6 : ¬ w1.heap.size + 1 = w.heap.size + 1 := (by omega); have nb7 : ¬ w.heap.size + 1 = w1.heap.size + 1 := (by omega); clear hB1 hb1 hown1))
        | (go_at_call 9; ((with_reducible refine (HCU.out _ (by repeat (first | exact HB1.out | refine Below.drew ?_ | refine Below.alloc ?_ (by first | omega | (simp; done) | (simp; omega)) _))).mono ?_); rintro e w2 ⟨Bi, Bo, di, dz, rfl, hown2, hb2, hB2, ⟨⟨s0, s1, s2, s3⟩, ⟨s4, s5, s6, s7⟩⟩, hz2⟩; have HB2 := Lib.hid hB2; have HL2 := Lib.hid hb2; have HO2 := Lib.hid hown2; obtain ⟨rc2, rf2⟩ := bcell hb2; (try simp at hz2); have g4 : W0.heap.size < w2.heap.size := (by omega); have g5 : W0.heap.size + 1 < w2.heap.size := (by omega); have g6 : w1.heap.size < w2.heap.size := (by omega); have g7 : w1.heap.size + 1 < w2.heap.size := (by omega); have nc0 : ¬ w2.heap.size = w.heap.size := (by omega); have nc1 : ¬ w.heap.size = w2.heap.size := (by omega); have nc2 : ¬ w2.heap.size = w.heap.size + 1 := (by omega); have nc3 : ¬ w.heap.size + 1 = w2.heap.size := (by omega); have nc4 : ¬ w2.heap.size + 1 = w.heap.size := (by omega); have nc5 : ¬ w.heap.size = w2.heap.size + 1 := (by omega); have nc6 : ¬ w2.heap.size + 1 = w.heap.size + 1 := (by omega); have nc7 : ¬ w.heap.size + 1 = w2.heap.size + 1 := (by omega); clear hB2 hb2 hown2)))
    all_goals go_wp2_with fail
    all_goals go_meet
    all_goals clear na0 na1 na2 na3 na4 na5 na6 na7 nb0 nb1 nb2 nb3 nb4 nb5 nb6 nb7 nc0 nc1 nc2 nc3 nc4 nc5 nc6 nc7 rc1 rf1 rc2 rf2 s0 s1 s2 s3 s4 s5 s6 s7 t0 t1 t2 t3 u0 u1 u2 u3
    all_goals with_reducible first
      | exact cend0 HO1.out HO2.out HL1.out HL2.out HBX.out Z0.out
      | exact cend1 HO1.out HO2.out HL1.out HL2.out HBX.out Z0.out
      | exact cend2 HO1.out HO2.out HL1.out HL2.out HBX.out Z0.out
      | exact cend3 HO1.out HO2.out HL1.out HL2.out HBX.out Z0.out
      | exact cend4 HO1.out HO2.out HL1.out HL2.out HBX.out Z0.out
      | exact cend5 HO1.out HO2.out HL1.out HL2.out HBX.out Z0.out
      | exact cend6 HO1.out HO2.out HL1.out HL2.out HBX.out Z0.out
      | exact cend7 HO1.out HO2.out HL1.out HL2.out HBX.out Z0.out
      | exact cend8 HO1.out HO2.out HL1.out HL2.out HBX.out Z0.out
      | exact cend9 HO1.out HO2.out HL1.out HL2.out HBX.out Z0.out
      | exact cend10 HO1.out HO2.out HL1.out HL2.out HBX.out Z0.out
      | exact cend11 HO1.out HO2.out HL1.out HL2.out HBX.out Z0.out
  case rest =>
    obtain ⟨ga, gb, lo, hi, Ai, Ao, Bi, Bo, ci, co, di, dz, rfl, rfl, hst⟩ := hcut
    clear na0 na1 na2 na3 na4 na5 na6 na7 t0 t1 t2 t3 u0 u1 u2 u3
    have HS := Lib.hid hst
    clear hst
    have TT := Lib.hid (txB_refl (cutTx 12 t))
    have VE := Lib.hid (show (cutTx 12 t).ver = t.ver ∧ (cutTx 12 t).lock = t.lock from ⟨rfl, rfl⟩)
    go_upto_if 18 with (fail)
    go_cut [] (fun wx => ∃ (b : TxD) (Bi Bo : Option Addr) (di dz : Nat), b.Ok ∧ CopT w W0 t u (cutTx 12 t) b vi vo ui uo ga gb lo hi (.slice Ai (cutTx 12 t).ins.length ci) (.slice Ao (cutTx 12 t).outs.length co) (.slice Bi b.ins.length di) (.slice Bo b.outs.length dz) wx)
    case first =>
      cases same
      · go_wp2_with fail
        go_meet
        exact ⟨_, _, _, _, _, oku.out, CopT.of_s HS.out Z0.out⟩
      · obtain ⟨⟨t0, t1, t2, t3⟩, _⟩ := HS.out.bx
        have hlb := HS.out.lb
        obtain ⟨⟨p0, p1, p2, p3⟩, fp⟩ := HS.out.ob
        go_wp2_with fail
        refine (HCT.out _ HS.out.bel).mono ?_
        rintro e w3 ⟨Ci, Co, ei, ez, rfl, ⟨hi3, ho3⟩, hb3, _, _, hz3⟩
        obtain ⟨⟨p0', p1', p2', p3'⟩, fp'⟩ := HS.out.ob.keep (hb3.block _ hlb.2)
        have f0 := fp' 0
        have f1 := fp' 1
        have f2 := fp' 2
        have f3 := fp' 3
        have HT3 := Lib.hid (show TxAt w3 wc.heap.size w3.heap.size (.slice Ci (cutTx 12 t).ins.length ei) (.slice Co (cutTx 12 t).outs.length ez) (cutTx 12 t) from ⟨hi3.ins.wide (by omega) (Nat.le_refl _), ho3.outs.wide (by omega) (Nat.le_refl _)⟩)
        have HB3 := Lib.hid hb3
        clear hi3 ho3 hb3 t0 t1 t2 t3 p0 p1 p2 p3 fp fp'
        go_wp2_with fail
        go_meet
        exact ⟨_, _, _, _, _, okt.out, CopT.same HS.out Z0.out HB3.out HT3.out⟩
    case rest =>
      obtain ⟨b, Bi, Bo, di, dz, hbo, hst⟩ := hcut
      clear HS
      have HS := Lib.hid hst
      have HBO := Lib.hid hbo
      clear hst hbo
      generalize hA : cutTx 12 t = a at HS okt TT VE
      have HA := Lib.hid hA
      clear hA
      have la := HS.out.la
      obtain ⟨a0, a1, a2, a3⟩ := HS.out.oa
      go_wp2_with fail
      refine (copy_any a _ _ wc lo hi ⟨HS.out.ia.ins, HS.out.ja.outs⟩ HS.out.hh okt.out).mono ?_
      rintro e w3 ⟨vi9, vo9, rfl, ht9, hb3⟩
      obtain ⟨A9, c9, rfl⟩ := ht9.1.form
      obtain ⟨B9, d9, rfl⟩ := ht9.2.form
      obtain ⟨w4, hw4⟩ : ∃ w4, w4 = w3.alloc (.cells #[.int .u32 a.ver, .slice A9 a.ins.length c9, .slice B9 a.outs.length d9, .int .u32 a.lock] 26) := ⟨_, rfl⟩
      have hb4 : Below w3.heap.size w3 w4 := by rw [hw4]; exact (Below.refl _ _).alloc (Nat.le_refl _) _
      have z4 : w4.heap.size = w3.heap.size + 1 := by rw [hw4]; simp
      have bx9 : Boxed w4 w3.heap.size (.int .u32 a.ver) (.slice A9 a.ins.length c9) (.slice B9 a.outs.length d9) (.int .u32 a.lock) := by rw [hw4]; exact Boxed.new _ _ _ _ _ _
      have z3 := hb3.size
      have hh := HS.out.hh
      have T9 := Lib.hid (show TxAt w4 hi w4.heap.size (.slice A9 a.ins.length c9) (.slice B9 a.outs.length d9) a from (ht9.keep (Kept.of_below hb4 (Nat.le_refl _))).wide hh (by omega))
      have HS4 := Lib.hid ((HS.out.below hb3).below hb4)
      have HW4 := Lib.hid hw4
      have BX9 := Lib.hid bx9
      have Z4 := Lib.hid z4
      have Z3 := Lib.hid z3
      clear ht9 hb3 hb4 hw4 a0 a1 a2 a3 bx9 z3 z4 hh la
      go_upto_region 5 with (fail)
      rw [show World.alloc w3 _ = w4 from HW4.out.symm]
      have la := HS4.out.la
      have lb := HS4.out.lb
      have l9 : w3.heap.size < w4.heap.size := by have := Z4.out; omega
      have ra0 : ∀ x : After w4, x.val.cell? ⟨ga, 0, none⟩ = some (.int .u32 a.ver) := fun x => (x.ok.cell (p := ⟨ga, 0, none⟩) la).trans HS4.out.oa.1
      have ra1 : ∀ x : After w4, x.val.cell? ⟨ga, 1, none⟩ = some (.slice Ai a.ins.length ci) := fun x => (x.ok.cell (p := ⟨ga, 1, none⟩) la).trans HS4.out.oa.2.1
      have ra2 : ∀ x : After w4, x.val.cell? ⟨ga, 2, none⟩ = some (.slice Ao a.outs.length co) := fun x => (x.ok.cell (p := ⟨ga, 2, none⟩) la).trans HS4.out.oa.2.2.1
      have ra3 : ∀ x : After w4, x.val.cell? ⟨ga, 3, none⟩ = some (.int .u32 a.lock) := fun x => (x.ok.cell (p := ⟨ga, 3, none⟩) la).trans HS4.out.oa.2.2.2
      have rb0 : ∀ x : After w4, x.val.cell? ⟨gb, 0, none⟩ = some (.int .u32 b.ver) := fun x => (x.ok.cell (p := ⟨gb, 0, none⟩) lb).trans HS4.out.ob.1
      have rb1 : ∀ x : After w4, x.val.cell? ⟨gb, 1, none⟩ = some (.slice Bi b.ins.length di) := fun x => (x.ok.cell (p := ⟨gb, 1, none⟩) lb).trans HS4.out.ob.2.1
      have rb2 : ∀ x : After w4, x.val.cell? ⟨gb, 2, none⟩ = some (.slice Bo b.outs.length dz) := fun x => (x.ok.cell (p := ⟨gb, 2, none⟩) lb).trans HS4.out.ob.2.2.1
      have rb3 : ∀ x : After w4, x.val.cell? ⟨gb, 3, none⟩ = some (.int .u32 b.lock) := fun x => (x.ok.cell (p := ⟨gb, 3, none⟩) lb).trans HS4.out.ob.2.2.2
      have rc0 : ∀ x : After w4, x.val.cell? ⟨w3.heap.size, 0, none⟩ = some (.int .u32 a.ver) := fun x => (x.ok.cell (p := ⟨w3.heap.size, 0, none⟩) l9).trans BX9.out.1
      have rc1 : ∀ x : After w4, x.val.cell? ⟨w3.heap.size, 1, none⟩ = some (.slice A9 a.ins.length c9) := fun x => (x.ok.cell (p := ⟨w3.heap.size, 1, none⟩) l9).trans BX9.out.2.1
      have rc2 : ∀ x : After w4, x.val.cell? ⟨w3.heap.size, 2, none⟩ = some (.slice B9 a.outs.length d9) := fun x => (x.ok.cell (p := ⟨w3.heap.size, 2, none⟩) l9).trans BX9.out.2.2.1
      have rc3 : ∀ x : After w4, x.val.cell? ⟨w3.heap.size, 3, none⟩ = some (.int .u32 a.lock) := fun x => (x.ok.cell (p := ⟨w3.heap.size, 3, none⟩) l9).trans BX9.out.2.2.2
      have hne : Nonempty (After w4) := ⟨⟨w4, Below.refl _ _⟩⟩
      have KA := Lib.hid (fun x : After w4 => (show TxAt x.val lo hi (.slice Ai a.ins.length ci) (.slice Ao a.outs.length co) a from TxAt.keep ⟨HS4.out.ia.ins, HS4.out.ja.outs⟩ (Kept.of_below x.ok HS4.out.hh)))
      have KB := Lib.hid (fun x : After w4 => HS4.out.tb.keep (Kept.of_below x.ok (Nat.le_refl _)))
      have KC := Lib.hid (fun x : After w4 => T9.out.keep (Kept.of_below x.ok (Nat.le_refl _)))
      have ZH := Lib.hid (fun x : After w4 => Nat.le_trans HS4.out.hh x.ok.size)
      have CE1 := Lib.hid (fun x : After w4 => equal_any a a _ _ _ _ x.val lo hi hi w4.heap.size (KA.out x) (KC.out x) (ZH.out x) x.ok.size okt.out)
      have CS1 := Lib.hid (fun x : After w4 => rsame_any a a _ _ _ _ x.val lo hi hi w4.heap.size (KA.out x) (KC.out x) (ZH.out x) x.ok.size okt.out)
      have CE2 := Lib.hid (fun x : After w4 => equal_any a b _ _ _ _ x.val lo hi 0 w4.heap.size (KA.out x) (KB.out x) (ZH.out x) x.ok.size okt.out)
      have CS2 := Lib.hid (fun x : After w4 => rsame_any a b _ _ _ _ x.val lo hi 0 w4.heap.size (KA.out x) (KB.out x) (ZH.out x) x.ok.size okt.out)
      have CE3 := Lib.hid (fun x : After w4 => equal_any b a _ _ _ _ x.val 0 w4.heap.size lo hi (KB.out x) (KA.out x) x.ok.size (ZH.out x) HBO.out)
      rw [TT.out] at CE1 CS1
      rw [txB_comm b a] at CE3
      generalize txB a b = tb at CE2 CS2 CE3
      have e1 : (tb != tb) = false := by simp
      refine wp_region_after (by kernel_rfl) (by kernel_rfl) ?_
      repeat (go_big_quiet_step ((first | (go_at_call 17; exact After.call _ (wakes_any _)) | (go_at_call 25; with_reducible exact After.call _ (CE1.out _)) | (go_at_call 20; with_reducible exact After.call _ (CS1.out _)) | (go_at_call 25; with_reducible exact After.call _ (CE2.out _)) | (go_at_call 20; with_reducible exact After.call _ (CS2.out _)) | (go_at_call 25; with_reducible exact After.call _ (CE3.out _)))))
      refine wpQuiet_nil ?_
      rintro _ ⟨x, rfl⟩
      have hW := x.ok
      obtain ⟨W, hWe⟩ : ∃ W, W = x.val := ⟨_, rfl⟩
      rw [← hWe] at hW ⊢
      clear hWe
      have HS5 := Lib.hid (HS4.out.below hW)
      have T5 := Lib.hid ((T9.out.keep (Kept.of_below hW (Nat.le_refl _))).wide (Nat.le_refl _) hW.size)
      have B5 := Lib.hid (BX9.out.below l9 hW)
      have l95 : w3.heap.size < W.heap.size := by have := hW.size; omega
      have h93 : hi ≤ w3.heap.size := by have := HS.out.hh; have := Z3.out; omega
      clear hW ra0 ra1 ra2 ra3 rb0 rb1 rb2 rb3 rc0 rc1 rc2 rc3 hne KA KB KC ZH CE1 CS1 CE2 CS2 CE3 e1 la lb l9
      obtain ⟨⟨t0, t1, t2, t3⟩, _⟩ := HS5.out.bx
      have zw : w.heap.size < W.heap.size := by have := HS5.out.bel.size; have := Z0.out; omega
      go_wp2_with fail
      refine (HCT.out W HS5.out.bel).mono ?_
      rintro e w6 ⟨Ci, Co, ei, ez, rfl, ⟨hi6, ho6⟩, hb6, _, _, hz6⟩
      rw [HA.out] at hi6 ho6 ⊢
      rw [← VE.out.1, ← VE.out.2]
      obtain ⟨w7, hw7⟩ : ∃ w7, w7 = w6.alloc (.cells #[.int .u32 a.ver, .slice Ci a.ins.length ei, .slice Co a.outs.length ez, .int .u32 a.lock] 26) := ⟨_, rfl⟩
      have hb7 : Below w6.heap.size w6 w7 := by rw [hw7]; exact (Below.refl _ _).alloc (Nat.le_refl _) _
      have z7 : w7.heap.size = w6.heap.size + 1 := by rw [hw7]; simp
      have bx10 : Boxed w7 w6.heap.size (.int .u32 a.ver) (.slice Ci a.ins.length ei) (.slice Co a.outs.length ez) (.int .u32 a.lock) := by rw [hw7]; exact Boxed.new _ _ _ _ _ _
      have z6 := hb6.size
      have HL := Lib.hid (show CopL w a ga lo hi Ai Ao ci co 128 w3.heap.size w6.heap.size (.slice A9 a.ins.length c9) (.slice B9 a.outs.length d9) (.slice Ci a.ins.length ei) (.slice Co a.outs.length ez) w7 from by
        have HS7 := (HS5.out.below hb6).below hb7
        have hh5 := HS5.out.hh
        have k67 : Kept 0 w6.heap.size w6 w7 := Kept.of_below hb7 (Nat.le_refl _)
        exact ⟨HS7.oa, MutI.of_own HS7.ia okt.out.2.2.1, MutO.of_own HS7.ja, (B5.out.below l95 hb6).below (by omega) hb7, bx10, (((T5.out.keep (Kept.of_below hb6 (Nat.le_refl _))).wide (Nat.le_refl _) z6).keep (Kept.of_below hb7 (Nat.le_refl _))).wide (Nat.le_refl _) (by omega),
          (TxAt.keep ⟨hi6.ins, ho6.outs⟩ (k67.mono (Nat.zero_le _) (Nat.le_refl _))).wide (by omega) (by omega), below_next B0.out B0.out.size HS7.bel, HS7.na, ⟨h93, by omega⟩, HS7.la, ⟨by omega, by omega⟩, by have := HS7.ll; have := Z0.out; omega⟩)
      have HW7 := Lib.hid hw7
      clear hi6 ho6 hb6 hz6 hb7 z7 bx10 z6 hw7 t0 t1 t2 t3 HS5 T5 B5 HS4 T9 BX9 HS zw
      go_upto_region 8 with (fail)
      rw [show World.alloc w6 _ = w7 from HW7.out.symm]
      obtain ⟨b0, b1, b2, b3⟩ := HL.out.b7
      have hn12 := okt.out.1
      have hm12 := okt.out.2.1
      go_wp2_with fail
      go_loopg [11, 12, 60] a.ins.length (fun gg _ _ s wr => ∃ k : Nat, k ≤ a.ins.length ∧ a.ins.length - k ≤ gg ∧ s = .int .i64 k ∧ Hid (CopL w a ga lo hi Ai Ao ci co (128 + 8 * k) w3.heap.size w6.heap.size (.slice A9 a.ins.length c9) (.slice B9 a.outs.length d9) (.slice Ci a.ins.length ei) (.slice Co a.outs.length ez) wr))
      case atStart => exact ⟨0, Nat.zero_le _, by omega, rfl, HL⟩
      case round =>
        clear HL b0 b1 b2 b3
        obtain ⟨wo, hwo⟩ : ∃ wo, wo = wr := ⟨_, rfl⟩
        subst hwo
        obtain ⟨k, hk, hg, rfl, HL⟩ := hrel
        obtain ⟨b0, b1, b2, b3⟩ := HL.out.b7
        by_cases hlt : k < a.ins.length
        · have k1 : (k : Int) < (a.ins.length : Int) := by omega
          have k2 : decide (k < a.ins.length) = true := decide_eq_true hlt
          obtain ⟨g, cur, rfl, g1, g2, hgh, ⟨q, d2⟩, B, m3, c3, d3, hm3, hms⟩ := HL.out.mi.at hlt
          have f2 := free_of hgh (k * 4 + 2)
          have HGH := Lib.hid hgh
          have HMS := Lib.hid hms
          clear hgh hms
          go_upto_region 11 with (fail)
          go_cut [] (fun wx => Hid (CopL w a ga lo hi (some ⟨g, 0, none⟩) Ao ci co (128 + 8 * k) w3.heap.size w6.heap.size (.slice A9 a.ins.length c9) (.slice B9 a.outs.length d9) (.slice Ci a.ins.length ei) (.slice Co a.outs.length ez) wx))
          case first =>
            go_wp2_with fail
            go_meet
            exact HL.out.write g1 g2 (HL.out.mi.setSeq _) (HL.out.mo.past HGH.out (by decide))
          case rest =>
            clear HL b0 b1 b2 b3 d2 d3 f2 HGH HMS
            have HL := Lib.hid hcut.out
            clear hcut
            obtain ⟨b0, b1, b2, b3⟩ := HL.out.b7
            obtain ⟨g', cur', hA', _, _, hgh, _, B, m3, c3, d3, hm3, hms⟩ := HL.out.mi.at hlt
            injection hA' with hA'
            injection hA' with hA'
            subst hA'
            have HGH := Lib.hid (show ∃ cur, wc.heap[g]? = some (.cells cur 43 (0, 0)) from ⟨_, hgh⟩)
            have HMS := Lib.hid hms
            clear hgh hms
            have D3 := Lib.hid d3
            go_wp2_with fail
            go_loopg [12, 79] m3 (fun gg _ s wr => ∃ j : Nat, j ≤ m3 ∧ m3 - j ≤ gg ∧ s = .int .i64 j ∧ Hid (CopL w a ga lo hi (some ⟨g, 0, none⟩) Ao ci co (128 + 8 * k + j) w3.heap.size w6.heap.size (.slice A9 a.ins.length c9) (.slice B9 a.outs.length d9) (.slice Ci a.ins.length ei) (.slice Co a.outs.length ez) wr) ∧ Hid (wr.cell? ⟨g, k * 4 + 3, none⟩ = some (.slice B m3 c3)) ∧ Hid (MutS wr lo hi (128 + 8 * k + j) (.slice B m3 c3) m3) ∧ Hid (∃ cur, wr.heap[g]? = some (.cells cur 43 (0, 0))))
            case atStart => exact ⟨0, Nat.zero_le _, by omega, rfl, HL, D3, HMS, HGH⟩
            case round =>
              clear HL D3 HMS HGH b0 b1 b2 b3 d3
              obtain ⟨j, hj, hgj, rfl, HL, D3, HMS, HGH⟩ := hrel
              obtain ⟨b0, b1, b2, b3⟩ := HL.out.b7
              have d3 := D3.out
              by_cases hjm : j < m3
              · have j1 : (j : Int) < (m3 : Int) := by omega
                have j2 : decide (j < m3) = true := decide_eq_true hjm
                obtain ⟨gs, curs, rfl, p1, p2, hgs, s, ds, hs⟩ := HMS.out.at hjm
                have fs := free_of hgs j
                have hne : g ≠ gs := by obtain ⟨_, h43⟩ := HGH.out; exact blk_type h43 hgs (by decide)
                have hsz : (s ++ (⟨#[120]⟩ : ByteArray)).size ≤ 128 + 8 * k + (j + 1) := by simp [ByteArray.size_append]; have : (⟨#[120]⟩ : ByteArray).size = 1 := rfl; omega
                have hadd : ∀ W : World, (Op.stringOp .add s ⟨#[120]⟩).run Try.prog W = .ok (.string (s ++ ⟨#[120]⟩)) W := fun W => run_string_add_sum (w := W) s ⟨#[120]⟩ (by have : (⟨#[120]⟩ : ByteArray).size = 1 := rfl; omega)
                have HSZ := Lib.hid hsz
                have HGS := Lib.hid hgs
                have HNE := Lib.hid hne
                clear hgs hs hsz hne
                go_wp2_with fail
                go_roundg (m3 - (j + 1))
                case measure => omega
                case rel => exact ⟨j + 1, by omega, by omega, by go_num, HL.out.write p1 p2 (HL.out.mi.setStr (by omega) HGS.out HSZ.out) (HL.out.mo.past HGS.out (by decide)), (World.cell?_of_block (w := wr) (a := ⟨g, k * 4 + 3, none⟩) (Below.heap_setCell _ _ _ _ HNE.out)).trans D3.out, HMS.out.set (by omega) HSZ.out, by obtain ⟨cur, h43⟩ := HGH.out; exact ⟨cur, (Below.heap_setCell _ _ _ _ HNE.out).trans h43⟩⟩
              · have j1 : ¬ (j : Int) < (m3 : Int) := by omega
                go_wp2_with fail
                go_roundg (a.ins.length - (k + 1))
                case measure => omega
                case rel => exact ⟨k + 1, by omega, by omega, by go_num, HL.out.more (by omega)⟩
        · have k1 : ¬ (k : Int) < (a.ins.length : Int) := by omega
          go_wp2_with fail
          go_loopg [13, 98] a.outs.length (fun gg _ s wr => ∃ j : Nat, j ≤ a.outs.length ∧ a.outs.length - j ≤ gg ∧ s = .int .i64 j ∧ Hid (CopL w a ga lo hi Ai Ao ci co (128 + 8 * k) w3.heap.size w6.heap.size (.slice A9 a.ins.length c9) (.slice B9 a.outs.length d9) (.slice Ci a.ins.length ei) (.slice Co a.outs.length ez) wr))
          case atStart => exact ⟨0, Nat.zero_le _, by omega, rfl, HL⟩
          case round =>
            clear HL b0 b1 b2 b3
            obtain ⟨j, hj, hgj, rfl, HL⟩ := hrel
            obtain ⟨b0, b1, b2, b3⟩ := HL.out.b7
            by_cases hjm : j < a.outs.length
            · have j1 : (j : Int) < (a.outs.length : Int) := by omega
              have j2 : decide (j < a.outs.length) = true := decide_eq_true hjm
              obtain ⟨g, cur, rfl, g1, g2, hgh, s, ds⟩ := HL.out.mo.at hjm
              have fs := free_of hgh (j * 2 + 1)
              have HGH := Lib.hid hgh
              clear hgh
              go_wp2_with fail
              go_roundg (a.outs.length - (j + 1))
              case measure => omega
              case rel => exact ⟨j + 1, by omega, by omega, by go_num, HL.out.write g1 g2 (HL.out.mi.past HGH.out (by decide) (by decide)) (HL.out.mo.setScr _)⟩
            · have j1 : ¬ (j : Int) < (a.outs.length : Int) := by omega
              obtain ⟨c0, c1, c2, c3⟩ := HL.out.b9
              obtain ⟨d0, d1, d2, d3⟩ := HL.out.b10
              go_wp2_with fail
              have h20 := rsame_any a a _ _ _ _ wr _ _ _ _ HL.out.t9 HL.out.t10 (Nat.le_refl _) (Nat.le_refl _) okt.out
              rw [TT.out] at h20
              refine h20.mono ?_
              rintro e w9 ⟨rfl, hb9⟩
              go_wp2_with fail
              go_ret
              exact ⟨rfl, below_next HL.out.bel HL.out.bel.size hb9⟩

end Go.Proofs.Ytnljicongmknhaa
