/-
  The statement IdentGrows, walked.
-/
import Derived.Test.YtfobdefncbaooaaDoorPlaw
import Derived.Deep.RegionHeld3
namespace Go.Proofs.YtfobdefncbaooaaDoor
open Go.RowKit

/-- Where IdentGrows stands behind its first half: the transaction in its box, the Out in its own. -/
structure GwS (w : World) (u : TxD) (g : Nat) (vi vo : Value) (s : ByteArray) (wr : World) : Prop where
  tx : TxS g u vi vo wr
  oc : wr.cell? ⟨w.heap.size + 1, 0, none⟩ = some (.int .i64 0) ∧ wr.cell? ⟨w.heap.size + 1, 1, none⟩ = some (.string s)
  lt : w.heap.size + 1 < wr.heap.size
  bel : Below w.heap.size w wr
theorem GwS.below {w : World} {u : TxD} {g : Nat} {vi vo : Value} {s : ByteArray} {wr wx : World} (h : GwS w u g vi vo s wr) (hb : Below wr.heap.size wr wx) : GwS w u g vi vo s wx :=
  ⟨h.tx.below hb, ⟨(hb.cell (p := ⟨w.heap.size + 1, 0, none⟩) h.lt).trans h.oc.1, (hb.cell (p := ⟨w.heap.size + 1, 1, none⟩) h.lt).trans h.oc.2⟩, Nat.lt_of_lt_of_le h.lt hb.size, below_next h.bel h.bel.size hb⟩

set_option maxHeartbeats 4000000 in
set_option maxRecDepth 100000 in
theorem grows_law (t : TxD) (ov : Int) (os : ByteArray) (vi vo : Value) (w : World) (ht : TxAt w 0 w.heap.size vi vo t) (hc : t.Came) (hTa : Sh.Tabs w) :
    Calls Tryd.prog 6 #[.agg #[.int .u32 t.ver, vi, vo, .int .u32 t.lock], .agg #[.int .i64 ov, .string os]] w fun e w' => e = .returned (.bool true) ∧ Below w.heap.size w w' := by
  obtain ⟨W0, hW0⟩ : ∃ W0, W0 = (w.alloc (.cells #[.int .u32 t.ver, vi, vo, .int .u32 t.lock] 26)).alloc (.cells #[.int .i64 ov, .string os] 50) := ⟨_, rfl⟩
  have z0' : W0.heap.size = w.heap.size + 2 := by rw [hW0]; simp
  have hb0 : Below w.heap.size w W0 := by rw [hW0]; exact ((Below.refl _ _).alloc (Nat.le_refl _) _).alloc (by simp) _
  have hbx : Boxed W0 w.heap.size (.int .u32 t.ver) vi vo (.int .u32 t.lock) := by rw [hW0]; exact (Boxed.new _ _ _ _ _ _).below (by simp) ((Below.refl _ _).alloc (Nat.le_refl _) _)
  have hob : W0.heap[w.heap.size + 1]? = some (.cells #[.int .i64 ov, .string os] 50 (0, 0)) := by
    rw [hW0]
    show ((w.heap.push _).push _)[w.heap.size + 1]? = _
    rw [Array.getElem?_push, if_pos (by simp)]
  have HC8 := Lib.hid (fit_any t vi vo W0 w.heap.size (ht.keep (Kept.of_below hb0 (Nat.le_refl _))) (by omega) hc)
  have HB0 := Lib.hid hb0
  have HW0 := Lib.hid hW0
  have TA := Lib.hid hTa
  have HOB := Lib.hid hob
  clear ht hc hb0 hW0 hTa hob
  obtain ⟨s0, s1, s2, s3⟩ := hbx
  go_enter Tryd.func6, Tryd.ntmps6
  go_upto_region 1 with (fail)
  rw [show World.alloc (World.alloc w _) _ = W0 from HW0.out.symm]
  go_wp2_with fail
  refine HC8.out.mono ?_
  rintro e w1 ⟨u, Ai, Ao, ci, co, rfl, huo, hl1, hl2, hci, hco, hri, hro, hb1⟩
  clear s0 s1 s2 s3
  have z1 := hb1.size
  obtain ⟨w2, hw2⟩ : ∃ w2, w2 = w1.alloc (.cells #[.int .u32 u.ver, .slice Ai u.ins.length ci, .slice Ao u.outs.length co, .int .u32 u.lock] 26) := ⟨_, rfl⟩
  have z2 : w2.heap.size = w1.heap.size + 1 := by rw [hw2]; simp
  have hb2 : Below w1.heap.size w1 w2 := by rw [hw2]; exact (Below.refl _ _).alloc (Nat.le_refl _) _
  have BX := Lib.hid (show Boxed w2 w1.heap.size (.int .u32 u.ver) (.slice Ai u.ins.length ci) (.slice Ao u.outs.length co) (.int .u32 u.lock) from by rw [hw2]; exact Boxed.new _ _ _ _ _ _)
  have HX := Lib.hid (show TxAt w2 W0.heap.size w1.heap.size (.slice Ai u.ins.length ci) (.slice Ao u.outs.length co) u from ⟨(hri.ins hci).keep (Kept.of_below hb2 (Nat.le_refl _)), (hro.outs hco).keep (Kept.of_below hb2 (Nat.le_refl _))⟩)
  have K2 := Lib.hid (below_next (below_next HB0.out (by omega) hb1) (by omega) hb2)
  have OB2 := Lib.hid ((hb2.block (w.heap.size + 1) (by omega)).trans ((hb1.block (w.heap.size + 1) (by omega)).trans HOB.out))
  have HO := Lib.hid huo
  have HW2 := Lib.hid hw2
  clear hri hro hb1 hb2 hw2 huo hci hco HOB HC8
  have TX := Lib.hid (TA.out.below K2.out)
  have hlt : w1.heap.size < w2.heap.size := by omega
  have G := fun (W : World) (hW : Below w2.heap.size w2 W) => (HX.out.keep (Kept.of_below hW (by omega))).wide (Nat.zero_le _) (show w1.heap.size ≤ W.heap.size by have := hW.size; omega)
  have C11 := Lib.hid (weight_any u _ _ w2 (G w2 (Below.refl _ _)) HO.out)
  have C9 := Lib.hid (fun (W : World) (hW : Below w2.heap.size w2 W) => ident_any u _ _ W (G W hW) HO.out (TX.out.below hW))
  have hwb := wtN_bd HO.out
  obtain ⟨cd, hcd⟩ : ∃ cd, checkD u = cd := ⟨_, rfl⟩
  obtain ⟨nw, hnw⟩ : ∃ x, wtN u = x := ⟨_, rfl⟩
  obtain ⟨ia, hia⟩ : ∃ x, idS u = x := ⟨_, rfl⟩
  rw [hcd, hnw] at C11
  rw [hcd, hia] at C9
  rw [hnw] at hwb
  have EQ := Lib.hid (show checkD u = cd ∧ wtN u = nw ∧ idS u = ia from ⟨hcd, hnw, hia⟩)
  clear hcd hnw hia
  go_upto_region 2 with (fail)
  rw [show World.alloc w1 _ = w2 from HW2.out.symm]
  obtain ⟨b0, b1, b2, b3⟩ := BX.out
  go_wp2_with fail
  refine C11.out.mono ?_
  rintro e w3 ⟨rfl, hb3⟩
  have L3 := Lib.hid hb3
  clear hb3 b0 b1 b2 b3 C11
  obtain ⟨b0, b1, b2, b3⟩ := BX.out.below hlt L3.out
  go_wp2_with fail
  refine (C9.out w3 L3.out).mono ?_
  rintro e w4 ⟨rfl, hb4⟩
  have L4 := Lib.hid (below_next L3.out L3.out.size hb4)
  clear hb4 b0 b1 b2 b3 C9 L3
  by_cases hz : cd = 0
  · subst hz
    obtain ⟨n, hn1, hn2, -, hmin⟩ := run_min_at 40 #[3, 3] 3 os.size
    have hm : ∀ w, (Builtin.min_ #[3, 3] 3 #[.int .i64 (os.size : Int), .int .i64 40]).run Tryd.prog w = .ok (.int .i64 (n : Nat)) w := hmin
    obtain ⟨s, hs⟩ : ∃ s, os.extract 0 n = s := ⟨_, rfl⟩
    have hsz : s.size ≤ 40 := by rw [← hs, ByteArray.size_extract]; omega
    have q4 := (L4.out.block (w.heap.size + 1) (by omega)).trans OB2.out
    have z4 := L4.out.size
    have d0 : w4.cell? ⟨w.heap.size + 1, 0, none⟩ = some (.int .i64 ov) := by rw [Lib.cell_of_heap q4]; rfl
    have d1 : w4.cell? ⟨w.heap.size + 1, 1, none⟩ = some (.string os) := by rw [Lib.cell_of_heap q4]; rfl
    have f0 : w4.frozen? ⟨w.heap.size + 1, 0, none⟩ = false := Lib.frozen_of_heap q4 0
    have f1 : w4.frozen? ⟨w.heap.size + 1, 1, none⟩ = false := Lib.frozen_of_heap q4 1
    obtain ⟨w5, hw5⟩ : ∃ w5, w5 = (w4.setCell ⟨w.heap.size + 1, 0, none⟩ (.int .i64 0)).setCell ⟨w.heap.size + 1, 1, none⟩ (.string s) := ⟨_, rfl⟩
    have S5 := Lib.hid (show GwS w u w1.heap.size (.slice Ai u.ins.length ci) (.slice Ao u.outs.length co) s w5 from by
      have z5 : w5.heap.size = w4.heap.size := by rw [hw5]; simp
      have kp : ∀ lo hi, w.heap.size + 1 < lo → Kept lo hi w4 w5 := fun lo hi h => by rw [hw5]; exact (Kept.setCell (p := ⟨w.heap.size + 1, 0, none⟩) (.inl h) _).trans (Kept.setCell (p := ⟨w.heap.size + 1, 1, none⟩) (.inl h) _)
      have bx4 := BX.out.below hlt L4.out
      have cl : ∀ o, w5.cell? ⟨w1.heap.size, o, none⟩ = w4.cell? ⟨w1.heap.size, o, none⟩ := fun o => (kp w1.heap.size (w1.heap.size + 1) (by omega)).cell (Nat.le_refl _) (Nat.lt_succ_self _)
      refine ⟨⟨⟨(cl 0).trans bx4.1, (cl 1).trans bx4.2.1, (cl 2).trans bx4.2.2.1, (cl 3).trans bx4.2.2.2⟩, ?_, by omega⟩, ⟨?_, ?_⟩, by omega, ?_⟩
      · exact ((HX.out.keep (Kept.of_below L4.out (by omega))).keep (kp _ _ (by omega))).wide (Nat.zero_le _) (by omega)
      · rw [hw5]; exact (World.cell?_setCell_other _ _ _ _ (by simp)).trans (World.cell?_setCell_same _ _ _ d0)
      · rw [hw5]; exact World.cell?_setCell_same _ _ _ ((World.cell?_setCell_other _ _ _ _ (by simp)).trans d1)
      · rw [hw5]; exact ((below_next K2.out K2.out.size L4.out).setCell (p := ⟨w.heap.size + 1, 0, none⟩) (Nat.le_succ _) _).setCell (p := ⟨w.heap.size + 1, 1, none⟩) (Nat.le_succ _) _)
    have HW5 := Lib.hid hw5
    clear hw5 q4 BX HX K2 OB2 HW2 L4 G hlt TX hmin
    go_upto_region 7 with (fail)
    rw [show World.setCell (World.setCell w4 _ _) _ _ = w5 from HW5.out.symm]
    clear d0 d1 f0 f1 hm hs hn1 hn2
    have TX := Lib.hid (TA.out.below S5.out.bel)
    have hcd := EQ.out.1
    have np := check_parts hcd
    have z5 := S5.out.tx.lt
    obtain ⟨b0, b1, b2, b3⟩ := S5.out.tx.box
    go_wp2_with fail
    refine (copy_own u _ _ w5 0 w5.heap.size S5.out.tx.tx (Nat.le_refl _) HO.out).mono ?_
    rintro e w6 ⟨A, c, B, d, rfl, hco6, hsz6⟩
    obtain ⟨g, go, rfl, rfl, hcs⟩ := copy_parts hco6 hsz6 np.1 np.2.2.1
    have CS := Lib.hid hcs
    have b6 := hcs.bel
    have g1 := hcs.lg
    have g2 := hcs.lgo
    have g3 := hcs.lt
    have HOWN := Lib.hid hcs.own
    have z6 := b6.size
    have S6 := Lib.hid (S5.out.below b6)
    have lo6 := S6.out.lt
    obtain ⟨o0, o1⟩ := S6.out.oc
    clear hco6 hsz6 hcs b6 b0 b1 b2 b3
    obtain ⟨i52, hi52, x0, x1, x2⟩ := info_parts info52
    go_upto_region 8 with (fail)
    go_cut [] (fun wx => ∃ v', TxS w6.heap.size (moreO u s) (.slice (some ⟨g, 0, none⟩) u.ins.length c) v' wx ∧ Below w5.heap.size w5 wx)
    case first =>
      go_wp2_with (at_builtin; refine wpList_append_own _ rfl _ _ 24 rfl go 50 i52 _ 2 24 Tryd.underlying24 hi52 x0 x1 x2 rfl (by decide) _ _ _ rfl ((HOWN.out.alloc _).alloc _) ⟨w6.heap.size + 1, 0, none⟩ 1 1 [.int .i64 0, .string s] rfl rfl (two_new' _ _ _ _ _ (by simp)) (by intro u hu; simp at hu; rcases hu with rfl | rfl <;> rfl) (by unfold maxLen; omega) (by omega) (by simp; omega) ?_; intro v' w10 hown' hgrow _; obtain ⟨A', c', rfl⟩ := own_form hown'; have y1 := hgrow.cell_far ⟨w6.heap.size, 2, none⟩ (by simp; omega) (fun e => by have e2 : some w6.heap.size = some go := e; injection e2 with e2; omega); have yf := hgrow.frozen_far ⟨w6.heap.size, 2, none⟩ (by simp; omega) (fun e => by have e2 : some w6.heap.size = some go := e; injection e2 with e2; omega); simp at y1 yf; have HGR := Lib.hid hgrow; have HOW2 := Lib.hid hown'; clear hgrow hown')
      go_meet
      exact ⟨_, grow_end CS.out HGR.out HOW2.out⟩
    case rest =>
      obtain ⟨v', hv9, hb9⟩ := hcut
      obtain ⟨hvc, hvw⟩ := grow_all hcd hl2 hsz
      have hvk := more_ok HO.out hl2 hsz
      obtain ⟨v, hv⟩ : ∃ v, moreO u s = v := ⟨_, rfl⟩
      have hvi : u.ins.length = v.ins.length := by rw [← hv]; rfl
      rw [hv] at hv9 hvc hvw hvk
      rw [hvi] at hv9
      obtain ⟨A', c', rfl⟩ := hv9.tx.2.form
      obtain ⟨d1, d2, d3⟩ := dec_enc HO.out hcd
      have hwl := (wire_le HO.out (hasW u)).2
      have hes : encS u (hasW u) = wireS u (hasW u) := by unfold encS; rw [if_pos hcd]
      have V9 := Lib.hid hv9
      have S9 := Lib.hid (S5.out.below hb9)
      have HVK := Lib.hid hvk
      obtain ⟨es, hese⟩ : ∃ es, encS u (hasW u) = es := ⟨_, rfl⟩
      have hee : wireS u (hasW u) = es := hes.symm.trans hese
      rw [hee] at d1 d2 d3 hwl
      have C11 := Lib.hid (weight_any v _ _ wc V9.out.tx HVK.out)
      rw [hvc, hvw, EQ.out.2.1] at C11
      have C21 := Lib.hid (fun W (hW : Below wc.heap.size wc W) => encode_any u _ _ W (S9.out.below hW).tx.tx HO.out)
      rw [hese, hcd] at C21
      have C22 := Lib.hid (fun W => decode_any es W (by omega))
      rw [d1, d2, d3] at C22
      have C10 := Lib.hid (fun W (hW : Below wc.heap.size wc W) => whole_any u _ _ W (S9.out.below hW).tx.tx HO.out ((TX.out.below hb9).below hW))
      obtain ⟨ib, hib⟩ : ∃ x, whS u = x := ⟨_, rfl⟩
      rw [hib, hcd] at C10
      have v1 : IntKind.i64.wrap (9 + (s.size : Int)) = 9 + (s.size : Int) := by rw [IntWalk.i64_in _ (by omega)]
      have v2 : IntKind.i64.wrap (4 * (9 + (s.size : Int))) = 4 * (9 + (s.size : Int)) := by rw [IntWalk.i64_in _ (by omega)]
      have v3 : IntKind.i64.wrap (nw + 4 * (9 + (s.size : Int))) = nw + 4 * (9 + (s.size : Int)) := by rw [IntWalk.i64_in _ (by omega)]
      have TX9 := Lib.hid (TX.out.below hb9)
      clear hv9 hb9 hvc hvw hvk hv hvi d1 d2 d3 hes hese hee TX S5 S6 CS HOWN g1 g2 g3 o0 o1 lo6 z6 z5 z4 x0 x1 x2 hi52 HW5 HW0 HB0
      obtain ⟨a0, a1, a2, a3⟩ := V9.out.box
      go_wp2_with fail
      refine C11.out.mono ?_
      rintro e w11 ⟨rfl, hb11⟩
      have L11 := Lib.hid hb11
      clear hb11 a0 a1 a2 a3 C11 V9
      obtain ⟨b0, b1, b2, b3⟩ := (S9.out.below L11.out).tx.box
      go_wp2_with fail
      refine (C21.out w11 L11.out).mono ?_
      rintro e w12 ⟨rfl, hb12⟩
      have L12 := Lib.hid (below_next L11.out L11.out.size hb12)
      clear hb12 b0 b1 b2 b3 C21 L11
      go_wp2_with fail
      refine (C22.out w12).mono ?_
      rintro e w13 ⟨ti, tp, rfl, ht13, hb13⟩
      obtain ⟨A1, m1, rfl⟩ := ht13.1.form
      obtain ⟨A2, m2, rfl⟩ := ht13.2.form
      obtain ⟨w14, hw14⟩ : ∃ w14, w14 = w13.alloc (.cells #[.int .u32 u.ver, .slice A1 u.ins.length m1, .slice A2 u.outs.length m2, .int .u32 u.lock] 26) := ⟨_, rfl⟩
      have D14 := Lib.hid (show TxS w13.heap.size u (.slice A1 u.ins.length m1) (.slice A2 u.outs.length m2) w14 from by rw [hw14]; exact TxS.new (ht13.wide (Nat.zero_le _) (Nat.le_refl _)))
      have L14 := Lib.hid (show Below wc.heap.size wc w14 from by rw [hw14]; exact (below_next L12.out L12.out.size hb13).alloc (below_next L12.out L12.out.size hb13).size _)
      have HW14 := Lib.hid hw14
      clear hw14 ht13 hb13 L12 C22
      have D9 := Lib.hid (fun W (hW : Below w14.heap.size w14 W) => ident_any u _ _ W (D14.out.below hW).tx HO.out ((TX9.out.below L14.out).below hW))
      have D10 := Lib.hid (fun W (hW : Below w14.heap.size w14 W) => whole_any u _ _ W (D14.out.below hW).tx HO.out ((TX9.out.below L14.out).below hW))
      rw [EQ.out.2.2, hcd] at D9
      rw [hib, hcd] at D10
      have CW := Lib.hid (fun W (hW : Below w14.heap.size w14 W) => wakes_any W ((TX9.out.below L14.out).below hW))
      go_upto_region 12 with (fail)
      rw [show World.alloc w13 _ = w14 from HW14.out.symm]
      have l14 := D14.out.lt
      obtain ⟨a0, a1, a2, a3⟩ := D14.out.box
      go_wp2_with fail
      refine (D9.out w14 (Below.refl _ _)).mono ?_
      rintro e w15 ⟨rfl, hb15⟩
      have L15 := Lib.hid hb15
      have M15 := Lib.hid (below_next L14.out L14.out.size hb15)
      clear hb15 a0 a1 a2 a3 D9
      obtain ⟨b0, b1, b2, b3⟩ := (S9.out.below M15.out).tx.box
      go_wp2_with fail
      refine (C10.out w15 M15.out).mono ?_
      rintro e w16 ⟨rfl, hb16⟩
      have L16 := Lib.hid (below_next L15.out L15.out.size hb16)
      clear hb16 b0 b1 b2 b3 C10 L15 M15
      obtain ⟨a0, a1, a2, a3⟩ := (D14.out.below L16.out).box
      go_wp2_with fail
      refine (D10.out w16 L16.out).mono ?_
      rintro e w17 ⟨rfl, hb17⟩
      have L17 := Lib.hid (below_next L16.out L16.out.size hb17)
      clear hb17 a0 a1 a2 a3 D10 L16
      go_wp2_with fail
      refine (CW.out w17 L17.out).mono ?_
      rintro e w18 ⟨rfl, hb18⟩
      have S18 := Lib.hid ((S9.out.below (below_next L14.out L14.out.size (below_next L17.out L17.out.size hb18))))
      clear hb18 CW L17
      obtain ⟨o0, o1⟩ := S18.out.oc
      have e1 : (nw + 4 * (9 + (s.size : Int)) == nw + 4 * (9 + (s.size : Int))) = true := by simp
      have e2 : (ia.toList == ia.toList) = true := by simp
      have e3 : (ib.toList == ib.toList) = true := by simp
      go_wp2_with fail
      go_ret
      exact ⟨rfl, S18.out.bel⟩
  · have e1 : (cd != 0) = true := by simpa using hz
    have e2 : (cd == cd) = true := by simp
    clear hz
    go_wp2_with fail
    refine (wakes_any _ ((TX.out.below L4.out))).mono ?_
    rintro e w5 ⟨rfl, hb5⟩
    go_wp2_with fail
    go_ret
    exact ⟨rfl, below_next (below_next K2.out K2.out.size L4.out) (below_next K2.out K2.out.size L4.out).size hb5⟩

end Go.Proofs.YtfobdefncbaooaaDoor
