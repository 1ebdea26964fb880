/-
  The document's witnesses.
  Does a lock open: the document's Open.
  May an input be in a block of a height: the document's Ripe.
-/
import Derived.Test.YtnmfjnfdnjjngaaGreatDoorMLop
import Derived.Test.YtnmfjnfdnjjngaaGreatDoorMBrd

namespace Go.Proofs.YtnmfjnfdnjjngaaGreatDoor
open Go.RowKit
set_option maxRecDepth 100000

theorem tag_bytes {s : ByteArray} (h : s.size = 3) : Oc.getN s 1 2 = (s[1].toNat : Int) + 256 * (s[2].toNat : Int) := by
  have e := Oc.getN_yes (s := s) (a := 1) (k := 2) (by decide) (by omega)
  have e1 := Oc.part_step s 1 0 (by omega)
  have e2 := Oc.part_step s 1 1 (by omega)
  have e3 : Oc.part s 1 0 = [] := by simp [Oc.part]
  rw [e3] at e1
  have e4 : Oc.getN s 1 2 = Oc.num (Oc.part s 1 2) := e
  rw [e4, e2, e1]
  simp [Oc.num]
/-- The branch, or -1. -/
def rsN (ws : List ByteArray) : Int := if snB ws = true then snN ws else -1
theorem lk_ret_two {a b c d : Int} (h1 : a = c) (h2 : b = d) : Ending.returned (.tuple #[.int .i64 a, .int .i64 b]) = .returned (.tuple #[.int .i64 c, .int .i64 d]) := by rw [h1, h2]

set_option maxHeartbeats 2000000 in
theorem rsigned_any (ws : List ByteArray) (v : Value) (w : World) (lo hi : Nat) (hw : Strs w lo hi v ws) (hl : ws.length ≤ maxLen) :
    Calls Tryz.prog 102 #[v] w fun e w' => e = .returned (.tuple #[.int .i64 (rsN ws), .int .i64 (snT ws)]) ∧ Below w.heap.size w w' := by
  obtain ⟨A, c, rfl⟩ : ∃ A c, v = .slice A ws.length c := by obtain ⟨A, c, rfl, _⟩ := hw; exact ⟨A, c, rfl⟩
  have NO := Lib.hid (show snB ws = false → rsN ws = -1 ∧ snT ws = 0 from fun h => ⟨by unfold rsN; rw [if_neg (by rw [h]; decide)], (sn_not h).2.2⟩)
  by_cases h1 : ws.length = 1
  · obtain ⟨s, rfl⟩ := List.length_eq_one_iff.1 h1
    obtain ⟨b, off, rfl, _, _, cs⟩ := hw.at (k := 0) (by simp)
    simp only [List.getD_cons_zero, Nat.add_zero] at cs
    by_cases h3 : s.size = 3
    · have i0 : 0 < s.size := by omega
      have i1 : 1 < s.size := by omega
      have i2 : 2 < s.size := by omega
      have p0 := first_byte (s := s) i0
      have p1 := tag_bytes h3
      have d0 := (s[0]).toNat_lt
      have d1 := (s[1]).toNat_lt
      have d2 := (s[2]).toNat_lt
      obtain ⟨f0, hf0⟩ : ∃ f : Nat, s[0].toNat = f := ⟨_, rfl⟩
      obtain ⟨f1, hf1⟩ : ∃ f : Nat, s[1].toNat = f := ⟨_, rfl⟩
      obtain ⟨f2, hf2⟩ : ∃ f : Nat, s[2].toNat = f := ⟨_, rfl⟩
      rw [hf0] at p0 d0
      rw [hf1, hf2] at p1
      rw [hf1] at d1
      rw [hf2] at d2
      have ES := Lib.hid (show snB [s] = decide (Oc.getN s 0 1 < 3) ∧ (snB [s] = true → snN [s] = Oc.getN s 0 1 ∧ snT [s] = Oc.getN s 1 2) from ⟨by simp [snB, h3], fun h => ⟨by show (if snB [s] = true then Oc.getN s 0 1 else 0) = _; rw [if_pos h], by show (if snB [s] = true then Oc.getN s 1 2 else 0) = _; rw [if_pos h]⟩⟩)
      rw [p0, p1] at ES
      have q1 : ((s.size : Int) != 3) = false := by rw [h3]; rfl
      have u0 : IntKind.i64.wrap (f0 : Int) = (f0 : Int) := by rw [IntWalk.i64_in _ (by omega)]
      have u1 : IntKind.i64.wrap (f1 : Int) = (f1 : Int) := by rw [IntWalk.i64_in _ (by omega)]
      have u2 : IntKind.i64.wrap (f2 : Int) = (f2 : Int) := by rw [IntWalk.i64_in _ (by omega)]
      have u3 : IntKind.i64.wrap (256 * (f2 : Int)) = 256 * (f2 : Int) := by rw [IntWalk.i64_in _ (by omega)]
      have u4 : IntKind.i64.wrap ((f1 : Int) + 256 * (f2 : Int)) = (f1 : Int) + 256 * (f2 : Int) := by rw [IntWalk.i64_in _ (by omega)]
      simp only [List.length_cons, List.length_nil, Nat.zero_add]
      clear h3 hw h1 hl p0 p1
      by_cases hx : f0 < 3
      · have hb : snB [s] = true := by rw [ES.out.1]; simp; omega
        have FIN := Lib.hid (show rsN [s] = (f0 : Int) ∧ snT [s] = (f1 : Int) + 256 * (f2 : Int) from ⟨by unfold rsN; rw [if_pos hb]; exact (ES.out.2 hb).1, (ES.out.2 hb).2⟩)
        have hx' : ¬ (2 : Int) < (f0 : Int) := by omega
        clear hb
        go_enter Tryz.func102, Tryz.ntmps102
        go_wp2_with fail
        go_quiet (fail)
        go_wp2
        go_ret2
        exact ⟨lk_ret_two FIN.out.1.symm FIN.out.2.symm, below_drewN (Below.refl _ _) _⟩
      · have FIN := Lib.hid (NO.out (by rw [ES.out.1]; simp; omega))
        have hx' : (2 : Int) < (f0 : Int) := by omega
        go_enter Tryz.func102, Tryz.ntmps102
        go_wp2_with fail
        go_ret2
        exact ⟨lk_ret_two FIN.out.1.symm FIN.out.2.symm, Below.refl _ _⟩
    · have FIN := Lib.hid (NO.out (show snB [s] = false from by simp [snB, h3]))
      have q1 : ((s.size : Int) != 3) = true := by simp; omega
      simp only [List.length_cons, List.length_nil, Nat.zero_add]
      clear h3 hw h1 hl
      go_enter Tryz.func102, Tryz.ntmps102
      go_wp2_with fail
      go_ret2
      exact ⟨lk_ret_two FIN.out.1.symm FIN.out.2.symm, Below.refl _ _⟩
  · have FIN := Lib.hid (NO.out (sn_len h1))
    have q1 : ((ws.length : Int) != 1) = true := by simp; omega
    have hl' : ws.length ≤ 9223372036854775807 := by unfold maxLen at hl; omega
    clear h1 hw hl
    go_enter Tryz.func102, Tryz.ntmps102
    go_wp2_with fail
    go_ret2
    exact ⟨lk_ret_two FIN.out.1.symm FIN.out.2.symm, Below.refl _ _⟩

theorem sg_bytes {b t : Int} (hb : 0 ≤ b ∧ b ≤ 2) (ht : 0 ≤ t ∧ t ≤ 65535) : strOfNums [b, t % 256, t / 256] = sgS b t := by
  unfold sgS
  rw [show (1 : Int) = ((1 : Nat) : Int) from rfl, show (2 : Int) = ((2 : Nat) : Int) from rfl, Oc.putS_yes (k := 1) (by decide), Oc.putS_yes (k := 2) (by decide), ← Oc.str_append]
  simp [Oc.digs]
  congr 1
  simp
  omega
theorem run_three (wx : World) (b t u : Int) :
    (convert 79 9 (.slice (some ⟨wx.heap.size, 0, none⟩) 3 3)).run Tryz.prog (wx.alloc (.cells #[.int .u8 b, .int .u8 t, .int .u8 u] 5)) = .ok (.string (strOfNums [b, t, u])) (wx.alloc (.cells #[.int .u8 b, .int .u8 t, .int .u8 u] 5)) :=
  run_convert_bytes_arg _ 79 5 Tryz.underlying79 Tryz.underlying5 wx.heap.size 0 3 3 [b, t, u] rfl (fun i hi => by
    match i, hi with
    | 0, _ => simp
    | 1, _ => simp
    | 2, _ => simp) 9 Tryz.underlying9

end Go.Proofs.YtnmfjnfdnjjngaaGreatDoor

namespace Go.Proofs.YtnmfjnfdnjjngaaGreatDoor
open Go.RowKit
set_option maxRecDepth 100000

theorem rs_no {ws : List ByteArray} (h : snB ws = false) : rsN ws = -1 := by unfold rsN; rw [if_neg (by rw [h]; decide)]
theorem rs_yes {ws : List ByteArray} (h : snB ws = true) : rsN ws = snN ws := by unfold rsN; rw [if_pos h]

set_option maxHeartbeats 4000000 in
set_option maxRecDepth 100000 in
theorem ropen_any (s : ByteArray) (t : TxD) (i : Int) (vi vo : Value) (w : World) (ht : TxAt w 0 w.heap.size vi vo t) (hok : t.Ok) (hs : s.size ≤ maxLen) :
    Calls Tryz.prog 76 #[.string s, .agg #[.int .u32 t.ver, vi, vo, .int .u32 t.lock], .int .i64 i] w fun e w' => e = .returned (.int .i64 (opE s t i)) ∧ Below w.heap.size w w' := by
  obtain ⟨w0, hw0⟩ : ∃ w0, w0 = w.alloc (.cells #[.int .u32 t.ver, vi, vo, .int .u32 t.lock] 51) := ⟨_, rfl⟩
  have z0 : w0.heap.size = w.heap.size + 1 := by rw [hw0]; simp
  have hb0 : Below w.heap.size w w0 := by rw [hw0]; exact (Below.refl _ _).alloc (Nat.le_refl _) _
  have BX := Lib.hid (show Boxed w0 w.heap.size (.int .u32 t.ver) vi vo (.int .u32 t.lock) from by rw [hw0]; exact Boxed.new _ _ _ _ _ _)
  have HT := Lib.hid (ht.keep (Kept.of_below hb0 (Nat.le_refl _)))
  have B0 := Lib.hid hb0
  have HW0 := Lib.hid hw0
  obtain ⟨Ai, ci, rfl⟩ := ht.1.form
  have hlt : w.heap.size < w0.heap.size := by omega
  clear ht hb0 hw0
  obtain ⟨b0, b1, b2, b3⟩ := BX.out
  go_enter Tryz.func76, Tryz.ntmps76
  go_upto_region 1 with (fail)
  rw [show World.alloc w _ = w0 from HW0.out.symm]
  have hn := hok.1
  cases hh : hiB t i with
  | false =>
    have E := Lib.hid (op_no (s := s) hh)
    by_cases h0 : i < 0
    · clear hh
      go_wp2_with fail
      go_ret
      exact ⟨ret_int E.out.symm, B0.out⟩
    · have h1 : (t.ins.length : Int) ≤ i := by simp [hiB] at hh; omega
      obtain ⟨n, hne⟩ : ∃ n, t.ins.length = n := ⟨_, rfl⟩
      rw [hne] at h1 b1 hn
      clear hh hne
      go_wp2_with fail
      go_ret
      exact ⟨ret_int E.out.symm, B0.out⟩
  | true =>
    obtain ⟨k, x, rfl, hx⟩ := hi_at hh
    have OE := Lib.hid (op_at (s := s) hx)
    obtain ⟨wo1, wo2, wq1, wq2⟩ := wit_ok hok hx
    have hk := (List.getElem?_eq_some_iff.1 hx).1
    have G := Lib.hid (fun W (hW : Below w0.heap.size w0 W) => HT.out.keep (Kept.of_below hW (by omega)))
    have CW := Lib.hid (fun W (hW : Below w0.heap.size w0 W) => rwaits_any t k x (.slice Ai t.ins.length ci) vo W 0 w.heap.size (G.out W hW) (by have := hW.size; omega) hn hx ⟨wq1, wq2⟩)
    have CG := Lib.hid (rlget_any s w0 hs)
    have CS := Lib.hid (fun W A c (h : Strs W 0 w.heap.size (.slice A x.wit.length c) x.wit) => rsigned_any x.wit (.slice A x.wit.length c) W 0 w.heap.size h wo2)
    have IA := Lib.hid (fun W (hW : Below w0.heap.size w0 W) => (G.out W hW).1.at hx)
    have wb := wsN_bd t.ver wq1
    obtain ⟨n, hne⟩ : ∃ n, t.ins.length = n := ⟨_, rfl⟩
    obtain ⟨ws, hws⟩ : ∃ q, wsN t.ver x.sq = q := ⟨_, rfl⟩
    rw [hne] at CW hk hn ⊢
    rw [hws] at CW wb
    have k1 : (k : Int) < (n : Int) := by omega
    have k1' : ¬ (n : Int) ≤ (k : Int) := by omega
    have k0 : ¬ (k : Int) < 0 := by omega
    have HWS := Lib.hid hws
    rw [hne] at BX b1
    clear hh hx hne hws hs wo1 wo2
    go_wp2_with fail
    refine CG.out.mono ?_
    rintro e w1 ⟨vg, rfl, hbr, hb1⟩
    have L1 := Lib.hid hb1
    have hlen := gtR_len s
    obtain ⟨Ag, cg, rfl⟩ := hbr.form
    have HBR := Lib.hid hbr
    clear hb1 b0 b1 b2 b3 CG hbr
    obtain ⟨l, hle⟩ : ∃ l, (gtR s).length = l := ⟨_, rfl⟩
    rw [hle] at hlen HBR ⊢
    obtain ⟨b0, b1, b2, b3⟩ := BX.out.below hlt L1.out
    obtain ⟨b, off, rfl, _, hbw, c0, c1, c2, u, c3, hst⟩ := IA.out w1 L1.out
    obtain ⟨Aw, cw, rfl⟩ : ∃ A c, u = .slice A x.wit.length c := by obtain ⟨A, c, rfl, _⟩ := hst; exact ⟨A, c, rfl⟩
    have CS1 := Lib.hid (CS.out w1 Aw cw hst)
    have hb1w : b < w1.heap.size := by have := L1.out.size; omega
    have nb := snN_bd x.wit
    have tb := snT_bd x.wit
    obtain ⟨m, hm⟩ : ∃ m : Nat, snN x.wit = (m : Int) := ⟨(snN x.wit).toNat, by omega⟩
    clear hst CS
    go_wp2_with fail
    refine CS1.out.mono ?_
    rintro e w2 ⟨rfl, hb2⟩
    have z1 := L1.out.size
    have z2 := hb2.size
    have L2 := Lib.hid (below_next L1.out L1.out.size hb2)
    have K2 := Lib.hid (below_next B0.out (by omega) L2.out)
    have BA := Lib.hid (fun o => K2.out.alloc K2.out.size o)
    have HB2 := Lib.hid (HBR.out.keep (Kept.of_below hb2 (Nat.le_refl _)))
    clear hb2 CS1 b0 b1 b2 b3 c0 c1 c2 c3 HBR
    cases hsn : snB x.wit with
    | false =>
      have rs := rs_no hsn
      have E := Lib.hid (show opE s t (k : Int) = 9 from by rw [OE.out]; unfold opX; rw [sb_not hsn])
      rw [rs]
      clear hsn rs
      go_wp2_with fail
      go_ret
      exact ⟨ret_int E.out.symm, K2.out⟩
    | true =>
      have rs := (rs_yes hsn).trans hm
      rw [rs]
      have m0 : ¬ (m : Int) < 0 := by omega
      by_cases hm3 : m < l
      · have g3 : ¬ (l : Int) ≤ (m : Int) := by omega
        have g4 : (m : Int) < (l : Int) := by omega
        obtain ⟨y, hy⟩ : ∃ y, (gtR s)[m]? = some y := ⟨_, List.getElem?_eq_getElem (by omega)⟩
        obtain ⟨o1, o2, o3, o4, o5, o6⟩ := gtR_ok s _ (List.mem_of_getElem? hy)
        have SB := Lib.hid (show sbO s x.wit = if fitB y (snT x.wit) = true then some y else none from by unfold sbO; rw [if_pos hsn, hm, Int.toNat_natCast, hy]; rfl)
        obtain ⟨d, doff, rfl, _, hd2, d0, d1, d2⟩ := HB2.out.at hy
        obtain ⟨tg, htg⟩ : ∃ q, snT x.wit = q := ⟨_, rfl⟩
        rw [htg] at SB tb ⊢
        obtain ⟨yt, yd, yh⟩ := y
        simp only at o1 o2 o3 o4 o5 o6 d0 d1 d2
        have v0 : IntKind.i64.wrap yt = yt := by rw [IntWalk.i64_in _ (by omega)]
        have v1 : IntKind.i64.wrap yd = yd := by rw [IntWalk.i64_in _ (by omega)]
        clear hsn rs hm hy htg
        by_cases hf : fitB ⟨yt, yd, yh⟩ tg = true
        · have E := Lib.hid (show opE s t (k : Int) = brE ⟨yt, yd, yh⟩ t x from by rw [OE.out]; unfold opX; rw [SB.out, if_pos hf])
          obtain ⟨w3, hw3⟩ : ∃ w3, w3 = w2.alloc (.cells #[.int .u16 yt, .int .u16 yd, .int .u32 yh] 200) := ⟨_, rfl⟩
          have hb3 : Below w2.heap.size w2 w3 := by rw [hw3]; exact (Below.refl _ _).alloc (Nat.le_refl _) _
          have z3 : w3.heap.size = w2.heap.size + 1 := by rw [hw3]; simp
          have L3 := Lib.hid (below_next L2.out L2.out.size hb3)
          have y0 : w3.cell? ⟨w2.heap.size, 0, none⟩ = some (.int .u16 yt) := by rw [hw3]; simp
          have y1 : w3.cell? ⟨w2.heap.size, 1, none⟩ = some (.int .u16 yd) := by rw [hw3]; simp
          have y2 : w3.cell? ⟨w2.heap.size, 2, none⟩ = some (.int .u32 yh) := by rw [hw3]; simp
          have HW3 := Lib.hid hw3
          have hdw : d < w2.heap.size := by omega
          clear hb3 hw3
          go_upto_region 8 with (fail)
          rw [show World.alloc w2 _ = w3 from HW3.out.symm]
          clear d0 d1 d2
          obtain ⟨b0, b1, b2, b3⟩ := BX.out.below hlt L3.out
          have CW3 := Lib.hid (CW.out w3 L3.out)
          clear CW
          have hfx : ((yt != 0) = false) ∨ ((yt != 0) = true ∧ (yt != tg) = false) := by
            by_cases q : yt = 0
            · exact .inl (by simp [q])
            · refine .inr ⟨by simp [q], ?_⟩
              have : yt = tg := by simpa [fitB, q] using hf
              simp [this]
          have AFT := Lib.hid (show ∀ W, Below w3.heap.size w3 W → Boxed W w.heap.size (.int .u32 t.ver) (.slice (some ⟨b, off, none⟩) n ci) vo (.int .u32 t.lock) ∧ W.cell? ⟨w2.heap.size, 1, none⟩ = some (.int .u16 yd) ∧ W.cell? ⟨w2.heap.size, 2, none⟩ = some (.int .u32 yh) ∧ Below w0.heap.size w0 W ∧ Below w.heap.size w W from fun W hW => by
            have L4 := below_next L3.out L3.out.size hW
            exact ⟨BX.out.below hlt L4, (hW.cell (p := ⟨w2.heap.size, 1, none⟩) (by show w2.heap.size < _; omega)).trans y1, (hW.cell (p := ⟨w2.heap.size, 2, none⟩) (by show w2.heap.size < _; omega)).trans y2, L4, below_next B0.out (by omega) L4⟩)
          clear hf SB y1 y2
          rcases hfx with q0 | ⟨q0, q1⟩
          all_goals
            go_wp2_with fail
            refine CW3.out.mono ?_
            rintro e W ⟨rfl, hW⟩
            obtain ⟨⟨b0, b1, b2, b3⟩, y1, y2, L4, KW⟩ := AFT.out W hW
            have KW := Lib.hid KW
            obtain ⟨b', off', hA, _, hbw', c0, c1, c2, u', c3, _⟩ := IA.out W L4
            injection hA with hA
            injection hA with e1 e2
            subst e1 e2
            clear hW y0 L4
            by_cases h1 : ws < yd
            · have FIN := Lib.hid (show opE s t (k : Int) = 10 from by rw [E.out]; unfold brE; rw [HWS.out, if_pos h1])
              go_wp2_with fail
              go_ret
              exact ⟨ret_int FIN.out.symm, KW.out⟩
            · by_cases h2 : 0 < yh
              · by_cases h3 : t.lock < yh
                · have FIN := Lib.hid (show opE s t (k : Int) = 10 from by rw [E.out]; unfold brE; rw [HWS.out, if_neg h1, if_pos ⟨h2, .inl h3⟩])
                  go_wp2_with fail
                  go_ret
                  exact ⟨ret_int FIN.out.symm, KW.out⟩
                · by_cases h4 : x.sq = 4294967295
                  · have FIN := Lib.hid (show opE s t (k : Int) = 10 from by rw [E.out]; unfold brE; rw [HWS.out, if_neg h1, if_pos ⟨h2, .inr h4⟩])
                    have q4 : (x.sq == 4294967295) = true := by simp [h4]
                    clear h4
                    go_wp2_with fail
                    go_ret
                    exact ⟨ret_int FIN.out.symm, KW.out⟩
                  · have FIN := Lib.hid (show opE s t (k : Int) = 0 from by rw [E.out]; unfold brE; rw [HWS.out, if_neg h1, if_neg (fun h => by rcases h.2 with h | h; exact h3 h; exact h4 h)])
                    have q4 : (x.sq == 4294967295) = false := by simp [h4]
                    clear h4
                    go_wp2_with fail
                    go_ret
                    exact ⟨ret_int FIN.out.symm, KW.out⟩
              · have FIN := Lib.hid (show opE s t (k : Int) = 0 from by rw [E.out]; unfold brE; rw [HWS.out, if_neg h1, if_neg (fun h => h2 h.1)])
                go_wp2_with fail
                go_ret
                exact ⟨ret_int FIN.out.symm, KW.out⟩
        · have E := Lib.hid (show opE s t (k : Int) = 9 from by rw [OE.out]; unfold opX; rw [SB.out, if_neg hf])
          have q0 : (yt != 0) = true := by
            by_cases q : yt = 0
            · exact absurd (by simp [fitB, q]) hf
            · simp [q]
          have q1 : (yt != tg) = true := by
            by_cases q : yt = tg
            · exact absurd (by simp [fitB, q]) hf
            · simp [q]
          clear hf
          have hdw : d < w2.heap.size := by omega
          go_wp2_with fail
          go_ret
          exact ⟨ret_int E.out.symm, BA.out _⟩
      · have g3 : (l : Int) ≤ (m : Int) := by omega
        have E := Lib.hid (show opE s t (k : Int) = 9 from by rw [OE.out]; unfold opX sbO; rw [if_pos hsn, hm, Int.toNat_natCast, List.getElem?_eq_none (by omega)]; rfl)
        clear hsn rs hm
        go_wp2_with fail
        go_ret
        exact ⟨ret_int E.out.symm, K2.out⟩

end Go.Proofs.YtnmfjnfdnjjngaaGreatDoor

namespace Go.Proofs.YtnmfjnfdnjjngaaGreatDoor
open Go.RowKit
set_option maxRecDepth 100000

/-- No Sequence but the last one ahead of a place. -/
def FinalTo (xs : List InD) (q : Nat) : Prop := ∀ j x, j < q → xs[j]? = some x → x.sq = 4294967295
theorem FinalTo.all {xs : List InD} (h : FinalTo xs xs.length) : xs.any askB = false := by
  rw [List.any_eq_false]
  intro x hx
  obtain ⟨j, hj, rfl⟩ := List.getElem_of_mem hx
  have := h j _ hj (List.getElem?_eq_getElem hj)
  simp [askB, this]
theorem FinalTo.step {xs : List InD} {q : Nat} {x : InD} (h : FinalTo xs q) (hx : xs[q]? = some x) (e : x.sq = 4294967295) : FinalTo xs (q + 1) := by
  intro j y hj hy
  by_cases hq : j < q
  · exact h j y hq hy
  · obtain rfl : j = q := by omega
    rw [hx] at hy
    injection hy with hy
    subst hy
    exact e
theorem any_ask {xs : List InD} {q : Nat} {x : InD} (hx : xs[q]? = some x) (e : ¬ x.sq = 4294967295) : xs.any askB = true := by
  rw [List.any_eq_true]
  exact ⟨x, List.mem_of_getElem? hx, by simp [askB, e]⟩

set_option maxHeartbeats 4000000 in
set_option maxRecDepth 100000 in
theorem rripe_any (t : TxD) (i cn h : Int) (vi vo : Value) (w : World) (ht : TxAt w 0 w.heap.size vi vo t) (hok : t.Ok) :
    Calls Tryz.prog 77 #[.agg #[.int .u32 t.ver, vi, vo, .int .u32 t.lock], .int .i64 i, .int .i64 cn, .int .i64 h] w fun e w' => e = .returned (.bool (rpB t i cn h)) ∧ Below w.heap.size w w' := by
  obtain ⟨w0, hw0⟩ : ∃ w0, w0 = w.alloc (.cells #[.int .u32 t.ver, vi, vo, .int .u32 t.lock] 51) := ⟨_, rfl⟩
  have z0 : w0.heap.size = w.heap.size + 1 := by rw [hw0]; simp
  have hb0 : Below w.heap.size w w0 := by rw [hw0]; exact (Below.refl _ _).alloc (Nat.le_refl _) _
  have BX := Lib.hid (show Boxed w0 w.heap.size (.int .u32 t.ver) vi vo (.int .u32 t.lock) from by rw [hw0]; exact Boxed.new _ _ _ _ _ _)
  have HT := Lib.hid (ht.keep (Kept.of_below hb0 (Nat.le_refl _)))
  have B0 := Lib.hid hb0
  have HW0 := Lib.hid hw0
  obtain ⟨Ai, ci, rfl⟩ := ht.1.form
  have hlt : w.heap.size < w0.heap.size := by omega
  clear ht hb0 hw0
  obtain ⟨b0, b1, b2, b3⟩ := BX.out
  go_enter Tryz.func77, Tryz.ntmps77
  go_upto_region 1 with (fail)
  rw [show World.alloc w _ = w0 from HW0.out.symm]
  have hn := hok.1
  have lk := hok.2.2.2.2.2.2
  cases hh : hiB t i with
  | false =>
    have E := Lib.hid (rp_no (c := cn) (h := h) hh)
    by_cases h0 : i < 0
    · clear hh
      go_wp2_with fail
      go_ret
      exact ⟨ret_bool E.out.symm, B0.out⟩
    · have h1 : (t.ins.length : Int) ≤ i := by simp [hiB] at hh; omega
      obtain ⟨n, hne⟩ : ∃ n, t.ins.length = n := ⟨_, rfl⟩
      rw [hne] at h1 b1 hn
      clear hh hne
      go_wp2_with fail
      go_ret
      exact ⟨ret_bool E.out.symm, B0.out⟩
  | true =>
    obtain ⟨k, x, rfl, hx⟩ := hi_at hh
    have OE := Lib.hid (rp_at (c := cn) (h := h) hx)
    obtain ⟨_, _, wq1, wq2⟩ := wit_ok hok hx
    have hk := (List.getElem?_eq_some_iff.1 hx).1
    have G := Lib.hid (fun W (hW : Below w0.heap.size w0 W) => HT.out.keep (Kept.of_below hW (by omega)))
    have CW := Lib.hid (fun W (hW : Below w0.heap.size w0 W) => rwaits_any t k x (.slice Ai t.ins.length ci) vo W 0 w.heap.size (G.out W hW) (by have := hW.size; omega) hn hx ⟨wq1, wq2⟩)
    have IA := Lib.hid (fun W (hW : Below w0.heap.size w0 W) (q : Nat) (y : InD) (hy : t.ins[q]? = some y) => (G.out W hW).1.at hy)
    obtain ⟨b, off, rfl, _, hbw, _⟩ := IA.out w0 (Below.refl _ _) k x hx
    have wb := wsN_bd t.ver wq1
    unfold rpX at OE
    have AY := Lib.hid (fun q y (hy : t.ins[q]? = some y) (e : ¬ y.sq = 4294967295) => any_ask hy e)
    have AN := Lib.hid (fun hf : FinalTo t.ins t.ins.length => hf.all)
    have GE := Lib.hid (fun q (hq : q < t.ins.length) => (⟨_, List.getElem?_eq_getElem hq⟩ : ∃ y, t.ins[q]? = some y))
    obtain ⟨n, hne⟩ : ∃ n, t.ins.length = n := ⟨_, rfl⟩
    obtain ⟨ws, hws⟩ : ∃ q, wsN t.ver x.sq = q := ⟨_, rfl⟩
    obtain ⟨an, han⟩ : ∃ q, t.ins.any askB = q := ⟨_, rfl⟩
    rw [hne] at CW hk hn AN GE BX b1 ⊢
    rw [hws] at CW wb OE
    rw [han] at OE AY AN
    have k1 : (k : Int) < (n : Int) := by omega
    have k1' : ¬ (n : Int) ≤ (k : Int) := by omega
    have k0 : ¬ (k : Int) < 0 := by omega
    clear hh hx hne hws han
    by_cases c0 : cn < 0
    · have E := Lib.hid (show rpB t (k : Int) cn h = false from by rw [OE.out, show htB cn = false from decide_eq_false (by omega)]; rfl)
      go_wp2_with fail
      go_ret
      exact ⟨ret_bool E.out.symm, B0.out⟩
    by_cases c1 : h < 0
    · have E := Lib.hid (show rpB t (k : Int) cn h = false from by rw [OE.out, show htB h = false from decide_eq_false (by omega)]; simp)
      go_wp2_with fail
      go_ret
      exact ⟨ret_bool E.out.symm, B0.out⟩
    by_cases c2 : 1000000 < cn
    · have E := Lib.hid (show rpB t (k : Int) cn h = false from by rw [OE.out, show htB cn = false from decide_eq_false (by omega)]; rfl)
      go_wp2_with fail
      go_ret
      exact ⟨ret_bool E.out.symm, B0.out⟩
    by_cases c3 : 1000000 < h
    · have E := Lib.hid (show rpB t (k : Int) cn h = false from by rw [OE.out, show htB h = false from decide_eq_false (by omega)]; simp)
      go_wp2_with fail
      go_ret
      exact ⟨ret_bool E.out.symm, B0.out⟩
    have OE2 := Lib.hid (show rpB t (k : Int) cn h = (decide (cn + ws ≤ h) && (decide (t.lock < h) || !an)) from by rw [OE.out, show htB cn = true from decide_eq_true (by omega), show htB h = true from decide_eq_true (by omega)]; rfl)
    clear OE
    have v1 : IntKind.i64.wrap (cn + ws) = cn + ws := by rw [IntWalk.i64_in _ (by omega)]
    have v2 : IntKind.i64.wrap t.lock = t.lock := by rw [IntWalk.i64_in _ (by omega)]
    go_wp2_with fail
    refine (CW.out w0 (Below.refl _ _)).mono ?_
    rintro e w1 ⟨rfl, hb1⟩
    have L1 := Lib.hid hb1
    have z1 := hb1.size
    have KW := Lib.hid (below_next B0.out (by omega) L1.out)
    clear hb1 b0 b1 b2 b3
    obtain ⟨b0, b1, b2, b3⟩ := BX.out.below hlt L1.out
    by_cases g1 : h < cn + ws
    · have FIN := Lib.hid (show rpB t (k : Int) cn h = false from by rw [OE2.out, decide_eq_false (by omega)]; rfl)
      go_wp2_with fail
      go_ret
      exact ⟨ret_bool FIN.out.symm, KW.out⟩
    by_cases g2 : t.lock < h
    · have FIN := Lib.hid (show rpB t (k : Int) cn h = true from by rw [OE2.out, decide_eq_true (show cn + ws ≤ h by omega), decide_eq_true g2]; rfl)
      go_wp2_with fail
      go_ret
      exact ⟨ret_bool FIN.out.symm, KW.out⟩
    have OE3 := Lib.hid (show rpB t (k : Int) cn h = !an from by rw [OE2.out, decide_eq_true (show cn + ws ≤ h by omega), decide_eq_false g2]; simp)
    clear OE2
    go_wp2_with fail
    go_loopg [10] n (fun gg s10 wr => ∃ q : Nat, q ≤ n ∧ n - q ≤ gg ∧ s10 = .int .i64 q ∧ Hid (FinalTo t.ins q) ∧ w1 = wr)
    case atStart => exact ⟨0, by omega, by omega, rfl, Lib.hid (fun j x hj => absurd hj (by omega)), rfl⟩
    case round =>
      obtain ⟨q, hq, hg, rfl, FT, rfl⟩ := hrel
      by_cases hlt2 : q < n
      · have k2 : (q : Int) < (n : Int) := by omega
        have k3 : decide (q < n) = true := decide_eq_true hlt2
        obtain ⟨y, hy⟩ := GE.out q hlt2
        obtain ⟨b', off', hA, _, hbw', d0, d1, d2, u', d3, _⟩ := IA.out w1 L1.out q y hy
        injection hA with hA
        injection hA with e1 e2
        subst e1 e2
        have AYq := Lib.hid (AY.out q y hy)
        have FTq := Lib.hid (fun e => FT.out.step hy e)
        clear hy
        by_cases hf : y.sq = 4294967295
        · have FN := Lib.hid (FTq.out hf)
          have q4 : (y.sq != 4294967295) = false := by simp [hf]
          have s1 : IntKind.i64.wrap ((q : Int) + 1) = ((q + 1 : Nat) : Int) := by rw [IntWalk.i64_in _ (by omega)]; omega
          clear hf s1
          go_wp2_with fail
          go_roundg (n - (q + 1))
          case measure => omega
          case rel => exact ⟨q + 1, by omega, by omega, by go_num, FN, rfl⟩
        · have FIN := Lib.hid (show rpB t (k : Int) cn h = false from by rw [OE3.out, AYq.out hf]; rfl)
          have q4 : (y.sq != 4294967295) = true := by simp [hf]
          clear hf
          go_wp2_with fail
          go_ret
          exact ⟨ret_bool FIN.out.symm, KW.out⟩
      · have k2 : ¬ (q : Int) < (n : Int) := by omega
        have FN := (show q = n by omega) ▸ FT.out
        have FIN := Lib.hid (show rpB t (k : Int) cn h = true from by rw [OE3.out, AN.out FN]; rfl)
        clear FN
        go_wp2_with fail
        go_ret
        exact ⟨ret_bool FIN.out.symm, KW.out⟩

end Go.Proofs.YtnmfjnfdnjjngaaGreatDoor
