/-
  Does a lock open: the document's Open.
-/
import Derived.Test.YtjclklppnkoehaaGreatDoorRip
import Derived.Test.YtjclklppnkoehaaGreatDoorRget
import Derived.Test.YtjclklppnkoehaaGreatDoorRsg
namespace Go.Proofs.YtjclklppnkoehaaGreatDoor
open Go.RowKit
set_option maxRecDepth 100000

theorem rs_no {ws : List ByteArray} (h : snB ws = false) : rsN ws = -1 := by unfold rsN; rw [if_neg (by rw [h]; decide)]
theorem rs_yes {ws : List ByteArray} (h : snB ws = true) : rsN ws = snN ws := by unfold rsN; rw [if_pos h]

set_option maxHeartbeats 4000000 in
set_option maxRecDepth 100000 in
theorem ropen_any (s : ByteArray) (t : TxD) (i : Int) (vi vo : Value) (w : World) (ht : TxAt w 0 w.heap.size vi vo t) (hok : t.Ok) (hs : s.size ≤ maxLen) :
    Calls Tryz.prog 27 #[.string s, .agg #[.int .u32 t.ver, vi, vo, .int .u32 t.lock], .int .i64 i] w fun e w' => e = .returned (.int .i64 (opE s t i)) ∧ Below w.heap.size w w' := by
  obtain ⟨w0, hw0⟩ : ∃ w0, w0 = w.alloc (.cells #[.int .u32 t.ver, vi, vo, .int .u32 t.lock] 34) := ⟨_, rfl⟩
  have z0 : w0.heap.size = w.heap.size + 1 := by rw [hw0]; simp
  have hb0 : Below w.heap.size w w0 := by rw [hw0]; exact (Below.refl _ _).alloc (Nat.le_refl _) _
  have BX := Lib.hid (show Boxed w0 w.heap.size (.int .u32 t.ver) vi vo (.int .u32 t.lock) from by rw [hw0]; exact Boxed.new _ _ _ _ _ _)
  have HT := Lib.hid (ht.keep (Kept.of_below hb0 (Nat.le_refl _)))
  have B0 := Lib.hid hb0
  have HW0 := Lib.hid hw0
  obtain ⟨Ai, ci, rfl⟩ := ht.1.form
  have hlt : w.heap.size < w0.heap.size := by omega
  clear ht hb0 hw0
  obtain ⟨b0, b1, b2, b3⟩ := BX.out
  go_enter Tryz.func27, Tryz.ntmps27
  go_upto_region 1 with (fail)
  rw [show World.alloc w _ = w0 from HW0.out.symm]
  have hn := hok.1
  cases hh : hiB t i with
  | false =>
    have E := Lib.hid (op_no (s := s) hh)
    by_cases h0 : i < 0
    · clear hh
      go_wp2_with fail
      go_ret
      exact ⟨ret_int E.out.symm, B0.out⟩
    · have h1 : (t.ins.length : Int) ≤ i := by simp [hiB] at hh; omega
      obtain ⟨n, hne⟩ : ∃ n, t.ins.length = n := ⟨_, rfl⟩
      rw [hne] at h1 b1 hn
      clear hh hne
      go_wp2_with fail
      go_ret
      exact ⟨ret_int E.out.symm, B0.out⟩
  | true =>
    obtain ⟨k, x, rfl, hx⟩ := hi_at hh
    have OE := Lib.hid (op_at (s := s) hx)
    obtain ⟨wo1, wo2, wq1, wq2⟩ := wit_ok hok hx
    have hk := (List.getElem?_eq_some_iff.1 hx).1
    have G := Lib.hid (fun W (hW : Below w0.heap.size w0 W) => HT.out.keep (Kept.of_below hW (by omega)))
    have CW := Lib.hid (fun W (hW : Below w0.heap.size w0 W) => rwaits_any t k x (.slice Ai t.ins.length ci) vo W 0 w.heap.size (G.out W hW) (by have := hW.size; omega) hn hx ⟨wq1, wq2⟩)
    have CG := Lib.hid (rlget_any s w0 hs)
    have CS := Lib.hid (fun W A c (h : Strs W 0 w.heap.size (.slice A x.wit.length c) x.wit) => rsigned_any x.wit (.slice A x.wit.length c) W 0 w.heap.size h wo2)
    have IA := Lib.hid (fun W (hW : Below w0.heap.size w0 W) => (G.out W hW).1.at hx)
    have wb := wsN_bd t.ver wq1
    obtain ⟨n, hne⟩ : ∃ n, t.ins.length = n := ⟨_, rfl⟩
    obtain ⟨ws, hws⟩ : ∃ q, wsN t.ver x.sq = q := ⟨_, rfl⟩
    rw [hne] at CW hk hn ⊢
    rw [hws] at CW wb
    have k1 : (k : Int) < (n : Int) := by omega
    have k1' : ¬ (n : Int) ≤ (k : Int) := by omega
    have k0 : ¬ (k : Int) < 0 := by omega
    have HWS := Lib.hid hws
    rw [hne] at BX b1
    clear hh hx hne hws hs wo1 wo2
    go_wp2_with fail
    refine CG.out.mono ?_
    rintro e w1 ⟨vg, rfl, hbr, hb1⟩
    have L1 := Lib.hid hb1
    have hlen := gtR_len s
    obtain ⟨Ag, cg, rfl⟩ := hbr.form
    have HBR := Lib.hid hbr
    clear hb1 b0 b1 b2 b3 CG hbr
    obtain ⟨l, hle⟩ : ∃ l, (gtR s).length = l := ⟨_, rfl⟩
    rw [hle] at hlen HBR ⊢
    obtain ⟨b0, b1, b2, b3⟩ := BX.out.below hlt L1.out
    obtain ⟨b, off, rfl, _, hbw, c0, c1, c2, u, c3, hst⟩ := IA.out w1 L1.out
    obtain ⟨Aw, cw, rfl⟩ : ∃ A c, u = .slice A x.wit.length c := by obtain ⟨A, c, rfl, _⟩ := hst; exact ⟨A, c, rfl⟩
    have CS1 := Lib.hid (CS.out w1 Aw cw hst)
    have hb1w : b < w1.heap.size := by have := L1.out.size; omega
    have nb := snN_bd x.wit
    have tb := snT_bd x.wit
    obtain ⟨m, hm⟩ : ∃ m : Nat, snN x.wit = (m : Int) := ⟨(snN x.wit).toNat, by omega⟩
    clear hst CS
    go_wp2_with fail
    refine CS1.out.mono ?_
    rintro e w2 ⟨rfl, hb2⟩
    have z1 := L1.out.size
    have z2 := hb2.size
    have L2 := Lib.hid (below_next L1.out L1.out.size hb2)
    have K2 := Lib.hid (below_next B0.out (by omega) L2.out)
    have BA := Lib.hid (fun o => K2.out.alloc K2.out.size o)
    have HB2 := Lib.hid (HBR.out.keep (Kept.of_below hb2 (Nat.le_refl _)))
    clear hb2 CS1 b0 b1 b2 b3 c0 c1 c2 c3 HBR
    cases hsn : snB x.wit with
    | false =>
      have rs := rs_no hsn
      have E := Lib.hid (show opE s t (k : Int) = 9 from by rw [OE.out]; unfold opX; rw [sb_not hsn])
      rw [rs]
      clear hsn rs
      go_wp2_with fail
      go_ret
      exact ⟨ret_int E.out.symm, K2.out⟩
    | true =>
      have rs := (rs_yes hsn).trans hm
      rw [rs]
      have m0 : ¬ (m : Int) < 0 := by omega
      by_cases hm3 : m < l
      · have g3 : ¬ (l : Int) ≤ (m : Int) := by omega
        have g4 : (m : Int) < (l : Int) := by omega
        obtain ⟨y, hy⟩ : ∃ y, (gtR s)[m]? = some y := ⟨_, List.getElem?_eq_getElem (by omega)⟩
        obtain ⟨o1, o2, o3, o4, o5, o6⟩ := gtR_ok s _ (List.mem_of_getElem? hy)
        have SB := Lib.hid (show sbO s x.wit = if fitB y (snT x.wit) = true then some y else none from by unfold sbO; rw [if_pos hsn, hm, Int.toNat_natCast, hy]; rfl)
        obtain ⟨d, doff, rfl, _, hd2, d0, d1, d2⟩ := HB2.out.at hy
        obtain ⟨tg, htg⟩ : ∃ q, snT x.wit = q := ⟨_, rfl⟩
        rw [htg] at SB tb ⊢
        obtain ⟨yt, yd, yh⟩ := y
        simp only at o1 o2 o3 o4 o5 o6 d0 d1 d2
        have v0 : IntKind.i64.wrap yt = yt := by rw [IntWalk.i64_in _ (by omega)]
        have v1 : IntKind.i64.wrap yd = yd := by rw [IntWalk.i64_in _ (by omega)]
        clear hsn rs hm hy htg
        by_cases hf : fitB ⟨yt, yd, yh⟩ tg = true
        · have E := Lib.hid (show opE s t (k : Int) = brE ⟨yt, yd, yh⟩ t x from by rw [OE.out]; unfold opX; rw [SB.out, if_pos hf])
          obtain ⟨w3, hw3⟩ : ∃ w3, w3 = w2.alloc (.cells #[.int .u16 yt, .int .u16 yd, .int .u32 yh] 101) := ⟨_, rfl⟩
          have hb3 : Below w2.heap.size w2 w3 := by rw [hw3]; exact (Below.refl _ _).alloc (Nat.le_refl _) _
          have z3 : w3.heap.size = w2.heap.size + 1 := by rw [hw3]; simp
          have L3 := Lib.hid (below_next L2.out L2.out.size hb3)
          have y0 : w3.cell? ⟨w2.heap.size, 0, none⟩ = some (.int .u16 yt) := by rw [hw3]; simp
          have y1 : w3.cell? ⟨w2.heap.size, 1, none⟩ = some (.int .u16 yd) := by rw [hw3]; simp
          have y2 : w3.cell? ⟨w2.heap.size, 2, none⟩ = some (.int .u32 yh) := by rw [hw3]; simp
          have HW3 := Lib.hid hw3
          have hdw : d < w2.heap.size := by omega
          clear hb3 hw3
          go_upto_region 8 with (fail)
          rw [show World.alloc w2 _ = w3 from HW3.out.symm]
          clear d0 d1 d2
          obtain ⟨b0, b1, b2, b3⟩ := BX.out.below hlt L3.out
          have CW3 := Lib.hid (CW.out w3 L3.out)
          clear CW
          have hfx : ((yt != 0) = false) ∨ ((yt != 0) = true ∧ (yt != tg) = false) := by
            by_cases q : yt = 0
            · exact .inl (by simp [q])
            · refine .inr ⟨by simp [q], ?_⟩
              have : yt = tg := by simpa [fitB, q] using hf
              simp [this]
          have AFT := Lib.hid (show ∀ W, Below w3.heap.size w3 W → Boxed W w.heap.size (.int .u32 t.ver) (.slice (some ⟨b, off, none⟩) n ci) vo (.int .u32 t.lock) ∧ W.cell? ⟨w2.heap.size, 1, none⟩ = some (.int .u16 yd) ∧ W.cell? ⟨w2.heap.size, 2, none⟩ = some (.int .u32 yh) ∧ Below w0.heap.size w0 W ∧ Below w.heap.size w W from fun W hW => by
            have L4 := below_next L3.out L3.out.size hW
            exact ⟨BX.out.below hlt L4, (hW.cell (p := ⟨w2.heap.size, 1, none⟩) (by show w2.heap.size < _; omega)).trans y1, (hW.cell (p := ⟨w2.heap.size, 2, none⟩) (by show w2.heap.size < _; omega)).trans y2, L4, below_next B0.out (by omega) L4⟩)
          clear hf SB y1 y2
          rcases hfx with q0 | ⟨q0, q1⟩
          all_goals
            go_wp2_with fail
            refine CW3.out.mono ?_
            rintro e W ⟨rfl, hW⟩
            obtain ⟨⟨b0, b1, b2, b3⟩, y1, y2, L4, KW⟩ := AFT.out W hW
            have KW := Lib.hid KW
            obtain ⟨b', off', hA, _, hbw', c0, c1, c2, u', c3, _⟩ := IA.out W L4
            injection hA with hA
            injection hA with e1 e2
            subst e1 e2
            clear hW y0 L4
            by_cases h1 : ws < yd
            · have FIN := Lib.hid (show opE s t (k : Int) = 10 from by rw [E.out]; unfold brE; rw [HWS.out, if_pos h1])
              go_wp2_with fail
              go_ret
              exact ⟨ret_int FIN.out.symm, KW.out⟩
            · by_cases h2 : 0 < yh
              · by_cases h3 : t.lock < yh
                · have FIN := Lib.hid (show opE s t (k : Int) = 10 from by rw [E.out]; unfold brE; rw [HWS.out, if_neg h1, if_pos ⟨h2, .inl h3⟩])
                  go_wp2_with fail
                  go_ret
                  exact ⟨ret_int FIN.out.symm, KW.out⟩
                · by_cases h4 : x.sq = 4294967295
                  · have FIN := Lib.hid (show opE s t (k : Int) = 10 from by rw [E.out]; unfold brE; rw [HWS.out, if_neg h1, if_pos ⟨h2, .inr h4⟩])
                    have q4 : (x.sq == 4294967295) = true := by simp [h4]
                    clear h4
                    go_wp2_with fail
                    go_ret
                    exact ⟨ret_int FIN.out.symm, KW.out⟩
                  · have FIN := Lib.hid (show opE s t (k : Int) = 0 from by rw [E.out]; unfold brE; rw [HWS.out, if_neg h1, if_neg (fun h => by rcases h.2 with h | h; exact h3 h; exact h4 h)])
                    have q4 : (x.sq == 4294967295) = false := by simp [h4]
                    clear h4
                    go_wp2_with fail
                    go_ret
                    exact ⟨ret_int FIN.out.symm, KW.out⟩
              · have FIN := Lib.hid (show opE s t (k : Int) = 0 from by rw [E.out]; unfold brE; rw [HWS.out, if_neg h1, if_neg (fun h => h2 h.1)])
                go_wp2_with fail
                go_ret
                exact ⟨ret_int FIN.out.symm, KW.out⟩
        · have E := Lib.hid (show opE s t (k : Int) = 9 from by rw [OE.out]; unfold opX; rw [SB.out, if_neg hf])
          have q0 : (yt != 0) = true := by
            by_cases q : yt = 0
            · exact absurd (by simp [fitB, q]) hf
            · simp [q]
          have q1 : (yt != tg) = true := by
            by_cases q : yt = tg
            · exact absurd (by simp [fitB, q]) hf
            · simp [q]
          clear hf
          have hdw : d < w2.heap.size := by omega
          go_wp2_with fail
          go_ret
          exact ⟨ret_int E.out.symm, BA.out _⟩
      · have g3 : (l : Int) ≤ (m : Int) := by omega
        have E := Lib.hid (show opE s t (k : Int) = 9 from by rw [OE.out]; unfold opX sbO; rw [if_pos hsn, hm, Int.toNat_natCast, List.getElem?_eq_none (by omega)]; rfl)
        clear hsn rs hm
        go_wp2_with fail
        go_ret
        exact ⟨ret_int E.out.symm, K2.out⟩

end Go.Proofs.YtjclklppnkoehaaGreatDoor
