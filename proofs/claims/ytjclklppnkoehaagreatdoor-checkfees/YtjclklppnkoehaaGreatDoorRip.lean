/-
  May an input be in a block of a height: the program's Ripe, and the document's.
-/
import Derived.Test.YtjclklppnkoehaaGreatDoorLopn
namespace Go.Proofs.YtjclklppnkoehaaGreatDoor
open Go.RowKit
set_option maxRecDepth 100000

/-- P8.4. -/
def rpX (t : TxD) (x : InD) (c h : Int) : Bool := decide (c + wsN t.ver x.sq ≤ h) && (decide (t.lock < h) || !(t.ins.any askB))
def rpB (t : TxD) (i c h : Int) : Bool := if i < 0 then false else match t.ins[i.toNat]? with | none => false | some x => htB c && htB h && rpX t x c h
theorem rp_no {t : TxD} {i c h : Int} (hh : hiB t i = false) : rpB t i c h = false := by
  unfold rpB
  by_cases h0 : i < 0
  · rw [if_pos h0]
  · rw [if_neg h0]
    have : t.ins[i.toNat]? = none := List.getElem?_eq_none (by simp [hiB] at hh; omega)
    rw [this]
theorem rp_at {t : TxD} {k : Nat} {x : InD} {c h : Int} (hx : t.ins[k]? = some x) : rpB t (k : Int) c h = (htB c && htB h && rpX t x c h) := by
  unfold rpB
  rw [if_neg (by omega), Int.toNat_natCast, hx]

set_option maxHeartbeats 4000000 in
set_option maxRecDepth 100000 in
theorem ripe_any (t : TxD) (i cn h : Int) (vi vo : Value) (w : World) (ht : TxAt w 0 w.heap.size vi vo t) (hok : t.Ok) :
    Calls Tryz.prog 68 #[.agg #[.int .u32 t.ver, vi, vo, .int .u32 t.lock], .int .i64 i, .int .i64 cn, .int .i64 h] w fun e w' => e = .returned (.bool (rpB t i cn h)) ∧ Below w.heap.size w w' := by
  obtain ⟨w0, hw0⟩ : ∃ w0, w0 = w.alloc (.cells #[.int .u32 t.ver, vi, vo, .int .u32 t.lock] 34) := ⟨_, rfl⟩
  have z0 : w0.heap.size = w.heap.size + 1 := by rw [hw0]; simp
  have hb0 : Below w.heap.size w w0 := by rw [hw0]; exact (Below.refl _ _).alloc (Nat.le_refl _) _
  have BX := Lib.hid (show Boxed w0 w.heap.size (.int .u32 t.ver) vi vo (.int .u32 t.lock) from by rw [hw0]; exact Boxed.new _ _ _ _ _ _)
  have HT := Lib.hid (ht.keep (Kept.of_below hb0 (Nat.le_refl _)))
  have B0 := Lib.hid hb0
  have HW0 := Lib.hid hw0
  obtain ⟨Ai, ci, rfl⟩ := ht.1.form
  have CH := Lib.hid (hasin_any t i _ vo w0 0 w.heap.size HT.out hok.1)
  have hlt : w.heap.size < w0.heap.size := by omega
  clear ht hb0 hw0
  obtain ⟨b0, b1, b2, b3⟩ := BX.out
  go_enter Tryz.func68, Tryz.ntmps68
  go_upto_region 1 with (fail)
  rw [show World.alloc w _ = w0 from HW0.out.symm]
  cases hh : hiB t i with
  | false =>
    have E := Lib.hid (rp_no (c := cn) (h := h) hh)
    rw [hh] at CH
    clear hh
    go_wp2_with fail
    refine CH.out.mono ?_
    rintro e w1 ⟨rfl, hb1⟩
    go_wp2_with fail
    go_ret
    exact ⟨ret_bool E.out.symm, below_next B0.out (by omega) hb1⟩
  | true =>
    obtain ⟨k, x, rfl, hx⟩ := hi_at hh
    rw [hh] at CH
    have OE := Lib.hid (rp_at (c := cn) (h := h) hx)
    obtain ⟨_, _, wq1, wq2⟩ := wit_ok hok hx
    have hn := hok.1
    have lk := hok.2.2.2.2.2.2
    have G := Lib.hid (fun W (hW : Below w0.heap.size w0 W) => HT.out.keep (Kept.of_below hW (by omega)))
    have CW := Lib.hid (fun W (hW : Below w0.heap.size w0 W) => waits_any t k x (.slice Ai t.ins.length ci) vo W 0 w.heap.size (G.out W hW) (by have := hW.size; omega) hn hx ⟨wq1, wq2⟩)
    have CF := Lib.hid (fun W (hW : Below w0.heap.size w0 W) => final_any t (.slice Ai t.ins.length ci) vo W 0 w.heap.size (G.out W hW) (by have := hW.size; omega) hn)
    have wb := wsN_bd t.ver wq1
    unfold rpX at OE
    obtain ⟨ws, hws⟩ : ∃ q, wsN t.ver x.sq = q := ⟨_, rfl⟩
    obtain ⟨an, han⟩ : ∃ q, t.ins.any askB = q := ⟨_, rfl⟩
    rw [hws] at CW wb OE
    rw [han] at CF OE
    clear hh hx hws han
    go_wp2_with fail
    refine CH.out.mono ?_
    rintro e w1 ⟨rfl, hb1⟩
    have L1 := Lib.hid hb1
    clear hb1 b0 b1 b2 b3 CH
    by_cases hc : 0 ≤ cn ∧ cn ≤ 1000000
    · have C1 := Lib.hid (fun W => isht_any cn W)
      have e1 : htB cn = true := decide_eq_true hc
      rw [e1] at C1 OE
      by_cases hq : 0 ≤ h ∧ h ≤ 1000000
      · have C2 := Lib.hid (fun W => isht_any h W)
        have e2 : htB h = true := decide_eq_true hq
        rw [e2] at C2 OE
        clear e1 e2
        go_wp2_with fail
        refine (C1.out _).mono ?_
        rintro e wz ⟨rfl, rfl⟩
        go_wp2_with fail
        refine (C2.out _).mono ?_
        rintro e wz ⟨rfl, rfl⟩
        obtain ⟨b0, b1, b2, b3⟩ := BX.out.below hlt L1.out
        go_wp2_with fail
        refine (CW.out w1 L1.out).mono ?_
        rintro e w2 ⟨rfl, hb2⟩
        have L2 := Lib.hid (below_next L1.out L1.out.size hb2)
        clear hb2 b0 b1 b2 b3
        obtain ⟨b0, b1, b2, b3⟩ := BX.out.below hlt L2.out
        have v1 : IntKind.i64.wrap (cn + ws) = cn + ws := by rw [IntWalk.i64_in _ (by omega)]
        have v2 : IntKind.u32.wrap h = h := by rw [IntWalk.u32_in _ (by omega)]
        by_cases g1 : cn + ws ≤ h
        · by_cases g2 : t.lock < h
          · have FIN := Lib.hid (show rpB t (k : Int) cn h = true from by rw [OE.out, decide_eq_true g1, decide_eq_true g2]; rfl)
            go_wp2_with fail
            go_ret
            exact ⟨ret_bool FIN.out.symm, below_next B0.out (by omega) L2.out⟩
          · have FIN := Lib.hid (show rpB t (k : Int) cn h = !an from by rw [OE.out, decide_eq_true g1, decide_eq_false g2]; simp)
            have G2 := Lib.hid (show decide (t.lock < h) = false from decide_eq_false g2)
            go_wp2_with fail
            refine (CF.out w2 L2.out).mono ?_
            rintro e w3 ⟨rfl, hb3⟩
            have L3 := Lib.hid (below_next L2.out L2.out.size hb3)
            clear hb3
            go_wp2_with fail
            go_ret
            exact ⟨ret_bool (by rw [FIN.out, G2.out]; rfl), below_next B0.out (by omega) L3.out⟩
        · have FIN := Lib.hid (show rpB t (k : Int) cn h = false from by rw [OE.out, decide_eq_false g1]; rfl)
          go_wp2_with fail
          go_ret
          exact ⟨ret_bool FIN.out.symm, below_next B0.out (by omega) L2.out⟩
      · have C2 := Lib.hid (fun W => isht_any h W)
        have e2 : htB h = false := decide_eq_false hq
        rw [e2] at C2 OE
        clear e1 e2 hq
        go_wp2_with fail
        refine (C1.out _).mono ?_
        rintro e wz ⟨rfl, rfl⟩
        go_wp2_with fail
        refine (C2.out _).mono ?_
        rintro e wz ⟨rfl, rfl⟩
        go_wp2_with fail
        go_ret
        exact ⟨ret_bool OE.out.symm, below_next B0.out (by omega) L1.out⟩
    · have C1 := Lib.hid (fun W => isht_any cn W)
      have e1 : htB cn = false := decide_eq_false hc
      rw [e1] at C1 OE
      clear e1 hc
      go_wp2_with fail
      refine (C1.out _).mono ?_
      rintro e wz ⟨rfl, rfl⟩
      go_wp2_with fail
      go_ret
      exact ⟨ret_bool OE.out.symm, below_next B0.out (by omega) L1.out⟩

end Go.Proofs.YtjclklppnkoehaaGreatDoor
