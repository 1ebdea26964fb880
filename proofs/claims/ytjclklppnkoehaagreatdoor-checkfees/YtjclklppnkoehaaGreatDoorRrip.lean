/-
  May an input be in a block of a height: the document's Ripe.
-/
import Derived.Test.YtjclklppnkoehaaGreatDoorRopn
namespace Go.Proofs.YtjclklppnkoehaaGreatDoor
open Go.RowKit
set_option maxRecDepth 100000

/-- No Sequence but the last one ahead of a place. -/
def FinalTo (xs : List InD) (q : Nat) : Prop := ∀ j x, j < q → xs[j]? = some x → x.sq = 4294967295
theorem FinalTo.all {xs : List InD} (h : FinalTo xs xs.length) : xs.any askB = false := by
  rw [List.any_eq_false]
  intro x hx
  obtain ⟨j, hj, rfl⟩ := List.getElem_of_mem hx
  have := h j _ hj (List.getElem?_eq_getElem hj)
  simp [askB, this]
theorem FinalTo.step {xs : List InD} {q : Nat} {x : InD} (h : FinalTo xs q) (hx : xs[q]? = some x) (e : x.sq = 4294967295) : FinalTo xs (q + 1) := by
  intro j y hj hy
  by_cases hq : j < q
  · exact h j y hq hy
  · obtain rfl : j = q := by omega
    rw [hx] at hy
    injection hy with hy
    subst hy
    exact e
theorem any_ask {xs : List InD} {q : Nat} {x : InD} (hx : xs[q]? = some x) (e : ¬ x.sq = 4294967295) : xs.any askB = true := by
  rw [List.any_eq_true]
  exact ⟨x, List.mem_of_getElem? hx, by simp [askB, e]⟩

set_option maxHeartbeats 4000000 in
set_option maxRecDepth 100000 in
theorem rripe_any (t : TxD) (i cn h : Int) (vi vo : Value) (w : World) (ht : TxAt w 0 w.heap.size vi vo t) (hok : t.Ok) :
    Calls Tryz.prog 28 #[.agg #[.int .u32 t.ver, vi, vo, .int .u32 t.lock], .int .i64 i, .int .i64 cn, .int .i64 h] w fun e w' => e = .returned (.bool (rpB t i cn h)) ∧ Below w.heap.size w w' := by
  obtain ⟨w0, hw0⟩ : ∃ w0, w0 = w.alloc (.cells #[.int .u32 t.ver, vi, vo, .int .u32 t.lock] 34) := ⟨_, rfl⟩
  have z0 : w0.heap.size = w.heap.size + 1 := by rw [hw0]; simp
  have hb0 : Below w.heap.size w w0 := by rw [hw0]; exact (Below.refl _ _).alloc (Nat.le_refl _) _
  have BX := Lib.hid (show Boxed w0 w.heap.size (.int .u32 t.ver) vi vo (.int .u32 t.lock) from by rw [hw0]; exact Boxed.new _ _ _ _ _ _)
  have HT := Lib.hid (ht.keep (Kept.of_below hb0 (Nat.le_refl _)))
  have B0 := Lib.hid hb0
  have HW0 := Lib.hid hw0
  obtain ⟨Ai, ci, rfl⟩ := ht.1.form
  have hlt : w.heap.size < w0.heap.size := by omega
  clear ht hb0 hw0
  obtain ⟨b0, b1, b2, b3⟩ := BX.out
  go_enter Tryz.func28, Tryz.ntmps28
  go_upto_region 1 with (fail)
  rw [show World.alloc w _ = w0 from HW0.out.symm]
  have hn := hok.1
  have lk := hok.2.2.2.2.2.2
  cases hh : hiB t i with
  | false =>
    have E := Lib.hid (rp_no (c := cn) (h := h) hh)
    by_cases h0 : i < 0
    · clear hh
      go_wp2_with fail
      go_ret
      exact ⟨ret_bool E.out.symm, B0.out⟩
    · have h1 : (t.ins.length : Int) ≤ i := by simp [hiB] at hh; omega
      obtain ⟨n, hne⟩ : ∃ n, t.ins.length = n := ⟨_, rfl⟩
      rw [hne] at h1 b1 hn
      clear hh hne
      go_wp2_with fail
      go_ret
      exact ⟨ret_bool E.out.symm, B0.out⟩
  | true =>
    obtain ⟨k, x, rfl, hx⟩ := hi_at hh
    have OE := Lib.hid (rp_at (c := cn) (h := h) hx)
    obtain ⟨_, _, wq1, wq2⟩ := wit_ok hok hx
    have hk := (List.getElem?_eq_some_iff.1 hx).1
    have G := Lib.hid (fun W (hW : Below w0.heap.size w0 W) => HT.out.keep (Kept.of_below hW (by omega)))
    have CW := Lib.hid (fun W (hW : Below w0.heap.size w0 W) => rwaits_any t k x (.slice Ai t.ins.length ci) vo W 0 w.heap.size (G.out W hW) (by have := hW.size; omega) hn hx ⟨wq1, wq2⟩)
    have IA := Lib.hid (fun W (hW : Below w0.heap.size w0 W) (q : Nat) (y : InD) (hy : t.ins[q]? = some y) => (G.out W hW).1.at hy)
    obtain ⟨b, off, rfl, _, hbw, _⟩ := IA.out w0 (Below.refl _ _) k x hx
    have wb := wsN_bd t.ver wq1
    unfold rpX at OE
    have AY := Lib.hid (fun q y (hy : t.ins[q]? = some y) (e : ¬ y.sq = 4294967295) => any_ask hy e)
    have AN := Lib.hid (fun hf : FinalTo t.ins t.ins.length => hf.all)
    have GE := Lib.hid (fun q (hq : q < t.ins.length) => (⟨_, List.getElem?_eq_getElem hq⟩ : ∃ y, t.ins[q]? = some y))
    obtain ⟨n, hne⟩ : ∃ n, t.ins.length = n := ⟨_, rfl⟩
    obtain ⟨ws, hws⟩ : ∃ q, wsN t.ver x.sq = q := ⟨_, rfl⟩
    obtain ⟨an, han⟩ : ∃ q, t.ins.any askB = q := ⟨_, rfl⟩
    rw [hne] at CW hk hn AN GE BX b1 ⊢
    rw [hws] at CW wb OE
    rw [han] at OE AY AN
    have k1 : (k : Int) < (n : Int) := by omega
    have k1' : ¬ (n : Int) ≤ (k : Int) := by omega
    have k0 : ¬ (k : Int) < 0 := by omega
    clear hh hx hne hws han
    by_cases c0 : cn < 0
    · have E := Lib.hid (show rpB t (k : Int) cn h = false from by rw [OE.out, show htB cn = false from decide_eq_false (by omega)]; rfl)
      go_wp2_with fail
      go_ret
      exact ⟨ret_bool E.out.symm, B0.out⟩
    by_cases c1 : h < 0
    · have E := Lib.hid (show rpB t (k : Int) cn h = false from by rw [OE.out, show htB h = false from decide_eq_false (by omega)]; simp)
      go_wp2_with fail
      go_ret
      exact ⟨ret_bool E.out.symm, B0.out⟩
    by_cases c2 : 1000000 < cn
    · have E := Lib.hid (show rpB t (k : Int) cn h = false from by rw [OE.out, show htB cn = false from decide_eq_false (by omega)]; rfl)
      go_wp2_with fail
      go_ret
      exact ⟨ret_bool E.out.symm, B0.out⟩
    by_cases c3 : 1000000 < h
    · have E := Lib.hid (show rpB t (k : Int) cn h = false from by rw [OE.out, show htB h = false from decide_eq_false (by omega)]; simp)
      go_wp2_with fail
      go_ret
      exact ⟨ret_bool E.out.symm, B0.out⟩
    have OE2 := Lib.hid (show rpB t (k : Int) cn h = (decide (cn + ws ≤ h) && (decide (t.lock < h) || !an)) from by rw [OE.out, show htB cn = true from decide_eq_true (by omega), show htB h = true from decide_eq_true (by omega)]; rfl)
    clear OE
    have v1 : IntKind.i64.wrap (cn + ws) = cn + ws := by rw [IntWalk.i64_in _ (by omega)]
    have v2 : IntKind.i64.wrap t.lock = t.lock := by rw [IntWalk.i64_in _ (by omega)]
    go_wp2_with fail
    refine (CW.out w0 (Below.refl _ _)).mono ?_
    rintro e w1 ⟨rfl, hb1⟩
    have L1 := Lib.hid hb1
    have z1 := hb1.size
    have KW := Lib.hid (below_next B0.out (by omega) L1.out)
    clear hb1 b0 b1 b2 b3
    obtain ⟨b0, b1, b2, b3⟩ := BX.out.below hlt L1.out
    by_cases g1 : h < cn + ws
    · have FIN := Lib.hid (show rpB t (k : Int) cn h = false from by rw [OE2.out, decide_eq_false (by omega)]; rfl)
      go_wp2_with fail
      go_ret
      exact ⟨ret_bool FIN.out.symm, KW.out⟩
    by_cases g2 : t.lock < h
    · have FIN := Lib.hid (show rpB t (k : Int) cn h = true from by rw [OE2.out, decide_eq_true (show cn + ws ≤ h by omega), decide_eq_true g2]; rfl)
      go_wp2_with fail
      go_ret
      exact ⟨ret_bool FIN.out.symm, KW.out⟩
    have OE3 := Lib.hid (show rpB t (k : Int) cn h = !an from by rw [OE2.out, decide_eq_true (show cn + ws ≤ h by omega), decide_eq_false g2]; simp)
    clear OE2
    go_wp2_with fail
    go_loopg [10] n (fun gg s10 wr => ∃ q : Nat, q ≤ n ∧ n - q ≤ gg ∧ s10 = .int .i64 q ∧ Hid (FinalTo t.ins q) ∧ w1 = wr)
    case atStart => exact ⟨0, by omega, by omega, rfl, Lib.hid (fun j x hj => absurd hj (by omega)), rfl⟩
    case round =>
      obtain ⟨q, hq, hg, rfl, FT, rfl⟩ := hrel
      by_cases hlt2 : q < n
      · have k2 : (q : Int) < (n : Int) := by omega
        have k3 : decide (q < n) = true := decide_eq_true hlt2
        obtain ⟨y, hy⟩ := GE.out q hlt2
        obtain ⟨b', off', hA, _, hbw', d0, d1, d2, u', d3, _⟩ := IA.out w1 L1.out q y hy
        injection hA with hA
        injection hA with e1 e2
        subst e1 e2
        have AYq := Lib.hid (AY.out q y hy)
        have FTq := Lib.hid (fun e => FT.out.step hy e)
        clear hy
        by_cases hf : y.sq = 4294967295
        · have FN := Lib.hid (FTq.out hf)
          have q4 : (y.sq != 4294967295) = false := by simp [hf]
          have s1 : IntKind.i64.wrap ((q : Int) + 1) = ((q + 1 : Nat) : Int) := by rw [IntWalk.i64_in _ (by omega)]; omega
          clear hf s1
          go_wp2_with fail
          go_roundg (n - (q + 1))
          case measure => omega
          case rel => exact ⟨q + 1, by omega, by omega, by go_num, FN, rfl⟩
        · have FIN := Lib.hid (show rpB t (k : Int) cn h = false from by rw [OE3.out, AYq.out hf]; rfl)
          have q4 : (y.sq != 4294967295) = true := by simp [hf]
          clear hf
          go_wp2_with fail
          go_ret
          exact ⟨ret_bool FIN.out.symm, KW.out⟩
      · have k2 : ¬ (q : Int) < (n : Int) := by omega
        have FN := (show q = n by omega) ▸ FT.out
        have FIN := Lib.hid (show rpB t (k : Int) cn h = true from by rw [OE3.out, AN.out FN]; rfl)
        clear FN
        go_wp2_with fail
        go_ret
        exact ⟨ret_bool FIN.out.symm, KW.out⟩

end Go.Proofs.YtjclklppnkoehaaGreatDoor
