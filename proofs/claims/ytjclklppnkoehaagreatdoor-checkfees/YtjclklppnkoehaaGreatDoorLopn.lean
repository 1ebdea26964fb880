/-
  Does a lock open: the program's Open.
-/
import Derived.Test.YtjclklppnkoehaaGreatDoorLsb
namespace Go.Proofs.YtjclklppnkoehaaGreatDoor
open Go.RowKit
set_option maxRecDepth 100000

/-- P8.3 of a branch, an In and a transaction. -/
def brE (b : BrD) (t : TxD) (x : InD) : Int := if wsN t.ver x.sq < b.del then 10 else if 0 < b.hgt ∧ (t.lock < b.hgt ∨ x.sq = 4294967295) then 10 else 0
def opX (s : ByteArray) (t : TxD) (x : InD) : Int := match sbO s x.wit with | none => 9 | some b => brE b t x
/-- P8.3. -/
def opE (s : ByteArray) (t : TxD) (i : Int) : Int := if i < 0 then 2 else match t.ins[i.toNat]? with | none => 2 | some x => opX s t x
theorem op_no {s : ByteArray} {t : TxD} {i : Int} (h : hiB t i = false) : opE s t i = 2 := by
  unfold opE
  by_cases h0 : i < 0
  · rw [if_pos h0]
  · rw [if_neg h0]
    have : t.ins[i.toNat]? = none := List.getElem?_eq_none (by simp [hiB] at h; omega)
    rw [this]
theorem op_at {s : ByteArray} {t : TxD} {k : Nat} {x : InD} (h : t.ins[k]? = some x) : opE s t (k : Int) = opX s t x := by
  unfold opE
  rw [if_neg (by omega), Int.toNat_natCast, h]
theorem hi_at {t : TxD} {i : Int} (h : hiB t i = true) : ∃ (k : Nat) (x : InD), i = (k : Int) ∧ t.ins[k]? = some x := by
  simp [hiB] at h
  exact ⟨i.toNat, t.ins[i.toNat]'(by omega), by omega, List.getElem?_eq_getElem _⟩
theorem wit_ok {t : TxD} (hok : t.Ok) {k : Nat} {x : InD} (h : t.ins[k]? = some x) : (∀ s ∈ x.wit, s.size ≤ maxLen) ∧ x.wit.length ≤ maxLen ∧ 0 ≤ x.sq ∧ x.sq ≤ 4294967295 := by
  obtain ⟨_, _, _, h4, h5, h6, h7⟩ := hok.2.2.1 x (List.mem_of_getElem? h)
  exact ⟨fun s hs => by have := h7 s hs; unfold maxLen; omega, by unfold maxLen; omega, h4, h5⟩
theorem sbX_ok (s : ByteArray) (ws : List ByteArray) {b : BrD} (h : sbO s ws = some b) : b.Ok := by
  unfold sbO at h
  split at h
  · cases e : (gtR s)[(snN ws).toNat]? with
    | none => rw [e] at h; cases h
    | some y =>
      rw [e] at h
      simp only [Option.bind_some] at h
      split at h
      · injection h with h
        subst h
        exact gtR_ok s _ (List.mem_of_getElem? e)
      · cases h
  · cases h

set_option maxHeartbeats 4000000 in
set_option maxRecDepth 100000 in
theorem open_any (s : ByteArray) (t : TxD) (i : Int) (vi vo : Value) (w : World) (ht : TxAt w 0 w.heap.size vi vo t) (hok : t.Ok) (hs : s.size ≤ maxLen) :
    Calls Tryz.prog 67 #[.string s, .agg #[.int .u32 t.ver, vi, vo, .int .u32 t.lock], .int .i64 i] w fun e w' => e = .returned (.int .i64 (opE s t i)) ∧ Below w.heap.size w w' := by
  obtain ⟨w0, hw0⟩ : ∃ w0, w0 = w.alloc (.cells #[.int .u32 t.ver, vi, vo, .int .u32 t.lock] 34) := ⟨_, rfl⟩
  have z0 : w0.heap.size = w.heap.size + 1 := by rw [hw0]; simp
  have hb0 : Below w.heap.size w w0 := by rw [hw0]; exact (Below.refl _ _).alloc (Nat.le_refl _) _
  have BX := Lib.hid (show Boxed w0 w.heap.size (.int .u32 t.ver) vi vo (.int .u32 t.lock) from by rw [hw0]; exact Boxed.new _ _ _ _ _ _)
  have HT := Lib.hid (ht.keep (Kept.of_below hb0 (Nat.le_refl _)))
  have B0 := Lib.hid hb0
  have HW0 := Lib.hid hw0
  obtain ⟨Ai, ci, rfl⟩ := ht.1.form
  have CH := Lib.hid (hasin_any t i _ vo w0 0 w.heap.size HT.out hok.1)
  have hlt : w.heap.size < w0.heap.size := by omega
  clear ht hb0 hw0
  obtain ⟨b0, b1, b2, b3⟩ := BX.out
  go_enter Tryz.func67, Tryz.ntmps67
  go_upto_region 1 with (fail)
  rw [show World.alloc w _ = w0 from HW0.out.symm]
  cases hh : hiB t i with
  | false =>
    have E := Lib.hid (op_no (s := s) hh)
    rw [hh] at CH
    clear hh
    go_wp2_with fail
    refine CH.out.mono ?_
    rintro e w1 ⟨rfl, hb1⟩
    go_wp2_with fail
    go_ret
    exact ⟨ret_int E.out.symm, below_next B0.out (by omega) hb1⟩
  | true =>
    obtain ⟨k, x, rfl, hx⟩ := hi_at hh
    rw [hh] at CH
    have OE := Lib.hid (op_at (s := s) hx)
    obtain ⟨wo1, wo2, wq1, wq2⟩ := wit_ok hok hx
    have hk := (List.getElem?_eq_some_iff.1 hx).1
    have hn := hok.1
    have G := Lib.hid (fun W (hW : Below w0.heap.size w0 W) => HT.out.keep (Kept.of_below hW (by omega)))
    have CW := Lib.hid (fun W (hW : Below w0.heap.size w0 W) => waits_any t k x (.slice Ai t.ins.length ci) vo W 0 w.heap.size (G.out W hW) (by have := hW.size; omega) hn hx ⟨wq1, wq2⟩)
    have CB := Lib.hid (fun W (hW : Below w0.heap.size w0 W) A c (h : Strs W 0 w.heap.size (.slice A x.wit.length c) x.wit) => sb_any s x.wit (.slice A x.wit.length c) W 0 w.heap.size h (by have := hW.size; omega) hs wo1 wo2)
    have IA := Lib.hid (fun W (hW : Below w0.heap.size w0 W) => (G.out W hW).1.at hx)
    have wb := wsN_bd t.ver wq1
    obtain ⟨n, hne⟩ : ∃ n, t.ins.length = n := ⟨_, rfl⟩
    obtain ⟨ws, hws⟩ : ∃ q, wsN t.ver x.sq = q := ⟨_, rfl⟩
    rw [hne] at CH CW hk hn ⊢
    rw [hws] at CW wb
    have k1 : (k : Int) < (n : Int) := by omega
    have k0 : ¬ (k : Int) < 0 := by omega
    have HWS := Lib.hid hws
    rw [hne] at BX b1
    clear hh hx hne hws hs wo1 wo2
    go_wp2_with fail
    refine CH.out.mono ?_
    rintro e w1 ⟨rfl, hb1⟩
    have L1 := Lib.hid hb1
    clear hb1 b0 b1 b2 b3 CH
    obtain ⟨b0, b1, b2, b3⟩ := BX.out.below hlt L1.out
    obtain ⟨b, off, rfl, _, hbw, c0, c1, c2, u, c3, hst⟩ := IA.out w1 L1.out
    obtain ⟨Aw, cw, rfl⟩ : ∃ A c, u = .slice A x.wit.length c := by obtain ⟨A, c, rfl, _⟩ := hst; exact ⟨A, c, rfl⟩
    have CB1 := Lib.hid (CB.out w1 L1.out Aw cw hst)
    have hb1w : b < w1.heap.size := by have := L1.out.size; omega
    clear hst
    cases ho : sbO s x.wit with
    | none =>
      have E := Lib.hid (show opE s t (k : Int) = 9 from by rw [OE.out]; unfold opX; rw [ho])
      rw [ho] at CB1
      clear ho
      go_wp2_with fail
      refine CB1.out.mono ?_
      rintro e w2 ⟨rfl, hb2⟩
      have K2 := Lib.hid (below_next (below_next B0.out (by omega) L1.out) (by have := L1.out.size; omega) hb2)
      clear hb2
      have BA := Lib.hid (fun o => K2.out.alloc K2.out.size o)
      have y1 : (sbX (none : Option BrD)).tag = 0 := rfl
      go_wp2_with fail
      go_ret
      exact ⟨ret_int E.out.symm, BA.out _⟩
    | some y =>
      obtain ⟨o1, o2, o3, o4, o5, o6⟩ := sbX_ok s x.wit ho
      have E := Lib.hid (show opE s t (k : Int) = brE y t x from by rw [OE.out]; unfold opX; rw [ho])
      rw [ho, show sbX (some y) = y from rfl, show (some y).isSome = true from rfl] at CB1
      clear ho
      obtain ⟨yt, yd, yh⟩ := y
      simp only at o1 o2 o3 o4 o5 o6 CB1
      go_wp2_with fail
      refine CB1.out.mono ?_
      rintro e w2 ⟨rfl, hb2⟩
      obtain ⟨w3, hw3⟩ : ∃ w3, w3 = w2.alloc (.cells #[.int .u16 yt, .int .u16 yd, .int .u32 yh] 101) := ⟨_, rfl⟩
      have hb3 : Below w2.heap.size w2 w3 := by rw [hw3]; exact (Below.refl _ _).alloc (Nat.le_refl _) _
      have z3 : w3.heap.size = w2.heap.size + 1 := by rw [hw3]; simp
      have L3 := Lib.hid (below_next (below_next L1.out L1.out.size hb2) (by have := L1.out.size; have := hb2.size; omega) hb3)
      have z2 := hb2.size
      have z1 := L1.out.size
      have y0 : w3.cell? ⟨w2.heap.size, 0, none⟩ = some (.int .u16 yt) := by rw [hw3]; simp
      have y1 : w3.cell? ⟨w2.heap.size, 1, none⟩ = some (.int .u16 yd) := by rw [hw3]; simp
      have y2 : w3.cell? ⟨w2.heap.size, 2, none⟩ = some (.int .u32 yh) := by rw [hw3]; simp
      have HW3 := Lib.hid hw3
      have BX3 := Lib.hid (BX.out.below hlt L3.out)
      have hlt3 : w.heap.size < w3.heap.size := by omega
      clear hb2 hb3 hw3 b0 b1 b2 b3 c0 c1 c2 c3 CB1 CB
      have r0 : ∀ a : After w3, a.val.cell? ⟨w.heap.size, 0, none⟩ = some (.int .u32 t.ver) := fun a => (a.ok.cell (p := ⟨w.heap.size, 0, none⟩) hlt3).trans BX3.out.1
      have r1 : ∀ a : After w3, a.val.cell? ⟨w.heap.size, 1, none⟩ = some (.slice (some ⟨b, off, none⟩) n ci) := fun a => (a.ok.cell (p := ⟨w.heap.size, 1, none⟩) hlt3).trans BX3.out.2.1
      have r2 : ∀ a : After w3, a.val.cell? ⟨w.heap.size, 2, none⟩ = some vo := fun a => (a.ok.cell (p := ⟨w.heap.size, 2, none⟩) hlt3).trans BX3.out.2.2.1
      have r3 : ∀ a : After w3, a.val.cell? ⟨w.heap.size, 3, none⟩ = some (.int .u32 t.lock) := fun a => (a.ok.cell (p := ⟨w.heap.size, 3, none⟩) hlt3).trans BX3.out.2.2.2
      have r4 : ∀ a : After w3, a.val.cell? ⟨w2.heap.size, 1, none⟩ = some (.int .u16 yd) := fun a => (a.ok.cell (p := ⟨w2.heap.size, 1, none⟩) (by show w2.heap.size < _; omega)).trans y1
      have hne : Nonempty (After w3) := ⟨⟨w3, Below.refl _ _⟩⟩
      have v1 : IntKind.i64.wrap yd = yd := by rw [IntWalk.i64_in _ (by omega)]
      have CA := Lib.hid (fun a : After w3 => CW.out a.val (below_next L3.out L3.out.size a.ok))
      go_upto_region 6 with (fail)
      rw [show World.alloc w2 _ = w3 from HW3.out.symm]
      refine wp_region_after (by kernel_rfl) (by kernel_rfl) ?_
      repeat (go_big_quiet_step ((go_at_call 77; with_reducible exact After.call _ (CA.out _))))
      refine wpQuiet_nil ?_
      rintro _ ⟨a, rfl⟩
      have hW := a.ok
      obtain ⟨W, hWe⟩ : ∃ W, W = a.val := ⟨_, rfl⟩
      rw [← hWe] at hW ⊢
      clear hWe r0 r1 r2 r3 r4 hne CA
      have L4 := Lib.hid (below_next L3.out L3.out.size hW)
      have KW := Lib.hid (below_next B0.out (by omega) L4.out)
      have zW := hW.size
      have y2' := (hW.cell (p := ⟨w2.heap.size, 2, none⟩) (by show w2.heap.size < _; omega)).trans y2
      obtain ⟨b0, b1, b2, b3⟩ := BX.out.below hlt L4.out
      obtain ⟨b', off', hA, _, hbw', c0, c1, c2, u', c3, _⟩ := IA.out W L4.out
      injection hA with hA
      injection hA with e1 e2
      subst e1 e2
      clear hW y0 y1 y2
      by_cases h1 : ws < yd
      · have FIN := Lib.hid (show opE s t (k : Int) = 10 from by rw [E.out]; unfold brE; rw [HWS.out, if_pos h1])
        go_wp2_with fail
        go_ret
        exact ⟨ret_int FIN.out.symm, KW.out⟩
      · by_cases h2 : 0 < yh
        · by_cases h3 : t.lock < yh
          · have FIN := Lib.hid (show opE s t (k : Int) = 10 from by rw [E.out]; unfold brE; rw [HWS.out, if_neg h1, if_pos ⟨h2, .inl h3⟩])
            go_wp2_with fail
            go_ret
            exact ⟨ret_int FIN.out.symm, KW.out⟩
          · by_cases h4 : x.sq = 4294967295
            · have FIN := Lib.hid (show opE s t (k : Int) = 10 from by rw [E.out]; unfold brE; rw [HWS.out, if_neg h1, if_pos ⟨h2, .inr h4⟩])
              have q4 : (x.sq == 4294967295) = true := by simp [h4]
              clear h4
              go_wp2_with fail
              go_ret
              exact ⟨ret_int FIN.out.symm, KW.out⟩
            · have FIN := Lib.hid (show opE s t (k : Int) = 0 from by rw [E.out]; unfold brE; rw [HWS.out, if_neg h1, if_neg (fun h => by rcases h.2 with h | h; exact h3 h; exact h4 h)])
              have q4 : (x.sq == 4294967295) = false := by simp [h4]
              clear h4
              go_wp2_with fail
              go_ret
              exact ⟨ret_int FIN.out.symm, KW.out⟩
        · have FIN := Lib.hid (show opE s t (k : Int) = 0 from by rw [E.out]; unfold brE; rw [HWS.out, if_neg h1, if_neg (fun h => h2 h.1)])
          go_wp2_with fail
          go_ret
          exact ⟨ret_int FIN.out.symm, KW.out⟩

end Go.Proofs.YtjclklppnkoehaaGreatDoor
