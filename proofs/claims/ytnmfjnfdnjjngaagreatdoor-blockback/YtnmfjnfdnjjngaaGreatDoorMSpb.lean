/-
  What an In spends: the program's spentBy.
-/
import Derived.Test.YtnmfjnfdnjjngaaGreatDoorMLop
import Derived.Test.YtnmfjnfdnjjngaaGreatDoorMEqs
import Derived.Deep.RegionWith
import Derived.Deep.RegionHeld3
import Derived.Deep.DeepCutAuto
import Derived.Deep.CutBlock
import Derived.BigRegion
namespace Go.Proofs.YtnmfjnfdnjjngaaGreatDoor
open Go.RowKit
set_option maxRecDepth 100000

theorem mk_func (fn : Fn) (first cap : Array Value) (w : World) : (Instr.makeFunc fn first cap).run Tryz.prog w = .ok (.func fn first cap) w := rfl
theorem method_get (v : Value) (w : World) : (Go.method 390 23 v "Get").run Tryz.prog w = .ok (41, v) w := by kernel_rfl

theorem nil_get (a : Nat) (w : World) : (nilAhead 390 23 (.pointer (some ⟨a, 0, none⟩)) "Get").run Tryz.prog w = .ok (some false) w := by kernel_rfl

theorem ret_two {k m : IntKind} {a b c d : Int} (h : a = c) (h2 : b = d) : Ending.returned (.tuple #[.int k a, .int m b]) = .returned (.tuple #[.int k c, .int m d]) := by rw [h, h2]
/-- A coin in a box. -/
def CoBox (w : World) (g : Nat) (v : Int) (s : ByteArray) (t : Int) : Prop := w.cell? ⟨g, 0, none⟩ = some (.int .i64 v) ∧ w.cell? ⟨g, 1, none⟩ = some (.string s) ∧ w.cell? ⟨g, 2, none⟩ = some (.int .i64 t)
theorem CoBox.below {w w' : World} {g : Nat} {v : Int} {s : ByteArray} {t : Int} (h : CoBox w g v s t) (hg : g < w.heap.size) (hb : Below w.heap.size w w') : CoBox w' g v s t :=
  ⟨(hb.cell (p := ⟨g, 0, none⟩) hg).trans h.1, (hb.cell (p := ⟨g, 1, none⟩) hg).trans h.2.1, (hb.cell (p := ⟨g, 2, none⟩) hg).trans h.2.2⟩

/-- The box of no coin, made ahead of a call that leaves it. -/
theorem co_kept {V w' : World} (hb : Below V.heap.size V w') {m : Nat} (hh : V.heap[m]? = some (.cells #[.int .i64 0, .string ⟨#[]⟩, .int .i64 0] 64 (0, 0))) :
    w'.cell? ⟨m, 0, none⟩ = some (.int .i64 0) ∧ w'.cell? ⟨m, 1, none⟩ = some (.string ⟨#[]⟩) ∧ w'.cell? ⟨m, 2, none⟩ = some (.int .i64 0) ∧ (∀ k, w'.frozen? ⟨m, k, none⟩ = false) ∧ m < w'.heap.size := by
  have hm : m < V.heap.size := by
    rcases Nat.lt_or_ge m V.heap.size with h | h
    · exact h
    · rw [Array.getElem?_eq_none h] at hh; cases hh
  have hh : w'.heap[m]? = some (.cells #[.int .i64 0, .string ⟨#[]⟩, .int .i64 0] 64 (0, 0)) := (hb.block _ hm).trans hh
  exact ⟨Co.cell_in (o := 0) hh rfl, Co.cell_in (o := 1) hh rfl, Co.cell_in (o := 2) hh rfl, fun k => Lib.frozen_of_heap hh k, by have := hb.size; omega⟩

theorem at_scr {l : List Co.EnD} (hg : Co.Good l) (a : ByteArray) (i : Int) : (Co.atE l a i).scr.size ≤ maxLen := by
  unfold maxLen
  cases hh : Co.hasB l a i with
  | false => rw [Co.atE_none hh]; decide
  | true => have := (hg.ok _ (Co.atE_mem hh).1).2.2.2.1; omega
/-- What region 1 gives: the coin in a box, and whether there is one. -/
def SpMid (w0 : World) (q : Bool) (v : Int) (s : ByteArray) (t : Int) (s10 s11 : Value) (wx : World) : Prop :=
  ∃ g, s10 = .pointer (some ⟨g, 0, none⟩) ∧ w0.heap.size ≤ g ∧ g < wx.heap.size ∧ s11 = .bool q ∧ Hid (CoBox wx g v s t) ∧ Hid (Below w0.heap.size w0 wx)
theorem sp_mid1 {w0 V w1 : World} (hV : Below w0.heap.size w0 V) (hB : Below V.heap.size V w1) (q : Bool) (v : Int) (s : ByteArray) (t : Int) :
    SpMid w0 q v s t (.pointer (some ⟨w1.heap.size, 0, none⟩)) (.bool q) (w1.alloc (.cells #[.int .i64 v, .string s, .int .i64 t] 64)) := by
  have h1 := below_next hV hV.size hB
  exact ⟨_, rfl, h1.size, by simp, rfl, Lib.hid ⟨by simp, by simp, by simp⟩, Lib.hid (h1.alloc h1.size _)⟩
theorem sp_mid2 {w0 V w1 : World} (hV : Below w0.heap.size w0 V) (hB : Below V.heap.size V w1) {m : Nat} (hm : w0.heap.size ≤ m) {x0 x1 x2 : Value} (q : Bool) (v : Int) (s : ByteArray) (t : Int)
    (h0 : w1.cell? ⟨m, 0, none⟩ = some x0) (h1 : w1.cell? ⟨m, 1, none⟩ = some x1) (h2 : w1.cell? ⟨m, 2, none⟩ = some x2) (hs : m < w1.heap.size) :
    SpMid w0 q v s t (.pointer (some ⟨m, 0, none⟩)) (.bool q) (Co.setCo w1 m v s t) := by
  have hb := below_next hV hV.size hB
  exact ⟨m, rfl, hm, by simp [Co.setCo]; exact hs, rfl, Lib.hid (Co.setCo_cells h0 h1 h2 v s t), Lib.hid (Co.setCo_below hb hm v s t)⟩

set_option maxHeartbeats 1000000 in
theorem spentby_any (a b : Nat) (l : List Co.EnD) (t : TxD) (k : Nat) (x : InD) (h : Int) (vi vo : Value) (w : World) (hs : Co.SetIs w a b l) (ht : TxAt w 0 w.heap.size vi vo t) (hok : t.Ok) (hx : t.ins[k]? = some x) :
    Calls Tryz.prog 113 #[.iface 23 (.pointer (some ⟨a, 0, none⟩)), .agg #[.int .u32 t.ver, vi, vo, .int .u32 t.lock], .int .i64 (k : Int), .int .i64 h] w
      fun e w' => e = .returned (.tuple #[.int .i64 (spA l t h x), .int .i64 (spE l t h x)]) ∧ Below w.heap.size w w' := by
  obtain ⟨w0, hw0⟩ : ∃ w0, w0 = w.alloc (.cells #[.int .u32 t.ver, vi, vo, .int .u32 t.lock] 51) := ⟨_, rfl⟩
  have z0 : w0.heap.size = w.heap.size + 1 := by rw [hw0]; simp
  have hb0 : Below w.heap.size w w0 := by rw [hw0]; exact (Below.refl _ _).alloc (Nat.le_refl _) _
  have BX := Lib.hid (show Boxed w0 w.heap.size (.int .u32 t.ver) vi vo (.int .u32 t.lock) from by rw [hw0]; exact Boxed.new _ _ _ _ _ _)
  have HT := Lib.hid (ht.keep (Kept.of_below hb0 (Nat.le_refl _)))
  have B0 := Lib.hid hb0
  have HW0 := Lib.hid hw0
  have HS := Lib.hid (hs.below hb0 hs.lta hs.ltb)
  have la := hs.lta
  have lb := hs.ltb
  obtain ⟨Ai, ci, rfl⟩ := ht.1.form
  obtain ⟨i1, i2, i3, i4, i5, i6, i7⟩ := hok.2.2.1 x (List.mem_of_getElem? hx)
  have hpt : Co.PtOk x.id x.ix := ⟨i1, i2, i3⟩
  obtain ⟨b1, off, rfl, g1, g2, c0, c1, c2, u, c3, hst⟩ := HT.out.1.at hx
  have hbw : b1 < w0.heap.size := by omega
  have hk := (List.getElem?_eq_some_iff.1 hx).1
  have hlt : w.heap.size < w0.heap.size := by omega
  obtain ⟨⟨yi, yx, cv, cs, ct⟩, hy⟩ : ∃ y, Co.atE l x.id x.ix = y := ⟨_, rfl⟩
  obtain ⟨q, hq⟩ : ∃ q, Co.hasB l x.id x.ix = q := ⟨_, rfl⟩
  have CG := Lib.hid (show ∀ W, Below w0.heap.size w0 W → Calls Tryz.prog 41 #[.pointer (some ⟨a, 0, none⟩), .agg #[.string x.id, .int .u32 x.ix]] W fun e w' => e = .returned (.tuple #[.agg #[.int .i64 cv, .string cs, .int .i64 ct], .bool q]) ∧ Below W.heap.size W w' from
    fun W hW => by
      have h0 := Co.get_any a b l x.id x.ix W (HS.out.below hW (by omega) (by omega)) hpt
      rw [hy, hq] at h0
      exact h0)
  have hcs : cs.size ≤ maxLen := by have := at_scr hs.good x.id x.ix; rw [hy] at this; exact this
  have G := Lib.hid (fun W (hW : Below w0.heap.size w0 W) => (HT.out.keep (Kept.of_below hW (by omega))).wide (Nat.le_refl 0) (show w.heap.size ≤ W.heap.size by have := hW.size; omega))
  have CO := Lib.hid (fun W (hW : Below w0.heap.size w0 W) => open_any cs t (k : Int) _ vo W (G.out W hW) hok hcs)
  have CR := Lib.hid (fun W (hW : Below w0.heap.size w0 W) => ripe_any t (k : Int) ct h _ vo W (G.out W hW) hok)
  have OE := Lib.hid (op_at (s := cs) hx)
  have RE := Lib.hid (rp_at (c := ct) (h := h) hx)
  have E0 := Lib.hid (fun (h0 : q = false) => spE_none (l := l) (t := t) (h := h) (x := x) (hq.trans h0))
  have E1 := Lib.hid (fun (h0 : q = true) (h1 : opX cs t x ≠ 0) => (spE_open (l := l) (t := t) (h := h) (x := x) (hq.trans h0) (by rw [hy]; exact h1)).trans (by rw [hy]))
  have E2 := Lib.hid (fun (h0 : q = true) (h1 : opX cs t x = 0) => (spE_ripe (l := l) (t := t) (h := h) (x := x) (hq.trans h0) (by rw [hy]; exact h1)).trans (by rw [hy]))
  have EV := Lib.hid (show spV l x = cv from by unfold spV; rw [hy])
  have hmk := mk_func
  have hme := method_get
  have hna := nil_get
  obtain ⟨n, hne⟩ : ∃ n, t.ins.length = n := ⟨_, rfl⟩
  rw [hne] at hk BX HW0 CO CR ⊢
  have k1 : (k : Int) < (n : Int) := by omega
  have k0 : ¬ (k : Int) < 0 := by omega
  obtain ⟨b0, b1', b2, b3⟩ := BX.out
  have n1 : ¬ w0.heap.size = w.heap.size := by omega
  have n2 : ¬ w0.heap.size = b1 := by omega
  have Z0 := Lib.hid z0
  clear hw0 ht hs hb0 hst hne hy hq z0
  go_enter Tryz.func113, Tryz.ntmps113
  go_upto_region 1 with (fail)
  rw [show World.alloc w _ = w0 from HW0.out.symm]
  go_cut [10, 11] (fun s10 s11 wx => SpMid w0 q cv cs ct s10 s11 wx)
  case first =>
    go_region_held3 (fun w' => w'.cell? ⟨w.heap.size, 1, none⟩ = some (.slice (some ⟨b1, off, none⟩) n ci) ∧ w'.cell? ⟨b1, off + k * 4, none⟩ = some (.string x.id) ∧ w'.cell? ⟨b1, off + k * 4 + 1, none⟩ = some (.int .u32 x.ix))
      (go_keep)
      (first | (go_at_call 41; refine (CG.out _ (by repeat (first | exact Below.refl _ _ | refine Below.drew ?_ | refine Below.alloc ?_ (by simp) _))).mono ?_; rintro e w1 ⟨rfl, hB1⟩; have n3 : ¬ w1.heap.size = w.heap.size := (by have := hB1.size; simp at this; omega); have n4 : ¬ w1.heap.size = b1 := (by have := hB1.size; simp at this; omega); have e1 := hB1.cell (p := ⟨w.heap.size, 1, none⟩) (by simp; omega); have e2 := hB1.cell (p := ⟨b1, off + k * 4, none⟩) (by simp; omega); have e3 := hB1.cell (p := ⟨b1, off + k * 4 + 1, none⟩) (by simp; omega); first | (have hz := co_kept hB1 (heap_alloc_new w0 (.cells #[.int .i64 0, .string ⟨#[]⟩, .int .i64 0] 64)); obtain ⟨q0, q1, q2, qf, qs⟩ := hz) | skip))
    all_goals go_wp2_with fail
    all_goals go_meet
    · exact sp_mid1 (Below.refl _ _).drew hB1 q cv cs ct
    · first | exact sp_mid2 ((Below.refl _ _).drew.alloc (by simp) _) hB1 (Nat.le_refl _) q cv cs ct q0 q1 q2 qs | exact sp_mid2 ((Below.refl _ _).alloc (by simp) _).drew hB1 (Nat.le_refl _) q cv cs ct q0 q1 q2 qs
    · first | exact sp_mid2 ((Below.refl _ _).drew.alloc (by simp) _) hB1 (Nat.le_refl _) q cv cs ct q0 q1 q2 qs | exact sp_mid2 ((Below.refl _ _).alloc (by simp) _).drew hB1 (Nat.le_refl _) q cv cs ct q0 q1 q2 qs
  case rest =>
    obtain ⟨g, rfl, hg1, hg2, rfl, hco, hbc⟩ := hcut
    obtain ⟨o0, o1, o2⟩ := hco.out
    have BC := Lib.hid (below_next B0.out (by omega) hbc.out)
    clear c0 c1 c2 c3 b0 b1' b2 b3
    cases hqq : q with
    | false =>
      have F := Lib.hid (E0.out hqq)
      go_wp2_with fail
      go_ret2
      exact ⟨ret_two (spA_no (by rw [F.out]; decide)).symm F.out.symm, BC.out⟩
    | true =>
      have zc := hbc.out.size
      obtain ⟨b0, b1', b2, b3⟩ := BX.out.below hlt hbc.out
      have CO1 := Lib.hid (CO.out wc hbc.out)
      rw [OE.out] at CO1
      by_cases h1 : opX cs t x = 0
      · rw [h1] at CO1
        have F := Lib.hid (E2.out hqq h1)
        clear E0 E1 E2
        go_wp2_with fail
        refine CO1.out.mono ?_
        rintro e w2 ⟨rfl, hb2⟩
        have L2 := Lib.hid (below_next hbc.out hbc.out.size hb2)
        have z2 := L2.out.size
        have hg3 : g < w2.heap.size := by have := hb2.size; omega
        have c0 := (hb2.cell (p := ⟨g, 0, none⟩) hg2).trans o0
        have c1 := (hb2.cell (p := ⟨g, 1, none⟩) hg2).trans o1
        have c2 := (hb2.cell (p := ⟨g, 2, none⟩) hg2).trans o2
        have CR1 := Lib.hid (CR.out w2 L2.out)
        rw [RE.out] at CR1
        clear hb2 o0 o1 o2 b0 b1' b2 b3 CO1
        obtain ⟨b0, b1', b2, b3⟩ := BX.out.below hlt L2.out
        generalize (htB ct && htB h && rpX t x ct h) = r at CR1 F
        go_wp2_with fail
        refine CR1.out.mono ?_
        rintro e w3 ⟨rfl, hb3⟩
        have L3 := Lib.hid (below_next B0.out (by omega) (below_next L2.out L2.out.size hb3))
        have d0 := (hb3.cell (p := ⟨g, 0, none⟩) hg3).trans c0
        clear c0 c1 c2 b0 b1' b2 b3 hb3
        cases r with
        | false =>
          go_wp2_with fail
          go_ret2
          exact ⟨ret_two (spA_no (by rw [F.out]; decide)).symm F.out.symm, L3.out⟩
        | true =>
          go_wp2_with fail
          go_ret2
          exact ⟨ret_two ((spA_ok F.out).trans EV.out).symm F.out.symm, L3.out⟩
      · have F := Lib.hid (E1.out hqq h1)
        have h1' : (opX cs t x == 0) = false := by simp [h1]
        have H1 := Lib.hid h1
        generalize opX cs t x = ox at CO1 F h1' H1
        clear E0 E1 E2 h1 OE
        go_wp2_with fail
        refine CO1.out.mono ?_
        rintro e w2 ⟨rfl, hb2⟩
        have L2 := Lib.hid (below_next BC.out (by have := hg2; omega) hb2)
        go_wp2_with fail
        go_ret2
        exact ⟨ret_two (spA_no (by rw [F.out]; exact H1.out)).symm F.out.symm, L2.out⟩

end Go.Proofs.YtnmfjnfdnjjngaaGreatDoor
