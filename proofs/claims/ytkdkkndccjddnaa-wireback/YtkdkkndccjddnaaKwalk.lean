/-
  The statement WireBack, walked.
-/
import Derived.Test.YtkdkkndccjddnaaUwalk
namespace Go.Proofs.Ytkdkkndccjddnaa
open Go.RowKit

theorem bare_none {t : TxD} (h : hasW t = false) : bareT t = t := by
  have : t.ins.map bareI = t.ins := by
    have q : ∀ x ∈ t.ins, bareI x = x := by
      intro x hx
      unfold hasW at h
      have h1 := List.any_eq_false.1 h x hx
      have : x.wit = [] := by simpa using h1
      show (⟨x.id, x.ix, x.sq, []⟩ : InD) = x
      rw [← this]
    exact (List.map_congr_left q).trans (List.map_id t.ins)
  unfold bareT
  rw [this]
theorem dec_enc {t : TxD} (hok : t.Ok) (hc : checkD t = 0) : dcE (wireS t (hasW t)) = 0 ∧ dcA (wireS t (hasW t)) = (wireS t (hasW t)).size ∧ dcT (wireS t (hasW t)) = t := by
  obtain ⟨h1, h2⟩ := wire_of t (hasW t) hok hc (fun h => h)
  have hT : trD (wireS t (hasW t)) z0 = t := by
    rw [h2]
    by_cases h : hasW t = true
    · rw [if_pos h]
    · rw [if_neg h, bare_none (by simpa using h)]
  have h7 : t7 (wireS t (hasW t)) z0 = ⟨(wireS t (hasW t)).size, 0⟩ := by
    unfold t7
    rw [h1]
    show St.mk (wireS t (hasW t)).size (endE (wireS t (hasW t)) ((wireS t (hasW t)).size : Nat) 0) = _
    unfold endE
    rw [if_neg (by omega)]
  have hE : dcE (wireS t (hasW t)) = 0 := by
    unfold dcE
    rw [h7, if_pos rfl, hT, hc]
  refine ⟨hE, by unfold dcA; rw [h7], ?_⟩
  unfold dcT
  rw [if_pos hE, hT]
theorem dec_bare {t : TxD} (hok : t.Ok) (hc : checkD t = 0) : dcE (wireS t false) = 0 ∧ dcA (wireS t false) = (wireS t false).size ∧ dcT (wireS t false) = bareT t := by
  obtain ⟨h1, h2⟩ := wire_of t false hok hc (fun h => by cases h)
  rw [if_neg (by decide)] at h2
  have h7 : t7 (wireS t false) z0 = ⟨(wireS t false).size, 0⟩ := by
    unfold t7
    rw [h1]
    show St.mk (wireS t false).size (endE (wireS t false) ((wireS t false).size : Nat) 0) = _
    unfold endE
    rw [if_neg (by omega)]
  have hE : dcE (wireS t false) = 0 := by
    unfold dcE
    rw [h7, if_pos rfl, h2, check_bare hc]
  refine ⟨hE, by unfold dcA; rw [h7], ?_⟩
  unfold dcT
  rw [if_pos hE, h2]
theorem bare_le (t : TxD) (m : Bool) : (wireS t false).size ≤ (wireS t m).size := by
  have e1 : (markS false).size = 0 := rfl
  have e2 : (witsS false t.ins).size = 0 := rfl
  simp only [wireS, ByteArray.size_append, e1, e2]
  omega

/-- The Ins of a row, whose first k Witnesses are struck. -/
structure BkI (w : World) (g k : Nat) (xs : List InD) : Prop where
  blk : ∃ cur, w.heap[g]? = some (.cells cur 47 (0, 0))
  at' : ∀ j x, xs[j]? = some x → w.cell? ⟨g, j * 4, none⟩ = some (.string x.id) ∧ w.cell? ⟨g, j * 4 + 1, none⟩ = some (.int .u32 x.ix) ∧ w.cell? ⟨g, j * 4 + 2, none⟩ = some (.int .u32 x.sq) ∧ (∃ v, w.cell? ⟨g, j * 4 + 3, none⟩ = some v) ∧ (j < k → w.cell? ⟨g, j * 4 + 3, none⟩ = some (.slice none 0 0))
theorem BkI.lt {w : World} {g k : Nat} {xs : List InD} (h : BkI w g k xs) : g < w.heap.size := by
  obtain ⟨cur, hc⟩ := h.blk
  rcases Nat.lt_or_ge g w.heap.size with h' | h'
  · exact h'
  · rw [Array.getElem?_eq_none h'] at hc; cases hc
theorem BkI.frozen {w : World} {g k : Nat} {xs : List InD} (h : BkI w g k xs) (o : Nat) : w.frozen? ⟨g, o, none⟩ = false := by
  obtain ⟨cur, hc⟩ := h.blk
  exact Lib.frozen_of_heap hc o
theorem BkI.below {w w' : World} {g k : Nat} {xs : List InD} (h : BkI w g k xs) (hb : Below w.heap.size w w') : BkI w' g k xs := by
  have hl := h.lt
  obtain ⟨cur, hc⟩ := h.blk
  refine ⟨⟨cur, (hb.block g hl).trans hc⟩, fun j x hx => ?_⟩
  have f : ∀ o, w'.cell? ⟨g, o, none⟩ = w.cell? ⟨g, o, none⟩ := fun o => hb.cell (p := ⟨g, o, none⟩) hl
  rw [f, f, f, f]
  exact h.at' j x hx
theorem BkI.step {w : World} {g k : Nat} {xs : List InD} (h : BkI w g k xs) (hk : k < xs.length) : BkI (w.setCell ⟨g, k * 4 + 3, none⟩ (.slice none 0 0)) g (k + 1) xs := by
  obtain ⟨cur, hc⟩ := h.blk
  obtain ⟨y, hy⟩ : ∃ y, xs[k]? = some y := ⟨_, List.getElem?_eq_getElem hk⟩
  obtain ⟨_, _, _, ⟨u, hu⟩, _⟩ := h.at' k y hy
  refine ⟨⟨cur.setIfInBounds (k * 4 + 3) (.slice none 0 0), by simp [World.setCell, Array.getElem?_modify, hc]⟩, fun j x hx => ?_⟩
  obtain ⟨a0, a1, a2, ⟨v, a3⟩, a4⟩ := h.at' j x hx
  have f : ∀ o, o ≠ k * 4 + 3 → (w.setCell ⟨g, k * 4 + 3, none⟩ (.slice none 0 0)).cell? ⟨g, o, none⟩ = w.cell? ⟨g, o, none⟩ := fun o ho => World.cell?_setCell_other _ _ _ _ (by intro e; injection e with _ e; exact ho e.symm)
  rw [f _ (by omega), f _ (by omega), f _ (by omega)]
  by_cases e : j = k
  · subst e
    have q := World.cell?_setCell_same w ⟨g, j * 4 + 3, none⟩ (.slice none 0 0) hu
    exact ⟨a0, a1, a2, ⟨_, q⟩, fun _ => q⟩
  · rw [f _ (by omega)]
    exact ⟨a0, a1, a2, ⟨v, a3⟩, fun hj => a4 (by omega)⟩
theorem BkI.ins {w : World} {g k c : Nat} {xs : List InD} (h : BkI w g k xs) (hk : xs.length ≤ k) (hc : xs.length ≤ c) : Ins w 0 w.heap.size (.slice (some ⟨g, 0, none⟩) xs.length c) (xs.map bareI) := by
  refine ⟨_, c, by rw [List.length_map], by rw [List.length_map]; exact hc, .inr ⟨g, 0, rfl, Nat.zero_le _, h.lt, fun j x hx => ?_⟩⟩
  rw [List.getElem?_map] at hx
  obtain ⟨y, hy, rfl⟩ := Option.map_eq_some_iff.1 hx
  obtain ⟨a0, a1, a2, _, a4⟩ := h.at' j y hy
  have hj := (List.getElem?_eq_some_iff.1 hy).1
  rw [Nat.zero_add]
  exact ⟨a0, a1, a2, _, a4 (by omega), Strs.nil _ _ _⟩
theorem bk_new {w : World} {lo hi : Nat} {A : Option Addr} {xs : List InD} (h : RowI w lo hi A xs) (hl : 1 ≤ xs.length) : ∃ g, A = some ⟨g, 0, none⟩ ∧ lo ≤ g ∧ g < hi ∧ BkI w g 0 xs := by
  rcases h with rfl | ⟨g, cur, rfl, h1, h2, hg, hh⟩
  · simp at hl
  · refine ⟨g, rfl, h1, h2, ⟨cur, hg⟩, fun j x hx => ?_⟩
    obtain ⟨a0, a1, a2, v, a3, _⟩ := hh j x hx
    exact ⟨a0, a1, a2, ⟨v, a3⟩, fun hj => absurd hj (Nat.not_lt_zero _)⟩

/-- Where the striking of Witnesses stands. -/
structure BkS (w : World) (u : TxD) (g b1 b2 lo hi ci co : Nat) (Ao : Option Addr) (vi2 vo2 : Value) (k : Nat) (wr : World) : Prop where
  row : BkI wr g k u.ins
  bu : Boxed wr b1 (.int .u32 u.ver) (.slice (some ⟨g, 0, none⟩) u.ins.length ci) (.slice Ao u.outs.length co) (.int .u32 u.lock)
  bw : Boxed wr b2 (.int .u32 u.ver) vi2 vo2 (.int .u32 u.lock)
  ou : u.outs = [] ∨ ∃ go cur, Ao = some ⟨go, 0, none⟩ ∧ go ≠ g ∧ wr.heap[go]? = some (.cells cur 51 (0, 0)) ∧ ∀ j x, u.outs[j]? = some x → OutAt wr go (j * 2) x
  tw : TxAt wr lo hi vi2 vo2 (bareT u)
  lt : g < b1 ∧ g < b2 ∧ g < lo ∧ hi ≤ wr.heap.size ∧ b1 < wr.heap.size ∧ b2 < wr.heap.size ∧ w.heap.size ≤ g
  bel : Below w.heap.size w wr
theorem Boxed.set {w : World} {b g o : Nat} {v0 v1 v2 v3 x : Value} (h : Boxed w b v0 v1 v2 v3) (hb : b ≠ g) : Boxed (w.setCell ⟨g, o, none⟩ x) b v0 v1 v2 v3 := by
  have f : ∀ p, (w.setCell ⟨g, o, none⟩ x).cell? ⟨b, p, none⟩ = w.cell? ⟨b, p, none⟩ := fun p => World.cell?_of_block (w := w) (Below.heap_setCell _ _ _ _ hb)
  exact ⟨(f 0).trans h.1, (f 1).trans h.2.1, (f 2).trans h.2.2.1, (f 3).trans h.2.2.2⟩
theorem BkS.step {w : World} {u : TxD} {g b1 b2 lo hi ci co : Nat} {Ao : Option Addr} {vi2 vo2 : Value} {k : Nat} {wr : World} (h : BkS w u g b1 b2 lo hi ci co Ao vi2 vo2 k wr) (hk : k < u.ins.length) :
    BkS w u g b1 b2 lo hi ci co Ao vi2 vo2 (k + 1) (wr.setCell ⟨g, k * 4 + 3, none⟩ (.slice none 0 0)) := by
  obtain ⟨l1, l2, l3, l4, l5, l6, l7⟩ := h.lt
  refine ⟨h.row.step hk, h.bu.set (by omega), h.bw.set (by omega), ?_, h.tw.keep (Kept.setCell (.inl l3) _), ⟨l1, l2, l3, by rw [World.size_setCell]; exact l4, by rw [World.size_setCell]; exact l5, by rw [World.size_setCell]; exact l6, l7⟩, h.bel.setCell (p := ⟨g, k * 4 + 3, none⟩) l7 _⟩
  rcases h.ou with h0 | ⟨go, cur, e, hne, hc, ha⟩
  · exact .inl h0
  · have hk' : (wr.setCell ⟨g, k * 4 + 3, none⟩ (.slice none 0 0)).heap[go]? = wr.heap[go]? := Below.heap_setCell _ _ _ _ hne
    have f : ∀ p, (wr.setCell ⟨g, k * 4 + 3, none⟩ (.slice none 0 0)).cell? ⟨go, p, none⟩ = wr.cell? ⟨go, p, none⟩ := fun p => World.cell?_of_block (w := wr) hk'
    exact .inr ⟨go, cur, e, hne, hk'.trans hc, fun j x hx => ⟨(f _).trans (ha j x hx).1, (f _).trans (ha j x hx).2⟩⟩
theorem BkS.below {w : World} {u : TxD} {g b1 b2 lo hi ci co : Nat} {Ao : Option Addr} {vi2 vo2 : Value} {k : Nat} {wr wx : World} (h : BkS w u g b1 b2 lo hi ci co Ao vi2 vo2 k wr) (hb : Below wr.heap.size wr wx) :
    BkS w u g b1 b2 lo hi ci co Ao vi2 vo2 k wx := by
  obtain ⟨l1, l2, l3, l4, l5, l6, l7⟩ := h.lt
  have hz := hb.size
  refine ⟨h.row.below hb, h.bu.below l5 hb, h.bw.below l6 hb, ?_, h.tw.keep (Kept.of_below hb l4), ⟨l1, l2, l3, by omega, by omega, by omega, l7⟩, below_next h.bel h.bel.size hb⟩
  rcases h.ou with h0 | ⟨go, cur, e, hne, hc, ha⟩
  · exact .inl h0
  · have hgo : go < wr.heap.size := by
      rcases Nat.lt_or_ge go wr.heap.size with h' | h'
      · exact h'
      · rw [Array.getElem?_eq_none h'] at hc; cases hc
    have f : ∀ p, wx.cell? ⟨go, p, none⟩ = wr.cell? ⟨go, p, none⟩ := fun p => hb.cell (p := ⟨go, p, none⟩) hgo
    exact .inr ⟨go, cur, e, hne, (hb.block go hgo).trans hc, fun j x hx => ⟨(f _).trans (ha j x hx).1, (f _).trans (ha j x hx).2⟩⟩
theorem BkS.tx {w : World} {u : TxD} {g b1 b2 lo hi ci co : Nat} {Ao : Option Addr} {vi2 vo2 : Value} {k : Nat} {wr : World} (h : BkS w u g b1 b2 lo hi ci co Ao vi2 vo2 k wr) (hk : u.ins.length ≤ k) (hci : u.ins.length ≤ ci) (hco : u.outs.length ≤ co) :
    TxAt wr 0 wr.heap.size (.slice (some ⟨g, 0, none⟩) u.ins.length ci) (.slice Ao u.outs.length co) (bareT u) := by
  refine ⟨h.row.ins hk hci, Ao, co, rfl, hco, ?_⟩
  rcases h.ou with h0 | ⟨go, cur, e, hne, hc, ha⟩
  · exact .inl h0
  · have hgo : go < wr.heap.size := by
      rcases Nat.lt_or_ge go wr.heap.size with h' | h'
      · exact h'
      · rw [Array.getElem?_eq_none h'] at hc; cases hc
    exact .inr ⟨go, 0, e, Nat.zero_le _, hgo, fun j x hx => by rw [Nat.zero_add]; exact ha j x hx⟩
theorem bare_ok {t : TxD} (h : t.Ok) : (bareT t).Ok := by
  refine ⟨by show (t.ins.map bareI).length ≤ 512; rw [List.length_map]; exact h.1, h.2.1, fun x hx => ?_, h.2.2.2.1, h.2.2.2.2⟩
  obtain ⟨y, hy, rfl⟩ := List.mem_map.1 hx
  have q := h.2.2.1 y hy
  exact ⟨q.1, q.2.1, q.2.2.1, q.2.2.2.1, q.2.2.2.2.1, Nat.zero_le _, fun s hs => by cases hs⟩

set_option maxHeartbeats 4000000 in
set_option maxRecDepth 100000 in
theorem back_law (t : TxD) (vi vo : Value) (w : World) (ht : TxAt w 0 w.heap.size vi vo t) (hc : t.Came) :
    Calls Try.prog 5 #[.agg #[.int .u32 t.ver, vi, vo, .int .u32 t.lock]] w fun e w' => e = .returned (.bool true) ∧ Below w.heap.size w w' := by
  obtain ⟨W0, hW0⟩ : ∃ W0, W0 = w.alloc (.cells #[.int .u32 t.ver, vi, vo, .int .u32 t.lock] 26) := ⟨_, rfl⟩
  have z0' : W0.heap.size = w.heap.size + 1 := by rw [hW0]; simp
  have hbx : Boxed W0 w.heap.size (.int .u32 t.ver) vi vo (.int .u32 t.lock) := by rw [hW0]; exact Boxed.new _ _ _ _ _ _
  have hT : TxAt W0 0 w.heap.size vi vo t := by rw [hW0]; exact ht.keep (Kept.alloc (Nat.le_refl _) _)
  have HB0 := Lib.hid (show Below w.heap.size w W0 from by rw [hW0]; exact (Below.refl _ _).alloc (Nat.le_refl _) _)
  have HC9 := Lib.hid (fit_any t vi vo W0 w.heap.size hT (by omega) hc)
  have HW0 := Lib.hid hW0
  clear ht hc hT hW0
  obtain ⟨s0, s1, s2, s3⟩ := hbx
  go_enter Try.func5, Try.ntmps5
  go_upto_region 1 with (fail)
  rw [show World.alloc w _ = W0 from HW0.out.symm]
  go_wp2_with fail
  refine HC9.out.mono ?_
  rintro e w1 ⟨u, Ai, Ao, ci, co, rfl, huo, hl1, hl2, hci, hco, hri, hro, hb1⟩
  have z1 := hb1.size
  obtain ⟨w2, hw2⟩ : ∃ w2, w2 = w1.alloc (.cells #[.int .u32 u.ver, .slice Ai u.ins.length ci, .slice Ao u.outs.length co, .int .u32 u.lock] 26) := ⟨_, rfl⟩
  have z2 : w2.heap.size = w1.heap.size + 1 := by rw [hw2]; simp
  have hb2 : Below w1.heap.size w1 w2 := by rw [hw2]; exact (Below.refl _ _).alloc (Nat.le_refl _) _
  have BX := Lib.hid (show Boxed w2 w1.heap.size (.int .u32 u.ver) (.slice Ai u.ins.length ci) (.slice Ao u.outs.length co) (.int .u32 u.lock) from by rw [hw2]; exact Boxed.new _ _ _ _ _ _)
  have HX := Lib.hid (show TxAt w2 0 w1.heap.size (.slice Ai u.ins.length ci) (.slice Ao u.outs.length co) u from ⟨((hri.ins hci).keep (Kept.of_below hb2 (Nat.le_refl _))).wide (Nat.zero_le _) (Nat.le_refl _), ((hro.outs hco).keep (Kept.of_below hb2 (Nat.le_refl _))).wide (Nat.zero_le _) (Nat.le_refl _)⟩)
  have K2 := Lib.hid (below_next (below_next HB0.out (by omega) hb1) (by omega) hb2)
  have HO := Lib.hid huo
  have HRI := Lib.hid hri
  have HRO := Lib.hid hro
  have HB2 := Lib.hid hb2
  have HW2 := Lib.hid hw2
  clear hri hro hb1 hb2 hw2 s0 s1 s2 s3 HC9 HB0 huo
  have hlt : w1.heap.size < w2.heap.size := by omega
  have G := fun (W : World) (hW : Below w2.heap.size w2 W) => (HX.out.keep (Kept.of_below hW (by omega))).wide (Nat.le_refl 0) (show w1.heap.size ≤ W.heap.size by have := hW.size; omega)
  have C10 := Lib.hid (encode_any u _ _ w2 (G w2 (Below.refl _ _)) HO.out)
  have C11 := Lib.hid (fun (W : World) (hW : Below w2.heap.size w2 W) => bare_any u _ _ W (G W hW) HO.out)
  obtain ⟨es, hes⟩ : ∃ es, encS u (hasW u) = es := ⟨_, rfl⟩
  obtain ⟨eb, heb⟩ : ∃ eb, encS u false = eb := ⟨_, rfl⟩
  obtain ⟨cd, hcd⟩ : ∃ cd, checkD u = cd := ⟨_, rfl⟩
  rw [hes, hcd] at C10
  rw [heb, hcd] at C11
  go_upto_region 2 with (fail)
  rw [show World.alloc w1 _ = w2 from HW2.out.symm]
  obtain ⟨b0, b1, b2, b3⟩ := BX.out
  go_wp2_with fail
  refine C10.out.mono ?_
  rintro e w3 ⟨rfl, hb3⟩
  have L3 := Lib.hid hb3
  have z3 := hb3.size
  clear hb3 b0 b1 b2 b3 C10
  obtain ⟨b0, b1, b2, b3⟩ := BX.out.below hlt L3.out
  go_wp2_with fail
  refine (C11.out w3 L3.out).mono ?_
  rintro e w4 ⟨rfl, hb4⟩
  have L4 := Lib.hid (below_next L3.out (by omega) hb4)
  have z4 := hb4.size
  clear hb4 b0 b1 b2 b3 C11 L3 G
  by_cases hz : cd = 0
  · subst hz
    have hse : es = wireS u (hasW u) := by rw [← hes]; unfold encS; rw [if_pos hcd]
    have hsb : eb = wireS u false := by rw [← heb]; unfold encS; rw [if_pos hcd]
    have d1 := dec_enc HO.out hcd
    have d2 := dec_bare HO.out hcd
    have q1 := wire_le HO.out (hasW u)
    have q2 := bare_le u (hasW u)
    have n1 := (check_parts hcd).1
    rw [← hse] at d1 q1 q2
    rw [← hsb] at d2 q2
    have C15 := Lib.hid (fun W => decode_any es W (by omega))
    have D15 := Lib.hid (fun W => decode_any eb W (by omega))
    rw [d1.1, d1.2.1, d1.2.2] at C15
    rw [d2.1, d2.2.1, d2.2.2, show (bareT u).ver = u.ver from rfl, show (bareT u).lock = u.lock from rfl] at D15
    clear hes heb hcd hse hsb d1 d2
    go_wp2_with fail
    refine (C15.out w4).mono ?_
    rintro e w5 ⟨ti, tp, rfl, ht5, hb5⟩
    have z5 := hb5.size
    obtain ⟨A1, m1, rfl⟩ := ht5.1.form
    obtain ⟨A2, m2, rfl⟩ := ht5.2.form
    obtain ⟨w6, hw6⟩ : ∃ w6, w6 = w5.alloc (.cells #[.int .u32 u.ver, .slice A1 u.ins.length m1, .slice A2 u.outs.length m2, .int .u32 u.lock] 26) := ⟨_, rfl⟩
    have z6 : w6.heap.size = w5.heap.size + 1 := by rw [hw6]; simp
    have hb6 : Below w5.heap.size w5 w6 := by rw [hw6]; exact (Below.refl _ _).alloc (Nat.le_refl _) _
    have BV := Lib.hid (show Boxed w6 w5.heap.size (.int .u32 u.ver) (.slice A1 u.ins.length m1) (.slice A2 u.outs.length m2) (.int .u32 u.lock) from by rw [hw6]; exact Boxed.new _ _ _ _ _ _)
    have TV := Lib.hid (ht5.keep (Kept.of_below hb6 (Nat.le_refl _)))
    have L6 := Lib.hid (below_next (below_next L4.out (by omega) hb5) (by omega) hb6)
    have HW6 := Lib.hid hw6
    clear ht5 hb5 hb6 hw6 C15 L4
    go_upto_region 7 with (fail)
    rw [show World.alloc w5 _ = w6 from HW6.out.symm]
    go_wp2_with fail
    refine (D15.out w6).mono ?_
    rintro e w7 ⟨bi, bp, rfl, ht7, hb7⟩
    have z7 := hb7.size
    obtain ⟨A3, m3, hA3⟩ := ht7.1.form
    obtain ⟨A4, m4, hA4⟩ := ht7.2.form
    rw [show (bareT u).ins.length = u.ins.length from List.length_map _] at hA3
    rw [show (bareT u).outs.length = u.outs.length from rfl] at hA4
    subst hA3 hA4
    obtain ⟨w8, hw8⟩ : ∃ w8, w8 = w7.alloc (.cells #[.int .u32 u.ver, .slice A3 u.ins.length m3, .slice A4 u.outs.length m4, .int .u32 u.lock] 26) := ⟨_, rfl⟩
    have z8 : w8.heap.size = w7.heap.size + 1 := by rw [hw8]; simp
    have hb8 : Below w7.heap.size w7 w8 := by rw [hw8]; exact (Below.refl _ _).alloc (Nat.le_refl _) _
    have BW := Lib.hid (show Boxed w8 w7.heap.size (.int .u32 u.ver) (.slice A3 u.ins.length m3) (.slice A4 u.outs.length m4) (.int .u32 u.lock) from by rw [hw8]; exact Boxed.new _ _ _ _ _ _)
    have TW := Lib.hid (ht7.keep (Kept.of_below hb8 (Nat.le_refl _)))
    have hb68 : Below w6.heap.size w6 w8 := below_next hb7 (by omega) hb8
    have BV8 := Lib.hid (BV.out.below (by omega) hb68)
    have TV8 := Lib.hid (TV.out.keep (Kept.of_below hb68 (by omega)))
    have L8 := Lib.hid (below_next L6.out (by omega) hb68)
    have HW8 := Lib.hid hw8
    clear ht7 hb7 hb8 hw8 D15 L6 BV TV hb68
    go_upto_region 8 with (fail)
    rw [show World.alloc w7 _ = w8 from HW8.out.symm]
    go_wp2_with fail
    refine (wakes_any _).mono ?_
    rintro e w9 ⟨rfl, hb9⟩
    have z9 := hb9.size
    have L9 := Lib.hid (below_next L8.out (by omega) hb9)
    have C17 := Lib.hid (rsame_any u u _ _ _ _ w9 0 w1.heap.size w4.heap.size w5.heap.size (HX.out.keep (Kept.of_below L9.out (by omega))) (TV8.out.keep (Kept.of_below hb9 (by omega))) (by omega) (by omega) HO.out)
    rw [txB_refl] at C17
    obtain ⟨c0, c1, c2, c3⟩ := BV8.out.below (by omega) hb9
    obtain ⟨b0, b1, b2, b3⟩ := BX.out.below hlt L9.out
    have BW9 := Lib.hid (BW.out.below (by omega) hb9)
    have TW9 := Lib.hid (TW.out.keep (Kept.of_below hb9 (by omega)))
    clear hb9 BW TW BV8 TV8 L8
    go_wp2_with fail
    refine C17.out.mono ?_
    rintro e wa ⟨rfl, hba⟩
    have za := hba.size
    have La := Lib.hid (below_next L9.out (by omega) hba)
    obtain ⟨g, rfl, hg1, hg2, hbk⟩ := bk_new HRI.out n1
    have SA := Lib.hid (show BkS w u g w1.heap.size w7.heap.size w6.heap.size w7.heap.size ci co Ao (.slice A3 u.ins.length m3) (.slice A4 u.outs.length m4) 0 wa from by
      have hall : Below w1.heap.size w1 wa := below_next HB2.out (by omega) (La.out)
      refine ⟨?_, BX.out.below hlt La.out, BW9.out.below (by omega) hba, ?_, TW9.out.keep (Kept.of_below hba (by omega)), ⟨hg2, by omega, by omega, by omega, by omega, by omega, by omega⟩, below_next K2.out K2.out.size La.out⟩
      · exact hbk.below hall
      · rcases HRO.out with h0 | ⟨go, cur, e, h1, h2, hc, ha⟩
        · exact .inl h0
        · refine .inr ⟨go, cur, e, ?_, (hall.block go h2).trans hc, fun j x hx => ⟨(hall.cell (p := ⟨go, j * 2, none⟩) h2).trans (ha j x hx).1, (hall.cell (p := ⟨go, j * 2 + 1, none⟩) h2).trans (ha j x hx).2⟩⟩
          intro e
          obtain ⟨cg, hcg⟩ := hbk.blk
          rw [e, hcg] at hc
          injection hc with hc
          injection hc with _ hc _
          cases hc)
    clear hbk hba b0 b1 b2 b3 c0 c1 c2 c3 C17 HRI HRO TW9 BW9 HX
    obtain ⟨b0, b1, b2, b3⟩ := SA.out.bu
    go_wp2_with fail
    go_loopg [82] u.ins.length (fun gg s wr => ∃ k : Nat, k ≤ u.ins.length ∧ u.ins.length - k ≤ gg ∧ s = .int .i64 k ∧ Hid (BkS w u g w1.heap.size w7.heap.size w6.heap.size w7.heap.size ci co Ao (.slice A3 u.ins.length m3) (.slice A4 u.outs.length m4) k wr))
    case atStart => exact ⟨0, Nat.zero_le _, by omega, rfl, SA⟩
    case round =>
      clear b0 b1 b2 b3 SA
      obtain ⟨k, hk, hgk, rfl, HS⟩ := hrel
      obtain ⟨b0, b1, b2, b3⟩ := HS.out.bu
      by_cases hkl : k < u.ins.length
      · have k1 : (k : Int) < (u.ins.length : Int) := by omega
        have k2 : decide (k < u.ins.length) = true := decide_eq_true hkl
        obtain ⟨x, hx⟩ : ∃ x, u.ins[k]? = some x := ⟨_, List.getElem?_eq_getElem hkl⟩
        obtain ⟨_, _, _, ⟨v, c3⟩, _⟩ := HS.out.row.at' k x hx
        have f3 := HS.out.row.frozen (k * 4 + 3)
        have S2 := Lib.hid (HS.out.step hkl)
        clear hx
        go_wp2_with fail
        go_roundg (u.ins.length - (k + 1))
        case measure => omega
        case rel => exact ⟨k + 1, by omega, by omega, by go_num, S2⟩
      · have k1 : ¬ (k : Int) < (u.ins.length : Int) := by omega
        obtain ⟨c0, c1, c2, c3⟩ := HS.out.bw
        have l := HS.out.lt
        have C17 := Lib.hid (show Calls Try.prog 17 #[.agg #[.int .u32 u.ver, .slice (some ⟨g, 0, none⟩) u.ins.length ci, .slice Ao u.outs.length co, .int .u32 u.lock], .agg #[.int .u32 u.ver, .slice A3 u.ins.length m3, .slice A4 u.outs.length m4, .int .u32 u.lock]] wr _ from rsame_any (bareT u) (bareT u) _ _ _ _ wr 0 wr.heap.size w6.heap.size w7.heap.size (HS.out.tx (by omega) hci hco) HS.out.tw (Nat.le_refl _) l.2.2.2.1 (bare_ok HO.out))
        rw [txB_refl] at C17
        have e1 : ¬ ((es.size : Int) < (eb.size : Int)) := by omega
        go_wp2_with fail
        refine C17.out.mono ?_
        rintro e wz ⟨rfl, hbz⟩
        go_wp2_with fail
        go_ret
        exact ⟨rfl, below_next HS.out.bel HS.out.bel.size hbz⟩
  · have e1 : (cd != 0) = true := by simpa using hz
    have e2 : (cd == cd) = true := by simp
    go_wp2_with fail
    refine (wakes_any _).mono ?_
    rintro e w5 ⟨rfl, hb5⟩
    go_wp2_with fail
    go_ret
    exact ⟨rfl, below_next (below_next K2.out (by have := K2.out.size; omega) L4.out) (by have := K2.out.size; omega) hb5⟩

end Go.Proofs.Ytkdkkndccjddnaa
