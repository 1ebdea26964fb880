/-
  The program's Copy: a transaction of the call's own memory.
  The program's Copy: the inputs' copy in a row that may be appended to.
-/
import Derived.Test.YtjclklppnkoehaaDoorTell
import Derived.Test.YtjclklppnkoehaaDoorCut

namespace Go.Proofs.YtjclklppnkoehaaDoor
open Go.RowKit
set_option maxRecDepth 100000

theorem Cloned.form {w w' : World} {A : Option Addr} {n size : Nat} {e : TypeId} {v' : Value} (h : Cloned w A n size e v' w') : ∃ A' c', v' = .slice A' n c' := by
  rcases h with ⟨rfl, A', c', rfl⟩ | ⟨b, off, g, cap, cur, _, rfl, _⟩
  · exact ⟨A', c', rfl⟩
  · exact ⟨_, _, rfl⟩

/-- Copies of inputs, behind k rounds: the first k have Witnesses of their own, the others those that they had. -/
def CopyIns (lo hi lo2 : Nat) (A : Option Addr) (c : Nat) (xs : List InD) (k : Nat) (wr : World) : Prop :=
  xs.length ≤ c ∧ (xs = [] ∨ ∃ g cur, A = some ⟨g, 0, none⟩ ∧ lo2 ≤ g ∧ g < wr.heap.size ∧ wr.heap[g]? = some (.cells cur 46 (0, 0)) ∧
    ∀ (j : Nat) (x : InD), xs[j]? = some x → wr.cell? ⟨g, j * 4, none⟩ = some (.string x.id) ∧ wr.cell? ⟨g, j * 4 + 1, none⟩ = some (.int .u32 x.ix) ∧ wr.cell? ⟨g, j * 4 + 2, none⟩ = some (.int .u32 x.sq) ∧
      ∃ u, wr.cell? ⟨g, j * 4 + 3, none⟩ = some u ∧ ((j < k → Strs wr (g + 1) wr.heap.size u x.wit) ∧ (k ≤ j → Strs wr lo hi u x.wit)))

theorem CopyIns.start {w w' : World} {lo hi : Nat} {A A' : Option Addr} {c c' : Nat} {xs : List InD} (h : Ins w lo hi (.slice A xs.length c) xs) (hhi : hi ≤ w.heap.size) (hc : Cloned w A xs.length 4 46 (.slice A' xs.length c') w') (hb : Below w.heap.size w w') :
    xs = [] ∨ CopyIns lo hi w.heap.size A' c' xs 0 w' := by
  rcases hc with ⟨h0, _⟩ | ⟨b, off, g, cap, cur, rfl, hv, hle, h1, h2, hg, hs, hcell⟩
  · exact .inl (List.eq_nil_of_length_eq_zero h0)
  · injection hv with e1 e2 e3
    subst e1 e3
    rcases h with ⟨A1, c1, hv, _, h | ⟨b', off', rfl, _, _, h⟩⟩
    · exact .inl h
    · injection hv with hA
      injection hA with hA
      injection hA with e1 e2
      subst e1 e2
      refine .inr ⟨hle, .inr ⟨g, cur, rfl, h1, h2, hg, fun j x hx => ?_⟩⟩
      have hj := (List.getElem?_eq_some_iff.1 hx).1
      obtain ⟨c0, c1, c2, v, c3, hst⟩ := h j x hx
      exact ⟨(hcell _ (by omega)).trans c0, (hcell _ (by omega)).trans c1, (hcell _ (by omega)).trans c2, v, (hcell _ (by omega)).trans c3, fun h => absurd h (Nat.not_lt_zero _), fun _ => hst.keep (Kept.of_below hb hhi)⟩

theorem CopyIns.keep {w w' : World} {lo hi lo2 : Nat} {A : Option Addr} {c : Nat} {xs : List InD} {k : Nat} (h : CopyIns lo hi lo2 A c xs k w) (hk1 : Kept lo2 w.heap.size w w') (hk2 : Kept lo hi w w') (hsz : w.heap.size ≤ w'.heap.size) : CopyIns lo hi lo2 A c xs k w' := by
  obtain ⟨hc, h⟩ := h
  refine ⟨hc, ?_⟩
  rcases h with h | ⟨g, cur, rfl, h1, h2, hg, h⟩
  · exact .inl h
  · have hcell : ∀ o, w'.cell? ⟨g, o, none⟩ = w.cell? ⟨g, o, none⟩ := fun o => hk1.cell h1 h2
    refine .inr ⟨g, cur, rfl, h1, by omega, (hk1 g h1 h2).trans hg, fun j x hx => ?_⟩
    obtain ⟨c0, c1, c2, u, c3, s1, s2⟩ := h j x hx
    exact ⟨(hcell _).trans c0, (hcell _).trans c1, (hcell _).trans c2, u, (hcell _).trans c3, fun hj => ((s1 hj).keep (hk1.mono (by omega) (Nat.le_refl _))).wide (Nat.le_refl _) hsz, fun hj => (s2 hj).keep hk2⟩

theorem CopyIns.step {w : World} {lo hi lo2 : Nat} {g c : Nat} {xs : List InD} {k : Nat} {x : InD} {u : Value} (h : CopyIns lo hi lo2 (some ⟨g, 0, none⟩) c xs k w) (hhi : hi ≤ lo2) (hx : xs[k]? = some x)
    (hs : Strs w (g + 1) w.heap.size u x.wit) : CopyIns lo hi lo2 (some ⟨g, 0, none⟩) c xs (k + 1) (w.setCell ⟨g, k * 4 + 3, none⟩ u) := by
  obtain ⟨hc, h⟩ := h
  refine ⟨hc, ?_⟩
  rcases h with rfl | ⟨g', cur, hA, h1, h2, hg, h⟩
  · simp at hx
  · injection hA with hA
    injection hA with e1
    subst e1
    have hsz : (w.setCell ⟨g, k * 4 + 3, none⟩ u).heap.size = w.heap.size := by simp [World.setCell]
    refine .inr ⟨g, cur.setIfInBounds (k * 4 + 3) u, rfl, h1, by rw [hsz]; exact h2, by simp [World.setCell, Array.getElem?_modify, hg], fun j y hy => ?_⟩
    obtain ⟨c0, c1, c2, v, c3, s1, s2⟩ := h j y hy
    have far : ∀ o, o ≠ k * 4 + 3 → (w.setCell ⟨g, k * 4 + 3, none⟩ u).cell? ⟨g, o, none⟩ = w.cell? ⟨g, o, none⟩ := fun o ho => World.cell?_setCell_other _ _ _ _ (fun e => ho (by injection e with _ e; exact e.symm))
    have kp1 : Kept (g + 1) w.heap.size w (w.setCell ⟨g, k * 4 + 3, none⟩ u) := Kept.setCell (.inl (by show g < g + 1; omega)) u
    have kp2 : Kept lo hi w (w.setCell ⟨g, k * 4 + 3, none⟩ u) := Kept.setCell (.inr (by show hi ≤ g; omega)) u
    refine ⟨(far _ (by omega)).trans c0, (far _ (by omega)).trans c1, (far _ (by omega)).trans c2, ?_⟩
    by_cases hjk : j = k
    · subst hjk
      obtain rfl : x = y := by rw [hx] at hy; injection hy
      refine ⟨u, World.cell?_setCell_same _ _ _ c3, fun _ => ?_, fun h => absurd h (by omega)⟩
      rw [hsz]
      exact hs.keep kp1
    · refine ⟨v, (far _ (by omega)).trans c3, fun hj => ?_, fun hj => (s2 (by omega)).keep kp2⟩
      rw [hsz]
      exact (s1 (by omega)).keep kp1

theorem CopyIns.fin {w : World} {lo hi lo2 : Nat} {A : Option Addr} {c : Nat} {xs : List InD} (h : CopyIns lo hi lo2 A c xs xs.length w) : Ins w lo2 w.heap.size (.slice A xs.length c) xs := by
  obtain ⟨hc, h⟩ := h
  refine ⟨A, c, rfl, hc, ?_⟩
  rcases h with h | ⟨g, cur, rfl, h1, h2, hg, h⟩
  · exact .inl h
  · refine .inr ⟨g, 0, rfl, h1, h2, fun j x hx => ?_⟩
    obtain ⟨c0, c1, c2, u, c3, s1, _⟩ := h j x hx
    rw [Nat.zero_add]
    exact ⟨c0, c1, c2, u, c3, (s1 (List.getElem?_eq_some_iff.1 hx).1).wide (by omega) (Nat.le_refl _)⟩

theorem CopyIns.at {w : World} {lo hi lo2 : Nat} {A : Option Addr} {c : Nat} {xs : List InD} {k : Nat} {x : InD} (h : CopyIns lo hi lo2 A c xs k w) (hx : xs[k]? = some x) :
    ∃ g B n, A = some ⟨g, 0, none⟩ ∧ lo2 ≤ g ∧ g < w.heap.size ∧ w.cell? ⟨g, k * 4 + 3, none⟩ = some (.slice B x.wit.length n) ∧ Strs w lo hi (.slice B x.wit.length n) x.wit ∧ ∀ o, w.frozen? ⟨g, o, none⟩ = false := by
  obtain ⟨hc, h⟩ := h
  rcases h with rfl | ⟨g, cur, rfl, h1, h2, hg, h⟩
  · simp at hx
  · obtain ⟨c0, c1, c2, u, c3, _, s2⟩ := h k x hx
    have hs := s2 (Nat.le_refl _)
    obtain ⟨B, n, rfl, _⟩ := hs.form
    exact ⟨g, B, n, rfl, h1, h2, c3, hs, fun o => by simp [World.frozen?, hg]⟩

/-- What stands behind k rounds of Copy's loop: the box with both copies, the inputs' copies so far, the outputs' copies, the box of what is answered. -/
structure CopyState (w : World) (tv tl : Int) (ti : List InD) (tz : List OutD) (lo hi lo3 hi3 : Nat) (A B : Option Addr) (c d k : Nat) (wx : World) : Prop where
  box : Boxed wx w.heap.size (.int .u32 tv) (.slice A ti.length c) (.slice B tz.length d) (.int .u32 tl)
  ins : CopyIns lo hi (w.heap.size + 2) A c ti k wx
  outs : Outs wx lo3 hi3 (.slice B tz.length d) tz
  bel : Below w.heap.size w wx
  le3 : w.heap.size + 2 ≤ lo3
  le2 : hi3 ≤ wx.heap.size
  le1 : w.heap.size + 2 ≤ wx.heap.size
  under : ti ≠ [] → ∀ a, A = some a → a.block < lo3
  cells : ∀ o, o < 4 → ∃ u, wx.cell? ⟨w.heap.size + 1, o, none⟩ = some u
  free : ∀ o, wx.frozen? ⟨w.heap.size + 1, o, none⟩ = false

/-- What stands behind the first statement of Copy: both lists cloned, and put into the box. -/
def CopyMid (w : World) (tv tl : Int) (ti : List InD) (tz : List OutD) (lo hi : Nat) (wx : World) : Prop :=
  ∃ (A B : Option Addr) (c d lo3 hi3 : Nat), CopyState w tv tl ti tz lo hi lo3 hi3 A B c d 0 wx

theorem CopyState.step {w : World} {tv tl : Int} {ti : List InD} {tz : List OutD} {lo hi lo3 hi3 g c d k : Nat} {B : Option Addr} {wr w1 : World} {x : InD} {u : Value} (h : CopyState w tv tl ti tz lo hi lo3 hi3 (some ⟨g, 0, none⟩) B c d k wr)
    (hhi : hi ≤ w.heap.size) (hx : ti[k]? = some x) (hg : w.heap.size + 2 ≤ g) (hg2 : g < wr.heap.size) (hb : Below wr.heap.size wr w1) (hs : Strs w1 wr.heap.size w1.heap.size u x.wit) :
    CopyState w tv tl ti tz lo hi lo3 hi3 (some ⟨g, 0, none⟩) B c d (k + 1) (w1.setCell ⟨g, k * 4 + 3, none⟩ u) := by
  obtain ⟨hbox, hins, houts, hbel, le3, le2, le1, und, hcells, hfree⟩ := h
  have hsz : (w1.setCell ⟨g, k * 4 + 3, none⟩ u).heap.size = w1.heap.size := by simp [World.setCell]
  have z1 := hb.size
  have gl : g < lo3 := und (fun e => by subst e; simp at hx) _ rfl
  have kp : ∀ lo' hi', g < lo' ∨ hi' ≤ g → hi' ≤ wr.heap.size → Kept lo' hi' wr (w1.setCell ⟨g, k * 4 + 3, none⟩ u) := fun lo' hi' h h' => (Kept.of_below hb h').trans (Kept.setCell (p := ⟨g, k * 4 + 3, none⟩) h u)
  have kc : ∀ b o, b < w.heap.size + 2 → (w1.setCell ⟨g, k * 4 + 3, none⟩ u).cell? ⟨b, o, none⟩ = wr.cell? ⟨b, o, none⟩ := fun b o h => (kp 0 (w.heap.size + 2) (.inr hg) le1).cell (Nat.zero_le _) h
  refine ⟨?_, ?_, ?_, ?_, le3, by rw [hsz]; omega, by rw [hsz]; omega, und, ?_, ?_⟩
  · exact ⟨(kc _ 0 (by omega)).trans hbox.1, (kc _ 1 (by omega)).trans hbox.2.1, (kc _ 2 (by omega)).trans hbox.2.2.1, (kc _ 3 (by omega)).trans hbox.2.2.2⟩
  · exact (hins.keep (Kept.of_below hb (Nat.le_refl _)) (Kept.of_below hb (by omega)) z1).step (by omega) hx (hs.wide (by omega) (Nat.le_refl _))
  · exact houts.keep (kp _ _ (.inl gl) le2)
  · exact (below_next hbel (by omega) hb).setCell (by show w.heap.size ≤ g; omega) u
  · intro o ho
    obtain ⟨u', hu'⟩ := hcells o ho
    exact ⟨u', (kc _ o (by omega)).trans hu'⟩
  · intro o
    exact (World.frozen?_of_block (w := wr) (a := ⟨w.heap.size + 1, o, none⟩) (kp 0 (w.heap.size + 2) (.inr hg) le1 (w.heap.size + 1) (Nat.zero_le _) (by omega))).trans (hfree o)

theorem copy_mid {w W0 wa wb : World} {tv tl : Int} {ti : List InD} {tz : List OutD} {lo hi m1 m2 ma mb : Nat} {A1 A2 Aa Ab : Option Addr}
    (hI : Ins w lo hi (.slice A1 ti.length m1) ti) (hO : Outs w lo hi (.slice A2 tz.length m2) tz) (hhi : hi ≤ w.heap.size)
    (hW0 : W0 = ((w.alloc (.cells #[.int .u32 tv, .slice A1 ti.length m1, .slice A2 tz.length m2, .int .u32 tl] 34)).alloc (.cells #[.int .u32 0, .slice none 0 0, .slice none 0 0, .int .u32 0] 34)).drew)
    (hca : Cloned W0 A1 ti.length 4 46 (.slice Aa ti.length ma) wa) (hba : Below W0.heap.size W0 wa) (hcb : Cloned wa A2 tz.length 2 48 (.slice Ab tz.length mb) wb) (hbb : Below wa.heap.size wa wb) :
    CopyMid w tv tl ti tz lo hi ((wb.setCell ⟨w.heap.size, 1, none⟩ (.slice Aa ti.length ma)).setCell ⟨w.heap.size, 2, none⟩ (.slice Ab tz.length mb)) := by
  have z0 : W0.heap.size = w.heap.size + 2 := by rw [hW0]; simp
  have b0 : Below w.heap.size w W0 := by rw [hW0]; exact (((Below.refl w.heap.size w).alloc (Nat.le_refl _) _).alloc (by simp) _).drew
  have za := hba.size
  have zb := hbb.size
  have bb : Below W0.heap.size W0 wb := below_next hba za hbb
  have hsz : ((wb.setCell ⟨w.heap.size, 1, none⟩ (.slice Aa ti.length ma)).setCell ⟨w.heap.size, 2, none⟩ (.slice Ab tz.length mb)).heap.size = wb.heap.size := by simp [World.setCell]
  have kp : ∀ lo' hi', w.heap.size < lo' ∨ hi' ≤ w.heap.size → Kept lo' hi' wb ((wb.setCell ⟨w.heap.size, 1, none⟩ (.slice Aa ti.length ma)).setCell ⟨w.heap.size, 2, none⟩ (.slice Ab tz.length mb)) := fun lo' hi' h =>
    (Kept.setCell (p := ⟨w.heap.size, 1, none⟩) h _).trans (Kept.setCell (p := ⟨w.heap.size, 2, none⟩) h _)
  have far : ∀ o, o ≠ 1 → o ≠ 2 → ((wb.setCell ⟨w.heap.size, 1, none⟩ (.slice Aa ti.length ma)).setCell ⟨w.heap.size, 2, none⟩ (.slice Ab tz.length mb)).cell? ⟨w.heap.size, o, none⟩ = W0.cell? ⟨w.heap.size, o, none⟩ := fun o h1 h2 => by
    rw [World.cell?_setCell_other _ _ _ _ (fun e => h2 (by injection e with _ e; exact e.symm)), World.cell?_setCell_other _ _ _ _ (fun e => h1 (by injection e with _ e; exact e.symm))]
    exact bb.cell (p := ⟨w.heap.size, o, none⟩) (by show w.heap.size < _; omega)
  have old : ∀ o, wb.cell? ⟨w.heap.size, o, none⟩ = W0.cell? ⟨w.heap.size, o, none⟩ := fun o => bb.cell (p := ⟨w.heap.size, o, none⟩) (by show w.heap.size < _; omega)
  have hI0 := hI.keep (Kept.of_below b0 hhi)
  have hO0 := hO.keep (Kept.of_below (below_next b0 (by omega) hba) hhi)
  refine ⟨Aa, Ab, ma, mb, wa.heap.size, wb.heap.size, ⟨⟨?_, ?_, ?_, ?_⟩, ?_, ?_, ?_, by omega, by rw [hsz]; exact Nat.le_refl _, ?_, ?_, ?_, ?_⟩⟩
  · rw [far 0 (by omega) (by omega), hW0]; simp
  · rw [World.cell?_setCell_other _ _ _ _ (by simp)]
    exact World.cell?_setCell_same _ _ _ ((old 1).trans (by rw [hW0]; simp; rfl))
  · exact World.cell?_setCell_same _ _ _ ((World.cell?_setCell_other _ _ _ _ (by simp)).trans ((old 2).trans (by rw [hW0]; simp; rfl)))
  · rw [far 3 (by omega) (by omega), hW0]; simp
  · rcases CopyIns.start hI0 (by omega) hca hba with rfl | h
    · exact ⟨Nat.zero_le _, .inl rfl⟩
    · rw [z0] at h
      have h1 := h.keep (Kept.of_below hbb (Nat.le_refl _)) (Kept.of_below hbb (by omega)) zb
      exact h1.keep (kp _ _ (.inl (by omega))) (kp _ _ (.inr hhi)) (by rw [hsz]; exact Nat.le_refl _)
  · exact (hcb.outs hO0).keep (kp _ _ (.inl (by omega)))
  · exact ((below_next b0 (by omega) bb).setCell (Nat.le_refl _) _).setCell (Nat.le_refl _) _
  · rw [hsz]; omega
  · intro hne a ha
    rcases CopyIns.start hI0 (by omega) hca hba with h | ⟨_, h | ⟨g, cur, hA, _, hlt, _⟩⟩
    · exact absurd h hne
    · exact absurd h hne
    · rw [ha] at hA
      injection hA with hA
      rw [hA]
      exact hlt
  · intro o ho
    have e : ((wb.setCell ⟨w.heap.size, 1, none⟩ (.slice Aa ti.length ma)).setCell ⟨w.heap.size, 2, none⟩ (.slice Ab tz.length mb)).cell? ⟨w.heap.size + 1, o, none⟩ = W0.cell? ⟨w.heap.size + 1, o, none⟩ :=
      ((kp (w.heap.size + 1) (w.heap.size + 2) (.inl (by omega))).cell (Nat.le_refl _) (by omega)).trans (bb.cell (p := ⟨w.heap.size + 1, o, none⟩) (by show w.heap.size + 1 < _; omega))
    rw [e, hW0]
    match o, ho with
    | 0, _ => exact ⟨_, by simp; rfl⟩
    | 1, _ => exact ⟨_, by simp; rfl⟩
    | 2, _ => exact ⟨_, by simp; rfl⟩
    | 3, _ => exact ⟨_, by simp; rfl⟩
  · intro o
    have e := World.frozen?_of_block (w := wb) (a := ⟨w.heap.size + 1, o, none⟩) (kp (w.heap.size + 1) (w.heap.size + 2) (.inl (by omega)) (w.heap.size + 1) (Nat.le_refl _) (by omega))
    rw [e, bb.frozen (p := ⟨w.heap.size + 1, o, none⟩) (by show w.heap.size + 1 < _; omega), hW0]
    simp

set_option maxHeartbeats 1000000 in
theorem copy_any (t : TxD) (vi vo : Value) (w : World) (lo hi : Nat) (ht : TxAt w lo hi vi vo t) (hhi : hi ≤ w.heap.size) (hok : t.Ok) :
    Calls Tryd.prog 17 #[.agg #[.int .u32 t.ver, vi, vo, .int .u32 t.lock]] w fun e w' => ∃ vi' vo', e = .returned (.agg #[.int .u32 t.ver, vi', vo', .int .u32 t.lock]) ∧ TxAt w' w.heap.size w'.heap.size vi' vo' t ∧ Below w.heap.size w w' := by
  obtain ⟨tv, ti, tz, tl⟩ := t
  obtain ⟨A1, m1, rfl⟩ := ht.1.form
  obtain ⟨A2, m2, rfl⟩ := ht.2.form
  have HT := Lib.hid ht
  have HO := Lib.hid hok
  simp only
  clear ht hok
  have B0 := Lib.hid (fun o o' => ((Below.refl w.heap.size w).alloc (Nat.le_refl _) o).alloc (by simp) o')
  have hc37 : ∀ W, Below w.heap.size w W → Calls Tryd.prog 39 #[.slice A1 ti.length m1] W fun e wa => ∃ Aa ma, e = .returned (.slice Aa ti.length ma) ∧ Cloned W A1 ti.length 4 46 (.slice Aa ti.length ma) wa ∧ Below W.heap.size W wa := fun W hW =>
    (clone_in A1 _ m1 W HO.out.1 ((HT.out.1.keep (Kept.of_below hW hhi)).source)).mono fun e wa ⟨v, he, h1, h2⟩ => by obtain ⟨Aa, ma, rfl⟩ := h1.form; exact ⟨Aa, ma, he, h1, h2⟩
  have hc34 : ∀ W, Below w.heap.size w W → Calls Tryd.prog 40 #[.slice A2 tz.length m2] W fun e wa => ∃ Aa ma, e = .returned (.slice Aa tz.length ma) ∧ Cloned W A2 tz.length 2 48 (.slice Aa tz.length ma) wa ∧ Below W.heap.size W wa := fun W hW =>
    (clone_out A2 _ m2 W HO.out.2.1 ((HT.out.2.keep (Kept.of_below hW hhi)).source)).mono fun e wa ⟨v, he, h1, h2⟩ => by obtain ⟨Aa, ma, rfl⟩ := h1.form; exact ⟨Aa, ma, he, h1, h2⟩
  have HC37 := Lib.hid hc37
  have HC34 := Lib.hid hc34
  clear hc37 hc34
  go_enter Tryd.func17, Tryd.ntmps17
  go_wp2_with fail
  go_cut [] (fun wx => CopyMid w tv tl ti tz lo hi wx)
  case first =>
    go_region_with (first
      | (go_at_call 39; refine (HC37.out _ (by exact (B0.out _ _).drew)).mono ?_; rintro e wa ⟨Aa, ma, rfl, hca, hba⟩; have q1 := hba.cell (p := ⟨w.heap.size, 1, none⟩) (by simp; omega); have q2 := hba.cell (p := ⟨w.heap.size, 2, none⟩) (by simp; omega); have q3 := hba.frozen (p := ⟨w.heap.size, 1, none⟩) (by simp; omega); have q4 := hba.frozen (p := ⟨w.heap.size, 2, none⟩) (by simp; omega); simp at q1 q2 q3 q4)
      | (go_at_call 40; refine (HC34.out _ (by exact below_next (B0.out _ _).drew (by simp; omega) hba)).mono ?_; rintro e wb ⟨Ab, mb, rfl, hcb, hbb⟩; have hzz : w.heap.size < wa.heap.size := (by have := hba.size; simp at this; omega); have s1 := (hbb.cell (p := ⟨w.heap.size, 1, none⟩) hzz).trans q1; have s2 := (hbb.cell (p := ⟨w.heap.size, 2, none⟩) hzz).trans q2; have s3 := (hbb.frozen (p := ⟨w.heap.size, 1, none⟩) hzz).trans q3; have s4 := (hbb.frozen (p := ⟨w.heap.size, 2, none⟩) hzz).trans q4))
    all_goals go_wp2_with fail
    all_goals go_meet
    all_goals exact copy_mid HT.out.1 HT.out.2 hhi rfl hca hba hcb hbb
  case rest =>
    obtain ⟨A, B, c, d, lo3, hi3, hst⟩ := hcut
    obtain ⟨w0, hw0⟩ : ∃ w0, w0 = w := ⟨_, rfl⟩
    obtain ⟨a0, a1, a2, a3⟩ := hst.box
    have HST := Lib.hid hst
    have hl := HO.out.1
    simp only at hl
    clear hst hw0
    go_wp2_with fail
    go_loopg [3, 15] ti.length (fun gg _ s wr => ∃ k : Nat, k ≤ ti.length ∧ ti.length - k ≤ gg ∧ s = .int .i64 k ∧ Hid (CopyState w tv tl ti tz lo hi lo3 hi3 A B c d k wr))
    case atStart => exact ⟨0, Nat.zero_le _, by omega, rfl, HST.out⟩
    case round =>
      obtain ⟨k, hk, hg, rfl, HS⟩ := hrel
      clear a0 a1 a2 a3
      obtain ⟨a0, a1, a2, a3⟩ := HS.out.box
      have hz := HS.out.le1
      by_cases hlt : k < ti.length
      · have hltz : (k : Int) < (ti.length : Int) := by omega
        have hd : decide (k < ti.length) = true := decide_eq_true hlt
        obtain ⟨x, hxk⟩ : ∃ x, ti[k]? = some x := ⟨_, List.getElem?_eq_getElem hlt⟩
        obtain ⟨g, Bx, nx, rfl, hg1, hg2, hc3, hsx, hfz⟩ := HS.out.ins.at hxk
        have hf3 := hfz (k * 4 + 3)
        have hwl := (HO.out.2.2.1 x (List.mem_of_getElem? hxk)).2.2.2.2.2.1
        have HSX := Lib.hid hsx
        have HXK := Lib.hid hxk
        clear hsx hxk hfz
        go_wp2_with fail
        go_region_with (first
          | (go_at_call 41; refine (clone_str Bx _ nx _ (by omega) (Strs.source (by exact HSX.out))).mono ?_; rintro e w1 ⟨vw, rfl, hcl, hb1⟩; obtain ⟨Aw, mw, rfl⟩ := hcl.form; have p1 := hb1.cell (p := ⟨g, k * 4 + 3, none⟩) (by simp; omega); have p2 := hb1.frozen (p := ⟨g, k * 4 + 3, none⟩) (by simp; omega); have p3 := hb1.cell (p := ⟨w.heap.size, 1, none⟩) (by simp; omega); simp [hc3, hf3, a1] at p1 p2 p3))
        all_goals go_wp2_with fail
        all_goals go_roundg (ti.length - (k + 1))
        all_goals first | omega | exact ⟨k + 1, by omega, by omega, by go_num, CopyState.step HS.out hhi HXK.out hg1 hg2 ⟨hb1.os, hb1.tape, hb1.output, hb1.size, hb1.block⟩ (hcl.strs (by exact HSX.out))⟩
      · have hltz : ¬ (k : Int) < (ti.length : Int) := by omega
        obtain rfl : k = ti.length := by omega
        obtain ⟨u0, e0⟩ := HS.out.cells 0 (by omega)
        obtain ⟨u1, e1⟩ := HS.out.cells 1 (by omega)
        obtain ⟨u2, e2⟩ := HS.out.cells 2 (by omega)
        obtain ⟨u3, e3⟩ := HS.out.cells 3 (by omega)
        have f0 := HS.out.free 0
        have f1 := HS.out.free 1
        have f2 := HS.out.free 2
        have f3 := HS.out.free 3
        go_wp2_with fail
        refine bodyPost_ret (v := .agg #[.int .u32 tv, .slice A ti.length c, .slice B tz.length d, .int .u32 tl]) (by simp [results, Tryd.results17, go_sem, e0, e1, e2, e3]) rfl ?_
        have hT : TxAt wr (w.heap.size + 2) wr.heap.size (.slice A ti.length c) (.slice B tz.length d) ⟨tv, ti, tz, tl⟩ := ⟨HS.out.ins.fin, HS.out.outs.wide HS.out.le3 HS.out.le2⟩
        exact ⟨_, _, rfl, ((hT.put4 (g := w.heap.size + 1) (.inl (by omega)) (.int .u32 tv) (.slice A ti.length c) (.slice B tz.length d) (.int .u32 tl)).wide (by omega) (Nat.le_of_eq (put4_size _ _ _ _ _ _).symm)), put4_below HS.out.bel (by omega) _ _ _ _⟩

end Go.Proofs.YtjclklppnkoehaaDoor

namespace Go.Proofs.YtjclklppnkoehaaDoor
open Go.RowKit
set_option maxRecDepth 100000

/-- A row of n inputs has room for c. -/
def Sized (w : World) (A : Option Addr) (n c : Nat) : Prop := n = 0 ∨ ∃ g cur, A = some ⟨g, 0, none⟩ ∧ w.heap[g]? = some (.cells cur 46 (0, 0)) ∧ cur.size = c * 4 ∧ c ≤ maxLen
theorem Sized.of_own {w : World} {base n : Nat} {v : Value} {xs : List Value} (h : w.ownsRow base 46 4 v n xs) {A : Option Addr} {c : Nat} (hv : v = .slice A n c) : Sized w A n c := by
  rcases h.2 with ⟨_, h0⟩ | ⟨g, cap, cur, rfl, hb, hg, hn, hm, hs, ht⟩
  · exact .inl h0
  · injection hv with e1 _ e3
    subst e1 e3
    exact .inr ⟨g, cur, rfl, hg, hs, hm⟩
theorem lt_of_block {w : World} {g : Nat} {o : Obj} (h : w.heap[g]? = some o) : g < w.heap.size := by
  rcases Nat.lt_or_ge g w.heap.size with hlt | hge
  · exact hlt
  · rw [Array.getElem?_eq_none hge] at h; cases h
theorem Sized.below {w w' : World} {A : Option Addr} {n c : Nat} (h : Sized w A n c) (hb : Below w.heap.size w w') : Sized w' A n c := by
  rcases h with h | ⟨g, cur, rfl, hg, hs⟩
  · exact .inl h
  · exact .inr ⟨g, cur, rfl, (hb.block g (lt_of_block hg)).trans hg, hs⟩
theorem Sized.set' {w : World} {A : Option Addr} {n c : Nat} (h : Sized w A n c) {g o : Nat} (u : Value) : Sized (w.setCell ⟨g, o, none⟩ u) A n c := by
  rcases h with h | ⟨g', cur, rfl, hg, hs, hc⟩
  · exact .inl h
  · by_cases e : g' = g
    · subst e
      exact .inr ⟨g', cur.setIfInBounds o u, rfl, by simp [World.setCell, Array.getElem?_modify, hg], by simpa using hs, hc⟩
    · exact .inr ⟨g', cur, rfl, (Below.heap_setCell w ⟨g, o, none⟩ u g' e).trans hg, hs, hc⟩
theorem Sized.block {w w' : World} {A : Option Addr} {n c : Nat} (h : Sized w A n c) (hk : ∀ g, A = some ⟨g, 0, none⟩ → n ≠ 0 → w'.heap[g]? = w.heap[g]?) : Sized w' A n c := by
  by_cases h0 : n = 0
  · exact .inl h0
  · rcases h with h | ⟨g, cur, rfl, hg, hs⟩
    · exact .inl h
    · exact .inr ⟨g, cur, rfl, (hk g rfl h0).trans hg, hs⟩
theorem put4_block' {w : World} {g k : Nat} (v0 v1 v2 v3 : Value) (h : k ≠ g) : (put4 w g v0 v1 v2 v3).heap[k]? = w.heap[k]? :=
  (((Below.heap_setCell _ _ _ _ h).trans (Below.heap_setCell _ _ _ _ h)).trans (Below.heap_setCell _ _ _ _ h)).trans (Below.heap_setCell _ _ _ _ h)

/-- A row of inputs of the call's own, with room for c, the texts behind it. -/
def CopyRow (w : World) (lo : Nat) (A : Option Addr) (c : Nat) (xs : List InD) : Prop :=
  xs.length ≤ c ∧ (xs = [] ∨ ∃ g cur, A = some ⟨g, 0, none⟩ ∧ lo ≤ g ∧ g < w.heap.size ∧ w.heap[g]? = some (.cells cur 46 (0, 0)) ∧ cur.size = c * 4 ∧ c ≤ maxLen ∧ ∀ (j : Nat) (x : InD), xs[j]? = some x → InAt w (g + 1) w.heap.size g (j * 4) x)
theorem CopyIns.low {w : World} {lo hi lo2 : Nat} {A : Option Addr} {c : Nat} {xs : List InD} {k : Nat} (h : CopyIns lo hi lo2 A c xs k w) (g : Nat) (hA : A = some ⟨g, 0, none⟩) (hn : xs.length ≠ 0) : lo2 ≤ g := by
  rcases h.2 with rfl | ⟨g', cur, hA', h1, _⟩
  · simp at hn
  · rw [hA] at hA'; injection hA' with hA'; injection hA' with e; omega
theorem CopyIns.own {w : World} {lo hi lo2 : Nat} {A : Option Addr} {c : Nat} {xs : List InD} (h : CopyIns lo hi lo2 A c xs xs.length w) (hs : Sized w A xs.length c) : CopyRow w lo2 A c xs := by
  obtain ⟨hc, h⟩ := h
  refine ⟨hc, ?_⟩
  rcases h with h | ⟨g, cur, rfl, h1, h2, hg, h⟩
  · exact .inl h
  · rcases hs with h0 | ⟨g', cur', hA, hg', hs, hm⟩
    · exact .inl (List.eq_nil_of_length_eq_zero h0)
    · injection hA with hA
      injection hA with e
      subst e
      refine .inr ⟨g, cur', rfl, h1, h2, hg', hs, hm, fun j x hx => ?_⟩
      obtain ⟨c0, c1, c2, u, c3, s1, _⟩ := h j x hx
      exact ⟨c0, c1, c2, u, c3, s1 (List.getElem?_eq_some_iff.1 hx).1⟩

/-- What Copy gives. -/
def CopyOut (w : World) (t : TxD) (A B : Option Addr) (c d : Nat) (w' : World) : Prop :=
  CopyRow w' (w.heap.size + 2) A c t.ins ∧ ∃ lo3, Outs w' lo3 w'.heap.size (.slice B t.outs.length d) t.outs ∧ (t.ins ≠ [] → ∀ a, A = some a → a.block < lo3) ∧ w.heap.size ≤ lo3 ∧ Below w.heap.size w w'

set_option maxHeartbeats 1000000 in
theorem clone_in_own (A : Option Addr) (n c : Nat) (w : World) (hn : n ≤ 512) (hA : n = 0 ∨ ∃ b off, A = some ⟨b, off, none⟩ ∧ ∀ j, j < n * 4 → ∃ u, w.cell? ⟨b, off + j, none⟩ = some u ∧ u.oneCell' = true) :
    Calls Tryd.prog 39 #[.slice A n c] w fun e w' => ∃ v', e = .returned v' ∧ Cloned w A n 4 46 v' w' ∧ Below w.heap.size w w' ∧ ∀ A' c', v' = .slice A' n c' → Sized w' A' n c' := by
  obtain ⟨i0, hi, hz0, hz1, hz2⟩ := info_parts info43
  have q22 : ∀ (w : World) (a : Option Addr) (n c n' c' : Nat), (binOp .eql 32 (.slice a n c) (.slice none n' c')).run Tryd.prog w = .ok (.bool a.isNone) w := fun w a n c n' c' => Lib.run_eql_slice_nil w _ _ a n c n' c' Tryd.underlying32
  have HA := Lib.hid hA
  clear hA
  rcases A with _ | ⟨b, off, sub⟩
  · have h0 : n = 0 := by
      rcases HA.out with h | ⟨b, off, h, _⟩
      · exact h
      · cases h
    have H0 := Lib.hid h0
    clear h0
    go_enter Tryd.func39, Tryd.ntmps39
    go_wp2
    go_ret
    exact ⟨_, rfl, .inl ⟨H0.out, none, 0, rfl⟩, Below.refl _ _, fun _ _ _ => .inl H0.out⟩
  · rcases Nat.eq_zero_or_pos n with h0 | h0
    · subst h0
      go_enter Tryd.func39, Tryd.ntmps39
      go_wp2_with (at_builtin; refine wpList_append_own _ rfl _ _ 32 rfl w.heap.size 46 i0 _ 4 56 Tryd.underlying32 hi hz0 hz1 hz2 rfl (by decide) _ _ _ rfl (World.ownsRow_made w #[] 0 (Nat.le_refl _) (Nat.zero_le _) (by simp)) ⟨b, off, sub⟩ 0 c [] rfl rfl (by intro j u hj; simp at hj) (by intro u hu; simp at hu) (by unfold maxLen; omega) (by omega) (by simp) ?_; intro v' w1 hown hgrow hnil)
      go_ret
      refine ⟨v', rfl, .inl ⟨rfl, ?_⟩, ((Below.refl _ w).alloc (Nat.le_refl _) _).grown hgrow (by simp) (fun k hk => by have h2 : some w.heap.size = some k := hk; injection h2 with h2; omega), fun _ _ _ => .inl rfl⟩
      rcases hown.2 with ⟨rfl, _⟩ | ⟨g, cap, cur, rfl, _⟩
      · exact ⟨none, 0, rfl⟩
      · exact ⟨_, cap, rfl⟩
    · obtain ⟨b', off', hA', hcell⟩ : ∃ b' off', (some (⟨b, off, sub⟩ : Addr)) = some ⟨b', off', none⟩ ∧ ∀ j, j < n * 4 → ∃ u, w.cell? ⟨b', off' + j, none⟩ = some u ∧ u.oneCell' = true := by
        rcases HA.out with h | h
        · omega
        · exact h
      injection hA' with hA'
      injection hA' with e1 e2 e3
      subst e1 e2 e3
      have HC := Lib.hid hcell
      clear hcell HA
      go_enter Tryd.func39, Tryd.ntmps39
      go_wp2_with (at_builtin; refine wpList_append_own _ rfl _ _ 32 rfl w.heap.size 46 i0 _ 4 56 Tryd.underlying32 hi hz0 hz1 hz2 rfl (by decide) _ _ _ rfl (World.ownsRow_made w #[] 0 (Nat.le_refl _) (Nat.zero_le _) (by simp)) ⟨b, off, none⟩ n c (cellsAt w b off (n * 4)) rfl (by simp [cellsAt]) (cellsAt_cell HC.out _) (cellsAt_one HC.out) (by unfold maxLen; omega) (by omega) (by simp) ?_; intro v' w1 hown hgrow hnil)
      go_ret
      refine ⟨v', rfl, Cloned.of_own (by simpa using hown) (fun j hj => by obtain ⟨u, hu, _⟩ := HC.out j hj; exact ⟨u, hu⟩), ((Below.refl _ w).alloc (Nat.le_refl _) _).grown hgrow (by simp) (fun k hk => by have h2 : some w.heap.size = some k := hk; injection h2 with h2; omega), fun A' c' hv => Sized.of_own (by simpa using hown) hv⟩

set_option maxHeartbeats 1000000 in
theorem copy_own (t : TxD) (vi vo : Value) (w : World) (lo hi : Nat) (ht : TxAt w lo hi vi vo t) (hhi : hi ≤ w.heap.size) (hok : t.Ok) :
    Calls Tryd.prog 17 #[.agg #[.int .u32 t.ver, vi, vo, .int .u32 t.lock]] w fun e w' => ∃ A c B d, e = .returned (.agg #[.int .u32 t.ver, .slice A t.ins.length c, .slice B t.outs.length d, .int .u32 t.lock]) ∧ CopyOut w t A B c d w' := by
  obtain ⟨tv, ti, tz, tl⟩ := t
  obtain ⟨A1, m1, rfl⟩ := ht.1.form
  obtain ⟨A2, m2, rfl⟩ := ht.2.form
  have HT := Lib.hid ht
  have HO := Lib.hid hok
  simp only
  clear ht hok
  have B0 := Lib.hid (fun o o' => ((Below.refl w.heap.size w).alloc (Nat.le_refl _) o).alloc (by simp) o')
  have hc37 : ∀ W, Below w.heap.size w W → Calls Tryd.prog 39 #[.slice A1 ti.length m1] W fun e wa => ∃ Aa ma, e = .returned (.slice Aa ti.length ma) ∧ Cloned W A1 ti.length 4 46 (.slice Aa ti.length ma) wa ∧ Below W.heap.size W wa ∧ Sized wa Aa ti.length ma := fun W hW =>
    (clone_in_own A1 _ m1 W HO.out.1 ((HT.out.1.keep (Kept.of_below hW hhi)).source)).mono fun e wa ⟨v, he, h1, h2, h3⟩ => by obtain ⟨Aa, ma, rfl⟩ := h1.form; exact ⟨Aa, ma, he, h1, h2, h3 _ _ rfl⟩
  have hc34 : ∀ W, Below w.heap.size w W → Calls Tryd.prog 40 #[.slice A2 tz.length m2] W fun e wa => ∃ Aa ma, e = .returned (.slice Aa tz.length ma) ∧ Cloned W A2 tz.length 2 48 (.slice Aa tz.length ma) wa ∧ Below W.heap.size W wa := fun W hW =>
    (clone_out A2 _ m2 W HO.out.2.1 ((HT.out.2.keep (Kept.of_below hW hhi)).source)).mono fun e wa ⟨v, he, h1, h2⟩ => by obtain ⟨Aa, ma, rfl⟩ := h1.form; exact ⟨Aa, ma, he, h1, h2⟩
  have HC37 := Lib.hid hc37
  have HC34 := Lib.hid hc34
  clear hc37 hc34
  go_enter Tryd.func17, Tryd.ntmps17
  go_wp2_with fail
  go_cut [] (fun wx => CopyMid w tv tl ti tz lo hi wx ∧ ∃ Aa ma, wx.cell? ⟨w.heap.size, 1, none⟩ = some (.slice Aa ti.length ma) ∧ Sized wx Aa ti.length ma)
  case first =>
    go_region_with (first
      | (go_at_call 39; refine (HC37.out _ (by exact (B0.out _ _).drew)).mono ?_; rintro e wa ⟨Aa, ma, rfl, hca, hba, hsz⟩; have HSZ := Lib.hid hsz; clear hsz; have q1 := hba.cell (p := ⟨w.heap.size, 1, none⟩) (by simp; omega); have q2 := hba.cell (p := ⟨w.heap.size, 2, none⟩) (by simp; omega); have q3 := hba.frozen (p := ⟨w.heap.size, 1, none⟩) (by simp; omega); have q4 := hba.frozen (p := ⟨w.heap.size, 2, none⟩) (by simp; omega); simp at q1 q2 q3 q4)
      | (go_at_call 40; refine (HC34.out _ (by exact below_next (B0.out _ _).drew (by simp; omega) hba)).mono ?_; rintro e wb ⟨Ab, mb, rfl, hcb, hbb⟩; have hzz : w.heap.size < wa.heap.size := (by have := hba.size; simp at this; omega); have s1 := (hbb.cell (p := ⟨w.heap.size, 1, none⟩) hzz).trans q1; have s2 := (hbb.cell (p := ⟨w.heap.size, 2, none⟩) hzz).trans q2; have s3 := (hbb.frozen (p := ⟨w.heap.size, 1, none⟩) hzz).trans q3; have s4 := (hbb.frozen (p := ⟨w.heap.size, 2, none⟩) hzz).trans q4))
    all_goals go_wp2_with fail
    all_goals go_meet
    all_goals refine ⟨copy_mid HT.out.1 HT.out.2 hhi rfl hca hba hcb hbb, Aa, ma, ?_, ((HSZ.out.below hbb).set' _).set' _⟩
    all_goals rw [World.cell?_setCell_other _ _ _ _ (by simp)]; exact World.cell?_setCell_same _ _ _ s1
  case rest =>
    obtain ⟨⟨A, B, c, d, lo3, hi3, hst⟩, Aa, ma, hbc, hsz0⟩ := hcut
    rw [hst.box.2.1] at hbc
    injection hbc with hbc
    injection hbc with e1 _ e3
    subst e1 e3
    have HSZ := Lib.hid hsz0
    clear hsz0
    obtain ⟨w0, hw0⟩ : ∃ w0, w0 = w := ⟨_, rfl⟩
    obtain ⟨a0, a1, a2, a3⟩ := hst.box
    have HST := Lib.hid hst
    have hl := HO.out.1
    simp only at hl
    clear hst hw0
    go_wp2_with fail
    go_loopg [3, 15] ti.length (fun gg _ s wr => ∃ k : Nat, k ≤ ti.length ∧ ti.length - k ≤ gg ∧ s = .int .i64 k ∧ Hid (CopyState w tv tl ti tz lo hi lo3 hi3 A B c d k wr) ∧ Hid (Sized wr A ti.length c))
    case atStart => exact ⟨0, Nat.zero_le _, by omega, rfl, HST.out, HSZ⟩
    case round =>
      clear HSZ
      obtain ⟨k, hk, hg, rfl, HS, HSZ⟩ := hrel
      clear a0 a1 a2 a3
      obtain ⟨a0, a1, a2, a3⟩ := HS.out.box
      have hz := HS.out.le1
      by_cases hlt : k < ti.length
      · have hltz : (k : Int) < (ti.length : Int) := by omega
        have hd : decide (k < ti.length) = true := decide_eq_true hlt
        obtain ⟨x, hxk⟩ : ∃ x, ti[k]? = some x := ⟨_, List.getElem?_eq_getElem hlt⟩
        obtain ⟨g, Bx, nx, rfl, hg1, hg2, hc3, hsx, hfz⟩ := HS.out.ins.at hxk
        have hf3 := hfz (k * 4 + 3)
        have hwl := (HO.out.2.2.1 x (List.mem_of_getElem? hxk)).2.2.2.2.2.1
        have HSX := Lib.hid hsx
        have HXK := Lib.hid hxk
        clear hsx hxk hfz
        go_wp2_with fail
        go_region_with (first
          | (go_at_call 41; refine (clone_str Bx _ nx _ (by omega) (Strs.source (by exact HSX.out))).mono ?_; rintro e w1 ⟨vw, rfl, hcl, hb1⟩; obtain ⟨Aw, mw, rfl⟩ := hcl.form; have p1 := hb1.cell (p := ⟨g, k * 4 + 3, none⟩) (by simp; omega); have p2 := hb1.frozen (p := ⟨g, k * 4 + 3, none⟩) (by simp; omega); have p3 := hb1.cell (p := ⟨w.heap.size, 1, none⟩) (by simp; omega); simp [hc3, hf3, a1] at p1 p2 p3))
        all_goals go_wp2_with fail
        all_goals go_roundg (ti.length - (k + 1))
        all_goals first | omega | exact ⟨k + 1, by omega, by omega, by go_num, CopyState.step HS.out hhi HXK.out hg1 hg2 ⟨hb1.os, hb1.tape, hb1.output, hb1.size, hb1.block⟩ (hcl.strs (by exact HSX.out)), (show Hid _ from (HSZ.out.below ⟨hb1.os, hb1.tape, hb1.output, hb1.size, hb1.block⟩).set' _)⟩
      · have hltz : ¬ (k : Int) < (ti.length : Int) := by omega
        obtain rfl : k = ti.length := by omega
        obtain ⟨u0, e0⟩ := HS.out.cells 0 (by omega)
        obtain ⟨u1, e1⟩ := HS.out.cells 1 (by omega)
        obtain ⟨u2, e2⟩ := HS.out.cells 2 (by omega)
        obtain ⟨u3, e3⟩ := HS.out.cells 3 (by omega)
        have f0 := HS.out.free 0
        have f1 := HS.out.free 1
        have f2 := HS.out.free 2
        have f3 := HS.out.free 3
        go_wp2_with fail
        refine bodyPost_ret (v := .agg #[.int .u32 tv, .slice A ti.length c, .slice B tz.length d, .int .u32 tl]) (by simp [results, Tryd.results17, go_sem, e0, e1, e2, e3]) rfl ?_
        have kp : Kept (w.heap.size + 2) wr.heap.size wr (put4 wr (w.heap.size + 1) (.int .u32 tv) (.slice A ti.length c) (.slice B tz.length d) (.int .u32 tl)) := fun b h1 _ => put4_block' _ _ _ _ (by omega)
        have zp := put4_size wr (w.heap.size + 1) (.int .u32 tv) (.slice A ti.length c) (.slice B tz.length d) (.int .u32 tl)
        have hsz := HSZ.out
        exact ⟨A, c, B, d, rfl, (HS.out.ins.keep kp (fun b _ h2 => put4_block' _ _ _ _ (by omega)) (Nat.le_of_eq zp.symm)).own (hsz.block (fun g h1 h2 => put4_block' _ _ _ _ (by have := HS.out.ins.low g h1 h2; omega))), lo3, (HS.out.outs.keep (kp.mono HS.out.le3 HS.out.le2)).wide (Nat.le_refl _) (Nat.le_trans HS.out.le2 (Nat.le_of_eq zp.symm)), HS.out.under, by have := HS.out.le3; omega, put4_below HS.out.bel (by omega) _ _ _ _⟩

end Go.Proofs.YtjclklppnkoehaaDoor
