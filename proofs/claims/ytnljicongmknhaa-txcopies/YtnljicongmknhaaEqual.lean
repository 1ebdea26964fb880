/-
  Are two transactions the same: the closure over inputs, slices.EqualFunc, tx.Equal.
-/
import Derived.Test.YtnljicongmknhaaEq
namespace Go.Proofs.Ytnljicongmknhaa
open Go.RowKit

theorem inB_pt {x y : InD} (h : ptB x.id x.ix y.id y.ix = false) : inB x y = false := by simp [inB, h]
theorem inB_sq {x y : InD} (h : ptB x.id x.ix y.id y.ix = true) (h2 : (x.sq == y.sq) = false) : inB x y = false := by simp [inB, h, h2]
theorem inB_wit {x y : InD} (h : ptB x.id x.ix y.id y.ix = true) (h2 : (x.sq == y.sq) = true) : inB x y = strsB x.wit y.wit := by simp [inB, h, h2]

set_option maxHeartbeats 1000000 in
theorem same_in (x y : InD) (A A' : Option Addr) (n n' c c' : Nat) (w : World) (lo hi lo' hi' : Nat)
    (hx : Strs w lo hi (.slice A n c) x.wit) (hy : Strs w lo' hi' (.slice A' n' c') y.wit) (hhi : hi ≤ w.heap.size) (hhi' : hi' ≤ w.heap.size) (hl : x.wit.length ≤ 512) :
    Calls Try.prog 39 #[.agg #[.string x.id, .int .u32 x.ix, .int .u32 x.sq, .slice A n c], .agg #[.string y.id, .int .u32 y.ix, .int .u32 y.sq, .slice A' n' c']] w fun e w' => e = .returned (.bool (inB x y)) ∧ Below w.heap.size w w' := by
  have heq := run_eql_pt
  have hgd := pt_guard
  obtain ⟨xi, xx, xq, xw⟩ := x
  obtain ⟨yi, yx, yq, yw⟩ := y
  simp only at hx hy hl ⊢
  have HX := Lib.hid hx
  have HY := Lib.hid hy
  clear hx hy
  cases h1 : ptB xi xx yi yx
  · have E := Lib.hid (inB_pt (x := ⟨xi, xx, xq, xw⟩) (y := ⟨yi, yx, yq, yw⟩) h1)
    go_enter Try.func39, Try.ntmps39
    go_wp2
    go_ret
    exact ⟨ret_bool E.out.symm, ((Below.refl _ _).alloc (Nat.le_refl _) _).alloc (by simp) _⟩
  · cases h2 : xq == yq
    · have E := Lib.hid (inB_sq (x := ⟨xi, xx, xq, xw⟩) (y := ⟨yi, yx, yq, yw⟩) h1 h2)
      go_enter Try.func39, Try.ntmps39
      go_wp2
      go_ret
      exact ⟨ret_bool E.out.symm, ((Below.refl _ _).alloc (Nat.le_refl _) _).alloc (by simp) _⟩
    · have E := Lib.hid (inB_wit (x := ⟨xi, xx, xq, xw⟩) (y := ⟨yi, yx, yq, yw⟩) h1 h2)
      have b0 : ∀ o o', Below w.heap.size w ((w.alloc o).alloc o') := fun o o' => ((Below.refl _ _).alloc (Nat.le_refl _) o).alloc (by simp) o'
      have B0 := Lib.hid b0
      clear b0
      go_enter Try.func39, Try.ntmps39
      go_wp2_with fail
      refine (eq_strs A A' n n' c c' xw yw _ lo hi lo' hi' (HX.out.keep (Kept.of_below (B0.out _ _) hhi)) (HY.out.keep (Kept.of_below (B0.out _ _) hhi')) (by simp; omega) (by simp; omega) hl).mono ?_
      rintro e w' ⟨rfl, hb'⟩
      go_wp2
      go_ret
      exact ⟨ret_bool E.out.symm, below_next (B0.out _ _) (by simp; omega) hb'⟩

set_option maxHeartbeats 1000000 in
theorem eq_ins (A A' : Option Addr) (n n' c c' : Nat) (xs ys : List InD) (w : World) (lo hi lo' hi' : Nat)
    (hx : Ins w lo hi (.slice A n c) xs) (hy : Ins w lo' hi' (.slice A' n' c') ys) (hhi : hi ≤ w.heap.size) (hhi' : hi' ≤ w.heap.size) (hl : xs.length ≤ 512) (hok : ∀ x ∈ xs, x.Ok) :
    Calls Try.prog 41 #[.slice A n c, .slice A' n' c', .func (.func 39) #[] #[]] w fun e w' => e = .returned (.bool (allB inB xs ys)) ∧ Below w.heap.size w w' := by
  obtain rfl : n = xs.length := by obtain ⟨_, _, hv, _⟩ := hx; injection hv
  obtain rfl : n' = ys.length := by obtain ⟨_, _, hv, _⟩ := hy; injection hv
  have HX := Lib.hid hx
  have HY := Lib.hid hy
  have HO := Lib.hid hok
  clear hx hy hok
  by_cases hlen : xs.length = ys.length
  · have e1 : ((xs.length : Int) != (ys.length : Int)) = false := by rw [bne_eq_false_iff_eq]; omega
    have HL := Lib.hid hlen
    clear hlen
    go_enter Try.func41, Try.ntmps41
    go_wp2
    go_loopg [7, 8, 9, 17] xs.length (fun gg _ _ _ s wr => EqHead inB xs ys w gg s wr)
    case atStart => exact ⟨0, Nat.zero_le _, by omega, rfl, Below.refl _ w, SoFar.zero _ _ _⟩
    case round =>
      obtain ⟨kk, hkk, hg, rfl, BW, A0⟩ := hrel
      have hsz := BW.size
      have BW := Lib.hid BW
      have A0 := Lib.hid A0
      by_cases hlt : kk < xs.length
      · have hltz : (kk : Int) < (xs.length : Int) := by omega
        have hlty : (kk : Int) < (ys.length : Int) := by have := HL.out; omega
        obtain ⟨x, hxk⟩ : ∃ x, xs[kk]? = some x := ⟨_, List.getElem?_eq_getElem hlt⟩
        obtain ⟨y, hyk⟩ : ∃ y, ys[kk]? = some y := ⟨_, List.getElem?_eq_getElem (by omega)⟩
        obtain ⟨b, off, rfl, h1, h2, c0, c1, c2, v, c3, hs⟩ := (HX.out.keep (Kept.of_below BW.out hhi)).at hxk
        obtain ⟨b', off', rfl, h1', h2', d0, d1, d2, u, d3, ht⟩ := (HY.out.keep (Kept.of_below BW.out hhi')).at hyk
        have hbx : b < wr.heap.size := by omega
        have hby : b' < wr.heap.size := by omega
        have hw := (HO.out x (List.mem_of_getElem? hxk)).2.2.2.2.2.1
        have HS := Lib.hid hs
        have HT := Lib.hid ht
        obtain ⟨A1, m1, rfl, _, _⟩ := hs
        obtain ⟨A2, m2, rfl, _, _⟩ := ht
        have HXK := Lib.hid hxk
        have HYK := Lib.hid hyk
        clear hxk hyk
        have b0 : ∀ o o', Below wr.heap.size wr ((wr.alloc o).alloc o') := fun o o' => ((Below.refl _ _).alloc (Nat.le_refl _) o).alloc (by simp) o'
        have B0 := Lib.hid b0
        clear b0
        go_wp2_with fail
        refine (same_in x y A1 A2 _ _ m1 m2 _ lo hi lo' hi' (HS.out.keep (Kept.of_below (B0.out _ _) (by omega))) (HT.out.keep (Kept.of_below (B0.out _ _) (by omega))) (by simp; omega) (by simp; omega) (by omega)).mono ?_
        rintro e w' ⟨rfl, hb'⟩
        have hb2 := Lib.hid (below_next (BW.out) hsz (below_next (B0.out _ _) (by simp; omega) hb'))
        clear hb'
        cases hq : inB x y
        · go_wp2_with fail
          go_ret
          exact ⟨ret_bool (allB_miss HXK.out HYK.out hq).symm, hb2.out⟩
        · go_wp2_with fail
          go_roundg (xs.length - (kk + 1))
          case measure => omega
          case rel => exact ⟨kk + 1, by omega, by omega, by go_num, hb2.out, A0.out.step HXK.out HYK.out hq⟩
      · have hltz : ¬ (kk : Int) < (xs.length : Int) := by omega
        go_wp2
        go_ret
        exact ⟨ret_bool (A0.out.full (by omega) HL.out).symm, BW.out⟩
  · have e1 : ((xs.length : Int) != (ys.length : Int)) = true := by rw [bne_iff_ne]; omega
    have HL := Lib.hid hlen
    clear hlen
    go_enter Try.func41, Try.ntmps41
    go_wp2
    go_ret
    exact ⟨ret_bool (allB_len HL.out).symm, Below.refl _ _⟩

theorem Ins.form {w : World} {lo hi : Nat} {v : Value} {xs : List InD} (h : Ins w lo hi v xs) : ∃ A c, v = .slice A xs.length c := by obtain ⟨A, c, h, _⟩ := h; exact ⟨A, c, h⟩
theorem Outs.form {w : World} {lo hi : Nat} {v : Value} {xs : List OutD} (h : Outs w lo hi v xs) : ∃ A c, v = .slice A xs.length c := by obtain ⟨A, c, h, _⟩ := h; exact ⟨A, c, h⟩
theorem Strs.form {w : World} {lo hi : Nat} {v : Value} {xs : List ByteArray} (h : Strs w lo hi v xs) : ∃ A c, v = .slice A xs.length c := by obtain ⟨A, c, h, _⟩ := h; exact ⟨A, c, h⟩

theorem txB_ver {t u : TxD} (h : (t.ver == u.ver) = false) : txB t u = false := by simp [txB, h]
theorem txB_lock {t u : TxD} (h : (t.lock == u.lock) = false) : txB t u = false := by simp [txB, h]
theorem txB_ins {t u : TxD} (h : allB inB t.ins u.ins = false) : txB t u = false := by simp [txB, h]
theorem txB_outs {t u : TxD} (h1 : (t.ver == u.ver) = true) (h2 : (t.lock == u.lock) = true) (h3 : allB inB t.ins u.ins = true) : txB t u = allB outB t.outs u.outs := by simp [txB, h1, h2, h3]

set_option maxHeartbeats 1000000 in
theorem equal_any (t u : TxD) (vi vo ui uo : Value) (w : World) (lo hi lo' hi' : Nat) (ht : TxAt w lo hi vi vo t) (hu : TxAt w lo' hi' ui uo u) (hhi : hi ≤ w.heap.size) (hhi' : hi' ≤ w.heap.size) (hok : t.Ok) :
    Calls Try.prog 25 #[.agg #[.int .u32 t.ver, vi, vo, .int .u32 t.lock], .agg #[.int .u32 u.ver, ui, uo, .int .u32 u.lock]] w fun e w' => e = .returned (.bool (txB t u)) ∧ Below w.heap.size w w' := by
  obtain ⟨tv, ti, to, tl⟩ := t
  obtain ⟨uv, us, uu, ul⟩ := u
  have HT := Lib.hid ht
  have HU := Lib.hid hu
  have HO := Lib.hid hok
  obtain ⟨h1, h2⟩ := ht
  obtain ⟨h3, h4⟩ := hu
  obtain ⟨A1, m1, rfl⟩ := h1.form
  obtain ⟨A2, m2, rfl⟩ := h2.form
  obtain ⟨A3, m3, rfl⟩ := h3.form
  obtain ⟨A4, m4, rfl⟩ := h4.form
  clear h1 h2 h3 h4 hok
  simp only
  cases e1 : tv == uv
  · have E := Lib.hid (txB_ver (t := ⟨tv, ti, to, tl⟩) (u := ⟨uv, us, uu, ul⟩) e1)
    go_enter Try.func25, Try.ntmps25
    go_wp2
    go_ret
    exact ⟨ret_bool E.out.symm, ((Below.refl _ _).alloc (Nat.le_refl _) _).alloc (by simp) _⟩
  · cases e2 : tl == ul
    · have E := Lib.hid (txB_lock (t := ⟨tv, ti, to, tl⟩) (u := ⟨uv, us, uu, ul⟩) e2)
      go_enter Try.func25, Try.ntmps25
      go_wp2
      go_ret
      exact ⟨ret_bool E.out.symm, ((Below.refl _ _).alloc (Nat.le_refl _) _).alloc (by simp) _⟩
    · have b0 : ∀ o o', Below w.heap.size w ((w.alloc o).alloc o') := fun o o' => ((Below.refl _ _).alloc (Nat.le_refl _) o).alloc (by simp) o'
      have B0 := Lib.hid b0
      clear b0
      have F := Lib.hid (fun h3 => txB_outs (t := ⟨tv, ti, to, tl⟩) (u := ⟨uv, us, uu, ul⟩) e1 e2 h3)
      go_enter Try.func25, Try.ntmps25
      go_wp2_with fail
      refine (eq_ins A1 A3 _ _ m1 m3 ti us _ lo hi lo' hi' (HT.out.1.keep (Kept.of_below (B0.out _ _) hhi)) (HU.out.1.keep (Kept.of_below (B0.out _ _) hhi')) (by simp; omega) (by simp; omega) HO.out.1 HO.out.2.2.1).mono ?_
      rintro e w' ⟨rfl, hb'⟩
      have hz : w.heap.size + 2 ≤ w'.heap.size := by have := hb'.size; simp at this; omega
      have f0 := hb'.cell (p := ⟨w.heap.size, 2, none⟩) (by simp; omega)
      have f1 := hb'.cell (p := ⟨w.heap.size + 1, 2, none⟩) (by simp)
      simp at f0 f1
      have hb2 := Lib.hid (below_next (B0.out _ _) (by simp; omega) hb')
      clear hb'
      cases e3 : allB inB ti us
      · have E := Lib.hid (txB_ins (t := ⟨tv, ti, to, tl⟩) (u := ⟨uv, us, uu, ul⟩) e3)
        go_wp2_with fail
        go_ret
        exact ⟨ret_bool E.out.symm, hb2.out⟩
      · go_wp2_with fail
        refine (eq_outs A2 A4 _ _ m2 m4 to uu _ lo hi lo' hi' (HT.out.2.keep (Kept.of_below hb2.out hhi)) (HU.out.2.keep (Kept.of_below hb2.out hhi')) (by omega) (by omega) HO.out.2.1).mono ?_
        rintro e w2 ⟨rfl, hb3⟩
        go_wp2_with fail
        go_ret
        exact ⟨ret_bool (F.out e3).symm, below_next hb2.out (by omega) hb3⟩

end Go.Proofs.Ytnljicongmknhaa
