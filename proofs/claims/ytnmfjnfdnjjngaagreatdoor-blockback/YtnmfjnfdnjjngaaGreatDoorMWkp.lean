/-
  A grant's error; a transaction's coins taken out; its Outs put in: the program's grantError, spend and pay.
-/
import Derived.Test.YtnmfjnfdnjjngaaGreatDoorMWks
import Derived.Test.YtnmfjnfdnjjngaaGreatDoorMIdc
import Derived.Test.YtnmfjnfdnjjngaaGreatDoorMPla
import Derived.Test.YtnmfjnfdnjjngaaGreatDoorMTell
import Derived.StillTailTactics
import Derived.BigQuiet
namespace Go.Proofs.YtnmfjnfdnjjngaaGreatDoor
open Go.RowKit
set_option maxRecDepth 100000

/-- What the package-level variables hold. -/
structure Dr (w : World) : Prop where
  err : ErrDoor w
  tab : Sh.Tabs w
theorem Dr.lt {w : World} (h : Dr w) : 3 ≤ w.heap.size := h.tab.2.lt
theorem Dr.tn {s : List Nat} {w w' : World} (h : Dr w) (k : Tn s w w') (hs : ∀ i ∈ s, 3 ≤ i) : Dr w' := by
  have h3 := h.lt
  have n : ∀ i, i < 3 → i ∉ s := fun i hi hm => by have := hs i hm; omega
  refine ⟨(k.cell (b := 0) (o := 0) (by omega) (n 0 (by omega))).trans h.err, ?_, ?_⟩
  · obtain ⟨t, fr, hh⟩ := h.tab.1
    exact ⟨t, fr, (k.block 1 (by omega) (n 1 (by omega))).trans hh⟩
  · obtain ⟨t, fr, hh⟩ := h.tab.2
    exact ⟨t, fr, (k.block 2 (by omega) (n 2 (by omega))).trans hh⟩
theorem Dr.below {w w' : World} (h : Dr w) (hb : Below w.heap.size w w') : Dr w' := h.tn (Tn.of_below (s := []) hb) (by simp)

theorem ret_i64 {a b : Int} (h : a = b) : Ending.returned (.int .i64 a) = .returned (.int .i64 b) := by rw [h]

set_option maxHeartbeats 1000000 in
theorem granterr_any (g : Nat) (t : TxD) (first : Bool) (h : Int) (vi vo : Value) (w : World) (hc : w.cell? ⟨g, 1, none⟩ = some (.int .i64 h)) (ht : TxAt w 0 w.heap.size vi vo t) (hok : t.Ok) :
    Calls Tryz.prog 57 #[.pointer (some ⟨g, 0, none⟩), .agg #[.int .u32 t.ver, vi, vo, .int .u32 t.lock], .bool first] w
      fun e w' => e = .returned (.int .i64 (grE t first h)) ∧ Below w.heap.size w w' := by
  have lg := Co.lt_of_cell hc
  obtain ⟨A1, m1, rfl⟩ := ht.1.form
  obtain ⟨A2, m2, rfl⟩ := ht.2.form
  obtain ⟨w0, hw0⟩ : ∃ w0, w0 = w.alloc (.cells #[.int .u32 t.ver, .slice A1 t.ins.length m1, .slice A2 t.outs.length m2, .int .u32 t.lock] 51) := ⟨_, rfl⟩
  have z0 : w0.heap.size = w.heap.size + 1 := by rw [hw0]; simp
  have hb0 : Below w.heap.size w w0 := by rw [hw0]; exact (Below.refl _ _).alloc (Nat.le_refl _) _
  have BX := Lib.hid (show Boxed w0 w.heap.size (.int .u32 t.ver) (.slice A1 t.ins.length m1) (.slice A2 t.outs.length m2) (.int .u32 t.lock) from by rw [hw0]; exact Boxed.new _ _ _ _ _ _)
  have CK := Lib.hid (check_any t _ _ w0 0 w.heap.size (ht.keep (Kept.of_below hb0 (Nat.le_refl _))) (by omega) hok)
  have HW0 := Lib.hid hw0
  have B0 := Lib.hid hb0
  have Z0 := Lib.hid z0
  have c0 := (hb0.cell (p := ⟨g, 1, none⟩) lg).trans hc
  have C0 := Lib.hid c0
  have hl1 : t.lock ≤ 4294967295 := hok.2.2.2.2.2.2.2
  have hl0 : 0 ≤ t.lock := hok.2.2.2.2.2.2.1
  have wl : IntKind.i64.wrap t.lock = t.lock := IntWalk.i64_in _ (by omega)
  have G1 := Lib.hid (gr_check (t := t) (first := first) (h := h))
  have G2 := Lib.hid (gr_form (t := t) (first := first) (h := h))
  have G3 := Lib.hid (gr_ok (t := t) (first := first) (h := h))
  have hbl : w.heap.size < w0.heap.size := by omega
  have hgl : g < w0.heap.size := by omega
  generalize t.ins.length = n1 at *
  generalize t.outs.length = n2 at *
  generalize checkD t = ck at *
  generalize t.lock = lk at *
  generalize t.ver = vr at *
  clear ht hok hc hw0 hb0 c0 z0
  obtain ⟨b0, b1, b2, b3⟩ := BX.out
  go_enter Tryz.func57, Tryz.ntmps57
  go_upto_region 1 with (fail)
  rw [show World.alloc w _ = w0 from HW0.out.symm]
  go_wp2_with fail
  refine CK.out.mono ?_
  rintro e w1 ⟨rfl, hb1⟩
  have B1 := Lib.hid (below_next B0.out (by have := Z0.out; omega) hb1)
  have c1 := (hb1.cell (p := ⟨g, 1, none⟩) hgl).trans C0.out
  have BX1 := Lib.hid (BX.out.below hbl hb1)
  clear b0 b1 b2 b3 hb1
  obtain ⟨b0, b1, b2, b3⟩ := BX1.out
  by_cases hk : ck = 0
  · subst hk
    cases first with
    | false =>
      have E := Lib.hid (G2.out rfl rfl)
      go_wp2_with fail
      go_quiet (fail)
      go_wp2_with fail
      go_ret
      exact ⟨ret_i64 E.out.symm, below_drewN B1.out _⟩
    | true =>
      by_cases hh : lk = h
      · have e1 : (lk != h) = false := by simp [hh]
        have E := Lib.hid (G3.out rfl (by simp [hh]))
        clear hh
        go_wp2_with fail
        go_quiet (fail)
        go_wp2_with fail
        go_ret
        exact ⟨ret_i64 E.out.symm, below_drewN B1.out _⟩
      · have e1 : (lk != h) = true := by simp [hh]
        have E := Lib.hid (G2.out rfl (by simp [hh]))
        clear hh
        go_wp2_with fail
        go_quiet (fail)
        go_wp2_with fail
        go_ret
        exact ⟨ret_i64 E.out.symm, below_drewN B1.out _⟩
  · have e1 : (ck != 0) = true := by simp [hk]
    have E := Lib.hid (G1.out hk)
    clear hk
    go_wp2_with fail
    go_ret
    exact ⟨ret_i64 E.out.symm, B1.out⟩

set_option maxHeartbeats 2000000 in
theorem spend_any (g a b c : Nat) (h : Int) (l0 l : List Co.EnD) (A : List Co.PtD) (t : TxD) (lo hi : Nat) (vi vo : Value) (w : World) (k : Wk w g a b c h l0 l A) (ht : TxAt w lo hi vi vo t) (hhi : hi ≤ w.heap.size) (hok : t.Ok)
    (hof : ∀ i ∈ [a, b, c], i < lo ∨ hi ≤ i) :
    Calls Tryz.prog 60 #[.pointer (some ⟨g, 0, none⟩), .agg #[.int .u32 t.ver, vi, vo, .int .u32 t.lock]] w
      fun e w' => e = .returned (.tuple #[]) ∧ (∃ A', Wk w' g a b c h l0 (dels l t t.ins.length) A') ∧ Tn [a, b, c] w w' := by
  obtain ⟨A1, m1, rfl⟩ := ht.1.form
  obtain ⟨w0, hw0⟩ : ∃ w0, w0 = w.alloc (.cells #[.int .u32 t.ver, .slice A1 t.ins.length m1, vo, .int .u32 t.lock] 51) := ⟨_, rfl⟩
  have z0 : w0.heap.size = w.heap.size + 1 := by rw [hw0]; simp
  have hb0 : Below w.heap.size w w0 := by rw [hw0]; exact (Below.refl _ _).alloc (Nat.le_refl _) _
  have BX := Lib.hid (show Boxed w0 w.heap.size (.int .u32 t.ver) (.slice A1 t.ins.length m1) vo (.int .u32 t.lock) from by rw [hw0]; exact Boxed.new _ _ _ _ _ _)
  have K0 := Lib.hid (k.below hb0 (Nat.le_refl _))
  have TX := Lib.hid (fun V (hV : Tn [a, b, c] w0 V) => (ht.1.keep (Kept.of_below hb0 hhi)).keep (hV.kept hof (by omega)))
  have OK := Lib.hid hok
  have HW0 := Lib.hid hw0
  have B0 := Lib.hid hb0
  have Z0 := Lib.hid z0
  have HH := Lib.hid hhi
  have LT := Lib.hid (And.intro k.set.lta (And.intro k.set.ltb k.map.lt))
  have hn := hok.1
  obtain ⟨n, hne⟩ : ∃ n, t.ins.length = n := ⟨_, rfl⟩
  have HNE := Lib.hid hne
  rw [hne] at BX HW0 hn TX ⊢
  clear hne k ht hw0 hb0 hhi hok hof z0
  obtain ⟨b0, b1, b2, b3⟩ := BX.out
  go_enter Tryz.func60, Tryz.ntmps60
  go_upto_region 1 with (fail)
  rw [show World.alloc w _ = w0 from HW0.out.symm]
  go_wp2_with fail
  clear b0 b1 b2 b3
  go_loopg [9] n (fun gg s9 wr => ∃ (k : Nat) (A' : List Co.PtD), k ≤ n ∧ n - k ≤ gg ∧ s9 = .int .i64 (k : Int) ∧ Hid (Wk wr g a b c h l0 (dels l t k) A') ∧ Hid (Tn [a, b, c] w0 wr))
  case atStart => exact ⟨0, A, Nat.zero_le _, by omega, rfl, K0, Lib.hid (Tn.refl _ _)⟩
  case round =>
    obtain ⟨k, A', hk, hgk, rfl, HK, HT⟩ := hrel
    by_cases hlt : k < n
    · have j1 : (k : Int) < (n : Int) := by omega
      have j2 : decide (k < n) = true := decide_eq_true hlt
      have j3 : ¬ (k : Int) < 0 := by omega
      obtain ⟨x, hx⟩ : ∃ x, t.ins[k]? = some x := ⟨_, List.getElem?_eq_getElem (by rw [HNE.out]; exact hlt)⟩
      obtain ⟨bi, oi, rfl, g1, g2, c0, c1, c2, u, c3, hst⟩ := (TX.out wr HT.out).at hx
      obtain ⟨Au, cu, rfl⟩ : ∃ A c, u = Value.slice A x.wit.length c := by obtain ⟨A, c, rfl, _⟩ := hst; exact ⟨A, c, rfl⟩
      obtain ⟨i1, i2, i3, _⟩ := OK.out.2.2.1 x (List.mem_of_getElem? hx)
      have DS := Lib.hid (dels_step (l := l) hx)
      have hbw : bi < wr.heap.size := by have := HT.out.size; have := Z0.out; have := HH.out; omega
      obtain ⟨w8, hw8⟩ : ∃ w8, w8 = wr.alloc (.cells #[.string x.id, .int .u32 x.ix, .int .u32 x.sq, .slice Au x.wit.length cu] 107) := ⟨_, rfl⟩
      have hb8 : Below wr.heap.size wr w8 := by rw [hw8]; exact (Below.refl _ _).alloc (Nat.le_refl _) _
      have z8 : w8.heap.size = wr.heap.size + 1 := by rw [hw8]; simp
      have y0 : w8.cell? ⟨wr.heap.size, 0, none⟩ = some (.string x.id) := by rw [hw8]; simp
      have y1 : w8.cell? ⟨wr.heap.size, 1, none⟩ = some (.int .u32 x.ix) := by rw [hw8]; simp
      have K8 := Lib.hid (HK.out.below hb8 (Nat.le_refl _))
      have HW8 := Lib.hid hw8
      have B8 := Lib.hid hb8
      have CK := Lib.hid (keep_any g a b c h l0 _ A' x.id x.ix w8 K8.out ⟨i1, i2, i3⟩)
      have PT := Lib.hid (show Co.PtOk x.id x.ix from ⟨i1, i2, i3⟩)
      clear hw8 hb8 hst hx
      go_upto_region 4 with (fail)
      rw [show World.alloc wr _ = w8 from HW8.out.symm]
      clear c0 c1 c2 c3
      go_wp2_with fail
      refine CK.out.mono ?_
      rintro e w9 ⟨rfl, hk9, ht9⟩
      have K9 := Lib.hid hk9
      have T9 := Lib.hid ((HT.out.next B8.out).trans (ht9.mono (by simp)))
      have n8 : wr.heap.size ∉ [c] := by have := HK.out.map.lt; simp; omega
      have x0 := (ht9.cell (b := wr.heap.size) (o := 0) (by omega) n8).trans y0
      have x1 := (ht9.cell (b := wr.heap.size) (o := 1) (by omega) n8).trans y1
      have d0 := hk9.c0
      clear hk9 ht9 y0 y1 CK
      go_upto_region 5 with (fail)
      go_still_tail 6, (by kernel_rfl)
      change wpList _ _ _ _ _ w9.drew
      obtain ⟨wa, hwa⟩ : ∃ wa, w9.drew = wa := ⟨_, rfl⟩
      have hba : Below w9.heap.size w9 wa := by rw [← hwa]; exact (Below.refl _ _).drew
      rw [hwa]
      have KA := Lib.hid (K9.out.below hba (Nat.le_refl _))
      have TA := Lib.hid (T9.out.next hba)
      have CT := Lib.hid (Co.take_any a b _ x.id x.ix wa KA.out.set PT.out)
      clear x0 x1 d0 hba hwa
      go_wp2_with fail
      refine CT.out.mono ?_
      rintro e wb ⟨rfl, hsb, hbb⟩
      have KB := Lib.hid (KA.out.turn hsb hbb (KA.out.kep.del (Co.keep_has A' x.id x.ix)))
      have TB := Lib.hid (TA.out.trans ((Tn.of_but2 hbb).mono (by simp)))
      rw [← DS.out] at KB
      clear hsb hbb
      go_wp2_with fail
      go_roundg (n - (k + 1))
      case measure => omega
      case rel => exact ⟨k + 1, _, by omega, by omega, by go_num, KB, TB⟩
    · have k2' : decide (k < n) = false := decide_eq_false hlt
      have k3' : decide ((k : Int) < (n : Int)) = false := decide_eq_false (by omega)
      obtain rfl : k = n := by omega
      go_wp2_with fail
      go_end0
      exact ⟨rfl, ⟨A', HK.out⟩, ((Tn.of_below B0.out).trans HT.out)⟩

end Go.Proofs.YtnmfjnfdnjjngaaGreatDoor
