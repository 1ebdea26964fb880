/-
  One transaction of a block, and a block, as the document reckons them.
  A block as the document reckons it.
-/
import Derived.Test.YtnmfjnfdnjjngaaGreatDoorMWkq
import Derived.Test.YtnmfjnfdnjjngaaGreatDoorMRtk

namespace Go.Proofs.YtnmfjnfdnjjngaaGreatDoor
open Go.RowKit
set_option maxRecDepth 100000

theorem ret_sii {v : Value} {a b c d : Int} (h : a = c) (h2 : b = d) : Ending.returned (.tuple #[v, .int .i64 a, .int .i64 b]) = .returned (.tuple #[v, .int .i64 c, .int .i64 d]) := by rw [h, h2]

/-- What the document's One answers. -/
def OneEnd (v0 : Value) (lo : Nat) (l : List Co.EnD) (O : OneA) (w : World) (e : Ending) (w' : World) : Prop :=
  ∃ v, e = .returned (.tuple #[v, .int .i64 O.code, .int .i64 O.inn]) ∧ Co.Ents w' lo w'.heap.size v (if O.code = 0 then O.l else l) ∧ Below w.heap.size w w' ∧ Co.Prov v0 w.heap.size v
theorem OneEnd.no {lo : Nat} {l : List Co.EnD} {O : OneA} {w w' : World} {v v0 : Value} {c n : Int} (hc : O.code = c) (hn : O.inn = n) (hz : c ≠ 0) (he : Co.Ents w' lo w'.heap.size v l) (hb : Below w.heap.size w w') (hp : Co.Prov v0 w.heap.size v) :
    OneEnd v0 lo l O w (.returned (.tuple #[v, .int .i64 c, .int .i64 n])) w' := by
  subst hc hn
  exact ⟨v, rfl, by rw [if_neg hz]; exact he, hb, hp⟩
theorem OneEnd.yes {lo : Nat} {l m : List Co.EnD} {O : OneA} {w w' : World} {v v0 : Value} (hO : O = ⟨m, 0, -1⟩) (he : Co.Ents w' lo w'.heap.size v m) (hb : Below w.heap.size w w') (hp : Co.Prov v0 w.heap.size v) :
    OneEnd v0 lo l O w (.returned (.tuple #[v, .int .i64 0, .int .i64 (-1)])) w' := by
  subst hO
  exact ⟨v, rfl, by rw [if_pos rfl]; exact he, hb, hp⟩

set_option maxHeartbeats 4000000 in
theorem rone_any (Al : Option Addr) (cl : Nat) (l : List Co.EnD) (t : TxD) (at_ : Nat) (h : Int) (vi vo : Value) (w : World) (lo hi : Nat) (hx : Co.Ents w lo hi (.slice Al l.length cl) l) (hhi : hi ≤ w.heap.size) (hlo : lo ≤ w.heap.size) (hg : Co.Good l)
    (hl : l.length + t.outs.length ≤ 900) (ht : TxAt w 0 w.heap.size vi vo t) (hok : t.Ok) (h3 : 0 ≤ h) (h4 : h ≤ 1000000) (hat : at_ ≤ 100) :
    Calls Tryz.prog 32 #[.slice Al l.length cl, .agg #[.int .u32 t.ver, vi, vo, .int .u32 t.lock], .int .i64 (at_ : Int), .int .i64 h] w (OneEnd (.slice Al l.length cl) lo l (oneA l t (at_ == 0) h) w) := by
  obtain ⟨A1, m1, rfl⟩ := ht.1.form
  obtain ⟨A2, m2, rfl⟩ := ht.2.form
  obtain ⟨w0, hw0⟩ : ∃ w0, w0 = w.alloc (.cells #[.int .u32 t.ver, .slice A1 t.ins.length m1, .slice A2 t.outs.length m2, .int .u32 t.lock] 51) := ⟨_, rfl⟩
  have z0 : w0.heap.size = w.heap.size + 1 := by rw [hw0]; simp
  have hb0 : Below w.heap.size w w0 := by rw [hw0]; exact (Below.refl _ _).alloc (Nat.le_refl _) _
  have hh0 : w0.heap[w.heap.size]? = some (.cells #[.int .u32 t.ver, .slice A1 t.ins.length m1, .slice A2 t.outs.length m2, .int .u32 t.lock] 51 (0, 0)) := by rw [hw0]; exact heap_alloc_new _ _
  have BX := Lib.hid (show ∀ V, Below w0.heap.size w0 V → Boxed V w.heap.size (.int .u32 t.ver) (.slice A1 t.ins.length m1) (.slice A2 t.outs.length m2) (.int .u32 t.lock) from fun V hV => by
    have hh := (hV.block w.heap.size (by omega)).trans hh0
    exact ⟨Co.cell_in hh rfl, Co.cell_in hh rfl, Co.cell_in hh rfl, Co.cell_in hh rfl⟩)
  have TX := Lib.hid (fun V (hV : Below w0.heap.size w0 V) => (ht.keep (Kept.of_below hb0 (Nat.le_refl _))).keep (Kept.of_below hV (by omega)))
  have EN := Lib.hid (fun V (hV : Below w0.heap.size w0 V) => (hx.keep (Kept.of_below hb0 hhi)).keep (Kept.of_below hV (by omega)))
  have HW0 := Lib.hid hw0
  have B0 := Lib.hid hb0
  have Z0 := Lib.hid z0
  have OK := Lib.hid hok
  have GD := Lib.hid hg
  have QQ := Lib.hid (And.intro h3 h4)
  have HI := Lib.hid (And.intro hhi hlo)
  have LL := Lib.hid hl
  have GN := Lib.hid (one_grant_no (l := l) (t := t) (first := at_ == 0) (h := h))
  have GY := Lib.hid (one_grant (l := l) (t := t) (first := at_ == 0) (h := h))
  have FN := Lib.hid (one_fee_no (l := l) (t := t) (first := at_ == 0) (h := h))
  have FY := Lib.hid (one_fee (l := l) (t := t) (first := at_ == 0) (h := h))
  obtain ⟨O, hO⟩ : ∃ O, oneA l t (at_ == 0) h = O := ⟨_, rfl⟩
  rw [hO] at GN GY FN FY ⊢
  have CBS := Lib.hid (fun (V : World) (x : InD) => rbase_any x.id x.ix V)
  have CC := Lib.hid (fun (V : World) (hV : Below w0.heap.size w0 V) => rcheck_any t _ _ V 0 w.heap.size (TX.out V hV) (by have := hV.size; omega) OK.out)
  have CF := Lib.hid (fun (V : World) (hV : Below w0.heap.size w0 V) => rfee_any Al cl l t h _ _ V lo hi (EN.out V hV) (by have := hV.size; omega) GD.out (by have := LL.out; omega) ((TX.out V hV).wide (Nat.le_refl _) (by have := hV.size; omega)) OK.out)
  have CI := Lib.hid (fun (V : World) (hV : Below w0.heap.size w0 V) (hck : checkD t = 0) => rid_any t _ _ V ((TX.out V hV).wide (Nat.le_refl _) (show w.heap.size ≤ V.heap.size by have := hV.size; omega)) OK.out (check_vals hck))
  have hl1 : t.lock ≤ 4294967295 := hok.2.2.2.2.2.2.2
  have hl0 : 0 ≤ t.lock := hok.2.2.2.2.2.2.1
  have wl : IntKind.i64.wrap t.lock = t.lock := IntWalk.i64_in _ (by omega)
  have n1le := hok.1
  have n2le := hok.2.1
  obtain ⟨n1, hn1⟩ : ∃ n, t.ins.length = n := ⟨_, rfl⟩
  obtain ⟨n2, hn2⟩ : ∃ n, t.outs.length = n := ⟨_, rfl⟩
  have HN := Lib.hid (And.intro hn1 hn2)
  rw [hn1, hn2] at BX TX HW0 CC CF CI
  rw [hn1] at FY n1le
  rw [hn2] at n2le LL
  rw [hn1, hn2]
  obtain ⟨nl, hnl⟩ : ∃ n, l.length = n := ⟨_, rfl⟩
  rw [hnl] at EN CF LL ⊢
  have HNL := Lib.hid hnl
  have LB := Lib.hid (base_first (t := t))
  have LBN := Lib.hid (isBase_len (xs := t.ins))
  clear hO hx hw0 hb0 hhi hlo hg ht hok h3 h4 z0 hh0 hl hn1 hn2 hnl
  obtain ⟨b0, b1, b2, b3⟩ := BX.out w0 (Below.refl _ _)
  cases hbs : isBase t.ins with
  | true =>
    rw [hbs] at GN GY FN FY
    obtain ⟨x, hxs⟩ : ∃ x, t.ins = [x] := by
      match hh : t.ins, hbs with
      | [x], _ => exact ⟨x, rfl⟩
    have hx0 : t.ins[0]? = some x := by rw [hxs]; rfl
    have e1 : n1 = 1 := by rw [← HN.out.1, hxs]; rfl
    have hbx : baseB x.id x.ix = true := by have := hbs; rw [hxs] at this; exact this
    obtain ⟨bi, oi, hAi, p1, p2, c0, c1, _⟩ := (TX.out w0 (Below.refl _ _)).1.at hx0
    rw [Nat.zero_mul, Nat.add_zero] at c0 c1
    subst hAi
    subst e1
    have CB1 := Lib.hid (CBS.out w0 x)
    rw [hbx] at CB1
    clear hbs hxs hx0 hbx CBS CF FN FY LB LBN
    go_enter Tryz.func32, Tryz.ntmps32
    go_upto_region 1 with (fail)
    rw [show World.alloc w _ = w0 from HW0.out.symm]
    go_wp2_with fail
    refine CB1.out.mono ?_
    rintro e w1 ⟨rfl, hb1⟩
    have W1 := Lib.hid hb1
    clear b0 b1 b2 b3 c0 c1 hb1 CB1
    obtain ⟨b0, b1, b2, b3⟩ := BX.out w1 W1.out
    have CC1 := Lib.hid (CC.out w1 W1.out)
    obtain ⟨ck, hck⟩ : ∃ x, checkD t = x := ⟨_, rfl⟩
    rw [hck] at CC1
    have HCK := Lib.hid hck
    clear hck CC
    go_wp2_with fail
    refine CC1.out.mono ?_
    rintro e w2 ⟨rfl, hb2⟩
    have W2 := Lib.hid (below_next W1.out W1.out.size hb2)
    clear b0 b1 b2 b3 hb2 CC1
    obtain ⟨b0, b1, b2, b3⟩ := BX.out w2 W2.out
    by_cases hc : ck = 0
    · subst hc
      have CK := HCK
      by_cases hf : ((at_ == 0) && (t.lock == h)) = true
      · have E := Lib.hid (GY.out (by trivial) (gr_ok CK.out hf))
        have hf' := hf
        simp only [Bool.and_eq_true, beq_iff_eq] at hf'
        obtain ⟨rfl, q2⟩ := hf'
        have f0 : ¬ ((0 : Nat) : Int) > 0 := by decide
        have f1 : (t.lock != h) = false := by simp [q2]
        have f2 : decide (((0 : Nat) : Int) > 0) = false := by decide
        have OY := Lib.hid E.out
        have MV := Lib.hid (show Co.Ents w2 lo w2.heap.size (.slice Al nl cl) l from (EN.out w2 W2.out).wide (Nat.le_refl _) (by have := W2.out.size; have := HI.out.1; have := Z0.out; omega))
        have MG := Lib.hid GD.out
        have ML := Lib.hid (show l.length ≤ nl by rw [HNL.out]; exact Nat.le_refl _)
        clear hf q2
        go_wp2_with fail
        clear b0 b1 b2 b3
        go_loopg [16, 17] 1 (fun gg s16 s17 wr => gg = 1 ∧ s16 = .slice Al nl cl ∧ s17 = .int .i64 0 ∧ Hid (wr = w2))
        case atStart => exact ⟨rfl, rfl, rfl, Lib.hid rfl⟩
        case round =>
          obtain ⟨rfl, rfl, rfl, HWR⟩ := hrel
          have WV := Lib.hid (show Below w0.heap.size w0 wr from by rw [HWR.out]; exact W2.out)
          have MV2 := Lib.hid (show Co.Ents wr lo wr.heap.size (.slice Al nl cl) l from by rw [HWR.out]; exact MV.out)
          replace MV := MV2
          have ck0 := CK.out
          have CI1 := Lib.hid (CI.out wr WV.out ck0)
          obtain ⟨b0, b1, b2, b3⟩ := BX.out wr WV.out
          clear ck0 CI
          go_upto_region 18 with (fail)
          go_wp2_with fail
          refine CI1.out.mono ?_
          rintro e wi ⟨rfl, hbi⟩
          have WI := Lib.hid (below_next WV.out WV.out.size hbi)
          have hsz := idD_size t
          obtain ⟨id, hid'⟩ : ∃ id, dd (wireS t false) = id := ⟨_, rfl⟩
          have HID := Lib.hid (show idD t = id from hid')
          rw [HID.out] at OY hsz
          rw [hid']
          have HSZ := Lib.hid hsz
          have MI := Lib.hid (show Co.Ents wi lo wi.heap.size (.slice Al nl cl) l from (MV.out.keep (Kept.of_below hbi (Nat.le_refl _))).wide (Nat.le_refl _) hbi.size)
          obtain ⟨P, hP⟩ : ∃ P, paysL id h t.outs 0 l = P := ⟨_, rfl⟩
          rw [hP] at OY
          have HP := Lib.hid hP
          clear b0 b1 b2 b3 hbi CI1 hid' hsz hP
          go_wp2_with fail
          go_loopg [16, 19] n2 (fun gg s16 s19 wr => ∃ (k : Nat) (m : List Co.EnD) (v : Value), k ≤ n2 ∧ n2 - k ≤ gg ∧ s16 = v ∧ s19 = .int .i64 (k : Int) ∧ Hid (Co.Ents wr lo wr.heap.size v m) ∧ Hid (Below w0.heap.size w0 wr) ∧ Hid (Co.Prov (.slice Al nl cl) w0.heap.size v) ∧ Hid (paysL id h (t.outs.drop k) k m = P ∧ Co.Good m ∧ m.length ≤ nl + k))
          case atStart => exact ⟨0, l, (.slice Al nl cl), Nat.zero_le _, by omega, rfl, rfl, MI, WI, Lib.hid (.inl rfl), Lib.hid ⟨by rw [List.drop_zero]; exact HP.out, MG.out, by have := ML.out; omega⟩⟩
          case round =>
            obtain ⟨k, m, v, hk, hgk, rfl, rfl, HM, HB, HPV, HPK⟩ := hrel
            obtain ⟨Am, cm, rfl⟩ := HM.out.form
            obtain ⟨b0, b1, b2, b3⟩ := BX.out wr HB.out
            by_cases hlt : k < n2
            · have j1 : (k : Int) < (n2 : Int) := by omega
              have j2 : decide (k < n2) = true := decide_eq_true hlt
              have j3 : ¬ (k : Int) < 0 := by omega
              have v1 : IntKind.u32.wrap (k : Int) = k := by rw [IntWalk.u32_in _ (by omega)]
              obtain ⟨x, hx⟩ : ∃ x, t.outs[k]? = some x := ⟨_, List.getElem?_eq_getElem (by rw [HN.out.2]; exact hlt)⟩
              obtain ⟨bi, oi, hAi, p1, p2, c0, c1⟩ := (TX.out wr HB.out).2.at hx
              subst hAi
              have PG := Lib.hid (pays_go (id := id) (h := h) (l := m) hx)
              have PS := Lib.hid (pays_stop (id := id) (h := h) (l := m) hx)
              have XO := Lib.hid (outE_ok (h := h) (i := k) HSZ.out (by omega) (OK.out.2.2.2.1 x (List.mem_of_getElem? hx)) QQ.out.1 QQ.out.2)
              obtain ⟨xv, xs⟩ := x
              simp only at c0 c1
              have CP := Lib.hid (show Calls Tryz.prog 56 #[.slice Am m.length cm, .agg #[.string id, .int .u32 (k : Int)], .agg #[.int .i64 xv, .string xs, .int .i64 h]] wr _ from Co.rput_any Am _ cm m (outE id h k ⟨xv, xs⟩) wr lo wr.heap.size HM.out (Nat.le_refl _) (by have := HB.out.size; have := HI.out.2; have := Z0.out; omega) HPK.out.2.1 (by have := HPK.out.2.2; have := LL.out; omega))
              obtain ⟨pe, hpe⟩ : ∃ pe, Co.putE m (outE id h k ⟨xv, xs⟩) = pe := ⟨_, rfl⟩
              unfold Co.RputEnd at CP
              rw [hpe] at CP PG PS
              obtain ⟨ml, hml⟩ : ∃ n, m.length = n := ⟨_, rfl⟩
              rw [hml] at CP HPV ⊢
              have HML := Lib.hid hml
              clear hpe hx hml
              go_wp2_with fail
              refine CP.out.mono ?_
              rintro e w3 ⟨v3, rfl, he3, hb3, hp3⟩
              have M3 := Lib.hid he3
              have P3 := Lib.hid (HPV.out.next hp3 HB.out.size)
              have B3 := Lib.hid (below_next HB.out HB.out.size hb3)
              obtain ⟨A3, c3, rfl⟩ := he3.form
              clear b0 b1 b2 b3 c0 c1 he3 hb3 hp3 CP
              by_cases hz : pe = 0
              · have G := Lib.hid (PG.out hz)
                subst hz
                go_wp2_with fail
                go_roundg (n2 - (k + 1))
                case measure => omega
                case rel => exact ⟨k + 1, _, _, by omega, by omega, rfl, by go_num, M3, B3, P3, Lib.hid ⟨G.out.symm.trans HPK.out.1, HPK.out.2.1.put XO.out, by have := Co.putL_len m (outE id h k ⟨xv, xs⟩); have := HPK.out.2.2; omega⟩⟩
              · have G := Lib.hid ((PS.out hz).symm.trans HPK.out.1)
                have e1 : (pe != 0) = true := by simp [hz]
                have HZ := Lib.hid hz
                clear hz
                go_wp2_with fail
                go_ret3
                refine OneEnd.no ?_ ?_ HZ.out (hp := .inl rfl) (by have := EN.out w3 B3.out; rw [← HNL.out] at this ⊢; exact this.wide (Nat.le_refl _) (by have := B3.out.size; have := HI.out.1; have := Z0.out; omega)) (B0.out.trans (B3.out.mono (by have := Z0.out; omega)))
                · rw [OY.out, ← G.out]
                · rw [OY.out]
            · have k2' : decide (k < n2) = false := decide_eq_false hlt
              have k3' : decide ((k : Int) < (n2 : Int)) = false := decide_eq_false (by omega)
              have k4' : ¬ (k : Int) < (n2 : Int) := by omega
              obtain rfl : k = n2 := by omega
              have G := Lib.hid ((pays_end (id := id) (h := h) (l := m) (xs := t.outs) (k := k) (by rw [HN.out.2]; exact Nat.le_refl _)).symm.trans HPK.out.1)
              obtain ⟨ml, hml⟩ : ∃ n, m.length = n := ⟨_, rfl⟩
              have M3 := Lib.hid HM.out
              rw [hml] at M3 HPV ⊢
              clear hml HM
              go_wp2_with fail
              go_ret3
              exact OneEnd.yes (by rw [OY.out, ← G.out]) M3.out (B0.out.trans (HB.out.mono (by have := Z0.out; omega))) (HPV.out.mono (by have := Z0.out; omega))

      · have hf' : ((at_ == 0) && (t.lock == h)) = false := by simpa using hf
        have E := Lib.hid (GN.out (by trivial) (by rw [gr_form CK.out hf']; decide))
        have EC := Lib.hid (show O.code = 4 from by rw [E.out]; exact gr_form CK.out hf')
        have EI := Lib.hid (show O.inn = -1 from by rw [E.out])
        by_cases ha : at_ = 0
        · subst ha
          have f1 : (t.lock != h) = true := by simp at hf; simp [hf]
          have f0 : ¬ ((0 : Nat) : Int) > 0 := by decide
          have f2 : decide (((0 : Nat) : Int) > 0) = false := by decide
          clear hf hf'
          go_wp2_with fail
          go_ret3
          exact OneEnd.no EC.out EI.out (by decide) (hp := .inl rfl) ((EN.out w2 W2.out).wide (Nat.le_refl _) (by have := W2.out.size; have := HI.out.1; have := Z0.out; omega)) (B0.out.trans (W2.out.mono (by have := Z0.out; omega)))
        · have f0 : (at_ : Int) > 0 := by omega
          have f2 : 0 < at_ := by omega
          clear hf hf' ha
          go_wp2_with fail
          go_ret3
          exact OneEnd.no EC.out EI.out (by decide) (hp := .inl rfl) ((EN.out w2 W2.out).wide (Nat.le_refl _) (by have := W2.out.size; have := HI.out.1; have := Z0.out; omega)) (B0.out.trans (W2.out.mono (by have := Z0.out; omega)))
    · have e1 : (ck != 0) = true := by simp [hc]
      have E := Lib.hid (GN.out (by trivial) (show grE t (at_ == 0) h ≠ 0 from by rw [gr_check (by rw [HCK.out]; exact hc), HCK.out]; exact hc))
      have EC := Lib.hid (show O.code = ck from by rw [E.out]; exact (gr_check (by rw [HCK.out]; exact hc)).trans HCK.out)
      have HC := Lib.hid hc
      clear hc
      go_wp2_with fail
      go_ret3
      exact OneEnd.no EC.out (by rw [E.out]) HC.out (hp := .inl rfl) ((EN.out w2 W2.out).wide (Nat.le_refl _) (by have := W2.out.size; have := HI.out.1; have := Z0.out; omega)) (B0.out.trans (W2.out.mono (by have := Z0.out; omega)))
  | false =>
    rw [hbs] at GN GY FN FY
    by_cases hn1 : n1 = 1
    · obtain ⟨x, hxs⟩ : ∃ x, t.ins = [x] := by
        have := HN.out.1
        rw [hn1] at this
        match hh : t.ins, this with
        | [x], _ => exact ⟨x, rfl⟩
      have hx0 : t.ins[0]? = some x := by rw [hxs]; rfl
      have hbx : baseB x.id x.ix = false := by have := hbs; rw [hxs] at this; exact this
      obtain ⟨bi, oi, hAi, p1, p2, c0, c1, _⟩ := (TX.out w0 (Below.refl _ _)).1.at hx0
      rw [Nat.zero_mul, Nat.add_zero] at c0 c1
      subst hAi
      have hn2 : ((n1 : Int) == 1) = true := by simp; omega
      have hn3 : (n1 == 1) = true := by simp [hn1]
      have hn4 : (0 : Int) < (n1 : Int) := by omega
      have hn5 : 0 < n1 := by omega
      have CB1 := Lib.hid (CBS.out w0 x)
      rw [hbx] at CB1
      clear hbs hxs hx0 hbx CBS LB LBN CC hn1
      go_enter Tryz.func32, Tryz.ntmps32
      go_upto_region 1 with (fail)
      rw [show World.alloc w _ = w0 from HW0.out.symm]
      go_wp2_with fail
      refine CB1.out.mono ?_
      rintro e wg ⟨rfl, hbg⟩
      have WG := Lib.hid hbg
      clear b0 b1 b2 b3 c0 c1 hbg CB1 hn2 hn3
      have CF1 := Lib.hid (CF.out wg WG.out)
      obtain ⟨F, hF⟩ : ∃ F, feA l t h = F := ⟨_, rfl⟩
      rw [hF] at CF1 FN FY
      have HF := Lib.hid hF
      obtain ⟨b0, b1, b2, b3⟩ := BX.out wg WG.out
      clear hF CF GN GY
      go_upto_region 10 with (fail)
      go_wp2_with fail
      refine CF1.out.mono ?_
      rintro e w2 ⟨rfl, hb2⟩
      have W2 := Lib.hid (below_next WG.out WG.out.size hb2)
      clear b0 b1 b2 b3 hb2 CF1
      by_cases hc : F.code = 0
      · have E := Lib.hid (FY.out (by trivial) hc)
        have CK := Lib.hid (fe_has (l := l) (t := t) (h := h) (by rw [HF.out]; exact hc)).1
        have OY := Lib.hid E.out
        rw [hc]
        clear hc FN FY
        obtain ⟨b0, b1, b2, b3⟩ := BX.out w2 W2.out
        go_wp2_with fail
        clear b0 b1 b2 b3
        go_loopg [16, 17] n1 (fun gg s16 s17 wr => ∃ (k : Nat) (v : Value), k ≤ n1 ∧ n1 - k ≤ gg ∧ s16 = v ∧ s17 = .int .i64 (k : Int) ∧ Hid (Co.Ents wr lo wr.heap.size v (dels l t k)) ∧ Hid (Below w0.heap.size w0 wr) ∧ Hid (Co.Prov (.slice Al nl cl) w0.heap.size v))
        case atStart => exact ⟨0, _, Nat.zero_le _, by omega, rfl, rfl, Lib.hid ((EN.out w2 W2.out).wide (Nat.le_refl _) (by have := W2.out.size; have := HI.out.1; have := Z0.out; omega)), W2, Lib.hid (.inl rfl)⟩
        case round =>
          obtain ⟨k, v, hk, hgk, rfl, rfl, HM, HB, HPV⟩ := hrel
          obtain ⟨Am, cm, rfl⟩ := HM.out.form
          obtain ⟨b0, b1, b2, b3⟩ := BX.out wr HB.out
          have MLn := dels_len l t k
          by_cases hlt : k < n1
          · have j1 : (k : Int) < (n1 : Int) := by omega
            have j2 : decide (k < n1) = true := decide_eq_true hlt
            have j2' : decide ((k : Int) < (n1 : Int)) = true := decide_eq_true j1
            have j3 : ¬ (k : Int) < 0 := by omega
            obtain ⟨x, hx⟩ : ∃ x, t.ins[k]? = some x := ⟨_, List.getElem?_eq_getElem (by rw [HN.out.1]; exact hlt)⟩
            obtain ⟨bi, oi, hAi, p1, p2, c0, c1, c2, u, c3, hst⟩ := (TX.out wr HB.out).1.at hx
            first | subst hAi | (injection hAi with hA1; injection hA1 with hA2 hA3; subst hA2 hA3)
            have DS := Lib.hid (dels_step (l := l) hx)
            have CT := Lib.hid (Co.rtake_any Am _ cm (dels l t k) x.id x.ix wr lo wr.heap.size HM.out (Nat.le_refl _) (dels_good GD.out t k) (by have := LL.out; have := HNL.out; omega))
            obtain ⟨ml, hml⟩ : ∃ n, (dels l t k).length = n := ⟨_, rfl⟩
            rw [hml] at CT HPV ⊢
            obtain ⟨y, hy⟩ : ∃ y, Co.atE (dels l t k) x.id x.ix = y := ⟨_, rfl⟩
            rw [hy] at CT
            obtain ⟨te, hte⟩ : ∃ y, Co.takeE (dels l t k) x.id x.ix = y := ⟨_, rfl⟩
            rw [hte] at CT
            clear hx hml hst MLn hy hte
            go_wp2_with fail
            refine CT.out.mono ?_
            rintro e w3 ⟨v3, rfl, he3, hb3, hp3⟩
            have M3 := Lib.hid (show Co.Ents w3 lo w3.heap.size v3 (dels l t (k + 1)) from by rw [DS.out]; exact he3)
            have B3 := Lib.hid (below_next HB.out HB.out.size hb3)
            have P3 := Lib.hid (HPV.out.next hp3 HB.out.size)
            clear b0 b1 b2 b3 c0 c1 c2 c3 he3 hb3 hp3 CT
            go_wp2_with fail
            go_roundg (n1 - (k + 1))
            case measure => omega
            case rel => exact ⟨k + 1, _, by omega, by omega, rfl, by go_num, M3, B3, P3⟩
          · have k2' : decide (k < n1) = false := decide_eq_false hlt
            have k3' : decide ((k : Int) < (n1 : Int)) = false := decide_eq_false (by omega)
            have k4' : ¬ (k : Int) < (n1 : Int) := by omega
            obtain rfl : k = n1 := by omega
            obtain ⟨ml, hml⟩ : ∃ n, (dels l t k).length = n := ⟨_, rfl⟩
            have MV := Lib.hid HM.out
            have ML := Lib.hid (show (dels l t k).length ≤ nl by have := HNL.out; omega)
            have MG := Lib.hid (dels_good GD.out t k)
            have WV := Lib.hid HB.out
            have HPW := Lib.hid HPV.out
            rw [hml] at MV HPW ⊢
            clear hml HM MLn b0 b1 b2 b3
            have ck0 := CK.out
            have CI1 := Lib.hid (CI.out wr WV.out ck0)
            obtain ⟨b0, b1, b2, b3⟩ := BX.out wr WV.out
            clear ck0 CI
            go_upto_region 18 with (fail)
            go_wp2_with fail
            refine CI1.out.mono ?_
            rintro e wi ⟨rfl, hbi⟩
            have WI := Lib.hid (below_next WV.out WV.out.size hbi)
            have hsz := idD_size t
            obtain ⟨id, hid'⟩ : ∃ id, dd (wireS t false) = id := ⟨_, rfl⟩
            have HID := Lib.hid (show idD t = id from hid')
            rw [HID.out] at OY hsz
            rw [hid']
            have HSZ := Lib.hid hsz
            have MI := Lib.hid (show Co.Ents wi lo wi.heap.size (.slice Am ml cm) (dels l t k) from (MV.out.keep (Kept.of_below hbi (Nat.le_refl _))).wide (Nat.le_refl _) hbi.size)
            obtain ⟨P, hP⟩ : ∃ P, paysL id h t.outs 0 (dels l t k) = P := ⟨_, rfl⟩
            rw [hP] at OY
            have HP := Lib.hid hP
            clear b0 b1 b2 b3 hbi CI1 hid' hsz hP
            go_wp2_with fail
            go_loopg [16, 19] n2 (fun gg s16 s19 wr => ∃ (k : Nat) (m : List Co.EnD) (v : Value), k ≤ n2 ∧ n2 - k ≤ gg ∧ s16 = v ∧ s19 = .int .i64 (k : Int) ∧ Hid (Co.Ents wr lo wr.heap.size v m) ∧ Hid (Below w0.heap.size w0 wr) ∧ Hid (Co.Prov (.slice Al nl cl) w0.heap.size v) ∧ Hid (paysL id h (t.outs.drop k) k m = P ∧ Co.Good m ∧ m.length ≤ nl + k))
            case atStart => exact ⟨0, (dels l t k), (.slice Am ml cm), Nat.zero_le _, by omega, rfl, rfl, MI, WI, HPW, Lib.hid ⟨by rw [List.drop_zero]; exact HP.out, MG.out, by have := ML.out; omega⟩⟩
            case round =>
              obtain ⟨k, m, v, hk, hgk, rfl, rfl, HM, HB, HPV, HPK⟩ := hrel
              obtain ⟨Am, cm, rfl⟩ := HM.out.form
              obtain ⟨b0, b1, b2, b3⟩ := BX.out wr HB.out
              by_cases hlt : k < n2
              · have j1 : (k : Int) < (n2 : Int) := by omega
                have j2 : decide (k < n2) = true := decide_eq_true hlt
                have j3 : ¬ (k : Int) < 0 := by omega
                have v1 : IntKind.u32.wrap (k : Int) = k := by rw [IntWalk.u32_in _ (by omega)]
                obtain ⟨x, hx⟩ : ∃ x, t.outs[k]? = some x := ⟨_, List.getElem?_eq_getElem (by rw [HN.out.2]; exact hlt)⟩
                obtain ⟨bi, oi, hAi, p1, p2, c0, c1⟩ := (TX.out wr HB.out).2.at hx
                subst hAi
                have PG := Lib.hid (pays_go (id := id) (h := h) (l := m) hx)
                have PS := Lib.hid (pays_stop (id := id) (h := h) (l := m) hx)
                have XO := Lib.hid (outE_ok (h := h) (i := k) HSZ.out (by omega) (OK.out.2.2.2.1 x (List.mem_of_getElem? hx)) QQ.out.1 QQ.out.2)
                obtain ⟨xv, xs⟩ := x
                simp only at c0 c1
                have CP := Lib.hid (show Calls Tryz.prog 56 #[.slice Am m.length cm, .agg #[.string id, .int .u32 (k : Int)], .agg #[.int .i64 xv, .string xs, .int .i64 h]] wr _ from Co.rput_any Am _ cm m (outE id h k ⟨xv, xs⟩) wr lo wr.heap.size HM.out (Nat.le_refl _) (by have := HB.out.size; have := HI.out.2; have := Z0.out; omega) HPK.out.2.1 (by have := HPK.out.2.2; have := LL.out; omega))
                obtain ⟨pe, hpe⟩ : ∃ pe, Co.putE m (outE id h k ⟨xv, xs⟩) = pe := ⟨_, rfl⟩
                unfold Co.RputEnd at CP
                rw [hpe] at CP PG PS
                obtain ⟨ml, hml⟩ : ∃ n, m.length = n := ⟨_, rfl⟩
                rw [hml] at CP HPV ⊢
                have HML := Lib.hid hml
                clear hpe hx hml
                go_wp2_with fail
                refine CP.out.mono ?_
                rintro e w3 ⟨v3, rfl, he3, hb3, hp3⟩
                have M3 := Lib.hid he3
                have P3 := Lib.hid (HPV.out.next hp3 HB.out.size)
                have B3 := Lib.hid (below_next HB.out HB.out.size hb3)
                obtain ⟨A3, c3, rfl⟩ := he3.form
                clear b0 b1 b2 b3 c0 c1 he3 hb3 hp3 CP
                by_cases hz : pe = 0
                · have G := Lib.hid (PG.out hz)
                  subst hz
                  go_wp2_with fail
                  go_roundg (n2 - (k + 1))
                  case measure => omega
                  case rel => exact ⟨k + 1, _, _, by omega, by omega, rfl, by go_num, M3, B3, P3, Lib.hid ⟨G.out.symm.trans HPK.out.1, HPK.out.2.1.put XO.out, by have := Co.putL_len m (outE id h k ⟨xv, xs⟩); have := HPK.out.2.2; omega⟩⟩
                · have G := Lib.hid ((PS.out hz).symm.trans HPK.out.1)
                  have e1 : (pe != 0) = true := by simp [hz]
                  have HZ := Lib.hid hz
                  clear hz
                  go_wp2_with fail
                  go_ret3
                  refine OneEnd.no ?_ ?_ HZ.out (hp := .inl rfl) (by have := EN.out w3 B3.out; rw [← HNL.out] at this ⊢; exact this.wide (Nat.le_refl _) (by have := B3.out.size; have := HI.out.1; have := Z0.out; omega)) (B0.out.trans (B3.out.mono (by have := Z0.out; omega)))
                  · rw [OY.out, ← G.out]
                  · rw [OY.out]
              · have k2' : decide (k < n2) = false := decide_eq_false hlt
                have k3' : decide ((k : Int) < (n2 : Int)) = false := decide_eq_false (by omega)
                have k4' : ¬ (k : Int) < (n2 : Int) := by omega
                obtain rfl : k = n2 := by omega
                have G := Lib.hid ((pays_end (id := id) (h := h) (l := m) (xs := t.outs) (k := k) (by rw [HN.out.2]; exact Nat.le_refl _)).symm.trans HPK.out.1)
                obtain ⟨ml, hml⟩ : ∃ n, m.length = n := ⟨_, rfl⟩
                have M3 := Lib.hid HM.out
                rw [hml] at M3 HPV ⊢
                clear hml HM
                go_wp2_with fail
                go_ret3
                exact OneEnd.yes (by rw [OY.out, ← G.out]) M3.out (B0.out.trans (HB.out.mono (by have := Z0.out; omega))) (HPV.out.mono (by have := Z0.out; omega))
      · obtain HC := Lib.hid hc
        have E := Lib.hid (FN.out (by trivial) hc)
        have e1 : (F.code != 0) = true := by simp [hc]
        obtain ⟨fc, hfc⟩ : ∃ c, F.code = c := ⟨_, rfl⟩
        obtain ⟨fa, hfa⟩ : ∃ c, F.at_ = c := ⟨_, rfl⟩
        rw [hfc, hfa] at E
        rw [hfc] at HC e1
        rw [hfc, hfa]
        clear hc hfc hfa
        go_wp2_with fail
        go_ret3
        exact OneEnd.no (by rw [E.out]) (by rw [E.out]) HC.out (hp := .inl rfl) ((EN.out w2 W2.out).wide (Nat.le_refl _) (by have := W2.out.size; have := HI.out.1; have := Z0.out; omega)) (B0.out.trans (W2.out.mono (by have := Z0.out; omega)))

    · have hn2 : ((n1 : Int) == 1) = false := by simp; omega
      have hn3 : (n1 == 1) = false := by simp [hn1]
      clear hbs CBS LB LBN CC hn1
      obtain ⟨wg, hwg⟩ : ∃ V, V = w0 := ⟨_, rfl⟩
      have WG := Lib.hid (show Below w0.heap.size w0 wg from by rw [hwg]; exact Below.refl _ _)
      have HWG := Lib.hid hwg
      clear hwg
      go_enter Tryz.func32, Tryz.ntmps32
      go_upto_region 1 with (fail)
      rw [show World.alloc w _ = w0 from HW0.out.symm]
      go_upto_region 10 with (fail)
      rw [← HWG.out]
      clear b0 b1 b2 b3
      have CF1 := Lib.hid (CF.out wg WG.out)
      obtain ⟨F, hF⟩ : ∃ F, feA l t h = F := ⟨_, rfl⟩
      rw [hF] at CF1 FN FY
      have HF := Lib.hid hF
      obtain ⟨b0, b1, b2, b3⟩ := BX.out wg WG.out
      clear hF CF GN GY
      go_upto_region 10 with (fail)
      go_wp2_with fail
      refine CF1.out.mono ?_
      rintro e w2 ⟨rfl, hb2⟩
      have W2 := Lib.hid (below_next WG.out WG.out.size hb2)
      clear b0 b1 b2 b3 hb2 CF1
      by_cases hc : F.code = 0
      · have E := Lib.hid (FY.out (by trivial) hc)
        have CK := Lib.hid (fe_has (l := l) (t := t) (h := h) (by rw [HF.out]; exact hc)).1
        have OY := Lib.hid E.out
        rw [hc]
        clear hc FN FY
        obtain ⟨b0, b1, b2, b3⟩ := BX.out w2 W2.out
        go_wp2_with fail
        clear b0 b1 b2 b3
        go_loopg [16, 17] n1 (fun gg s16 s17 wr => ∃ (k : Nat) (v : Value), k ≤ n1 ∧ n1 - k ≤ gg ∧ s16 = v ∧ s17 = .int .i64 (k : Int) ∧ Hid (Co.Ents wr lo wr.heap.size v (dels l t k)) ∧ Hid (Below w0.heap.size w0 wr) ∧ Hid (Co.Prov (.slice Al nl cl) w0.heap.size v))
        case atStart => exact ⟨0, _, Nat.zero_le _, by omega, rfl, rfl, Lib.hid ((EN.out w2 W2.out).wide (Nat.le_refl _) (by have := W2.out.size; have := HI.out.1; have := Z0.out; omega)), W2, Lib.hid (.inl rfl)⟩
        case round =>
          obtain ⟨k, v, hk, hgk, rfl, rfl, HM, HB, HPV⟩ := hrel
          obtain ⟨Am, cm, rfl⟩ := HM.out.form
          obtain ⟨b0, b1, b2, b3⟩ := BX.out wr HB.out
          have MLn := dels_len l t k
          by_cases hlt : k < n1
          · have j1 : (k : Int) < (n1 : Int) := by omega
            have j2 : decide (k < n1) = true := decide_eq_true hlt
            have j2' : decide ((k : Int) < (n1 : Int)) = true := decide_eq_true j1
            have j3 : ¬ (k : Int) < 0 := by omega
            obtain ⟨x, hx⟩ : ∃ x, t.ins[k]? = some x := ⟨_, List.getElem?_eq_getElem (by rw [HN.out.1]; exact hlt)⟩
            obtain ⟨bi, oi, hAi, p1, p2, c0, c1, c2, u, c3, hst⟩ := (TX.out wr HB.out).1.at hx
            first | subst hAi | (injection hAi with hA1; injection hA1 with hA2 hA3; subst hA2 hA3)
            have DS := Lib.hid (dels_step (l := l) hx)
            have CT := Lib.hid (Co.rtake_any Am _ cm (dels l t k) x.id x.ix wr lo wr.heap.size HM.out (Nat.le_refl _) (dels_good GD.out t k) (by have := LL.out; have := HNL.out; omega))
            obtain ⟨ml, hml⟩ : ∃ n, (dels l t k).length = n := ⟨_, rfl⟩
            rw [hml] at CT HPV ⊢
            obtain ⟨y, hy⟩ : ∃ y, Co.atE (dels l t k) x.id x.ix = y := ⟨_, rfl⟩
            rw [hy] at CT
            obtain ⟨te, hte⟩ : ∃ y, Co.takeE (dels l t k) x.id x.ix = y := ⟨_, rfl⟩
            rw [hte] at CT
            clear hx hml hst MLn hy hte
            go_wp2_with fail
            refine CT.out.mono ?_
            rintro e w3 ⟨v3, rfl, he3, hb3, hp3⟩
            have M3 := Lib.hid (show Co.Ents w3 lo w3.heap.size v3 (dels l t (k + 1)) from by rw [DS.out]; exact he3)
            have B3 := Lib.hid (below_next HB.out HB.out.size hb3)
            have P3 := Lib.hid (HPV.out.next hp3 HB.out.size)
            clear b0 b1 b2 b3 c0 c1 c2 c3 he3 hb3 hp3 CT
            go_wp2_with fail
            go_roundg (n1 - (k + 1))
            case measure => omega
            case rel => exact ⟨k + 1, _, by omega, by omega, rfl, by go_num, M3, B3, P3⟩
          · have k2' : decide (k < n1) = false := decide_eq_false hlt
            have k3' : decide ((k : Int) < (n1 : Int)) = false := decide_eq_false (by omega)
            have k4' : ¬ (k : Int) < (n1 : Int) := by omega
            obtain rfl : k = n1 := by omega
            obtain ⟨ml, hml⟩ : ∃ n, (dels l t k).length = n := ⟨_, rfl⟩
            have MV := Lib.hid HM.out
            have ML := Lib.hid (show (dels l t k).length ≤ nl by have := HNL.out; omega)
            have MG := Lib.hid (dels_good GD.out t k)
            have WV := Lib.hid HB.out
            have HPW := Lib.hid HPV.out
            rw [hml] at MV HPW ⊢
            clear hml HM MLn b0 b1 b2 b3
            have ck0 := CK.out
            have CI1 := Lib.hid (CI.out wr WV.out ck0)
            obtain ⟨b0, b1, b2, b3⟩ := BX.out wr WV.out
            clear ck0 CI
            go_upto_region 18 with (fail)
            go_wp2_with fail
            refine CI1.out.mono ?_
            rintro e wi ⟨rfl, hbi⟩
            have WI := Lib.hid (below_next WV.out WV.out.size hbi)
            have hsz := idD_size t
            obtain ⟨id, hid'⟩ : ∃ id, dd (wireS t false) = id := ⟨_, rfl⟩
            have HID := Lib.hid (show idD t = id from hid')
            rw [HID.out] at OY hsz
            rw [hid']
            have HSZ := Lib.hid hsz
            have MI := Lib.hid (show Co.Ents wi lo wi.heap.size (.slice Am ml cm) (dels l t k) from (MV.out.keep (Kept.of_below hbi (Nat.le_refl _))).wide (Nat.le_refl _) hbi.size)
            obtain ⟨P, hP⟩ : ∃ P, paysL id h t.outs 0 (dels l t k) = P := ⟨_, rfl⟩
            rw [hP] at OY
            have HP := Lib.hid hP
            clear b0 b1 b2 b3 hbi CI1 hid' hsz hP
            go_wp2_with fail
            go_loopg [16, 19] n2 (fun gg s16 s19 wr => ∃ (k : Nat) (m : List Co.EnD) (v : Value), k ≤ n2 ∧ n2 - k ≤ gg ∧ s16 = v ∧ s19 = .int .i64 (k : Int) ∧ Hid (Co.Ents wr lo wr.heap.size v m) ∧ Hid (Below w0.heap.size w0 wr) ∧ Hid (Co.Prov (.slice Al nl cl) w0.heap.size v) ∧ Hid (paysL id h (t.outs.drop k) k m = P ∧ Co.Good m ∧ m.length ≤ nl + k))
            case atStart => exact ⟨0, (dels l t k), (.slice Am ml cm), Nat.zero_le _, by omega, rfl, rfl, MI, WI, HPW, Lib.hid ⟨by rw [List.drop_zero]; exact HP.out, MG.out, by have := ML.out; omega⟩⟩
            case round =>
              obtain ⟨k, m, v, hk, hgk, rfl, rfl, HM, HB, HPV, HPK⟩ := hrel
              obtain ⟨Am, cm, rfl⟩ := HM.out.form
              obtain ⟨b0, b1, b2, b3⟩ := BX.out wr HB.out
              by_cases hlt : k < n2
              · have j1 : (k : Int) < (n2 : Int) := by omega
                have j2 : decide (k < n2) = true := decide_eq_true hlt
                have j3 : ¬ (k : Int) < 0 := by omega
                have v1 : IntKind.u32.wrap (k : Int) = k := by rw [IntWalk.u32_in _ (by omega)]
                obtain ⟨x, hx⟩ : ∃ x, t.outs[k]? = some x := ⟨_, List.getElem?_eq_getElem (by rw [HN.out.2]; exact hlt)⟩
                obtain ⟨bi, oi, hAi, p1, p2, c0, c1⟩ := (TX.out wr HB.out).2.at hx
                subst hAi
                have PG := Lib.hid (pays_go (id := id) (h := h) (l := m) hx)
                have PS := Lib.hid (pays_stop (id := id) (h := h) (l := m) hx)
                have XO := Lib.hid (outE_ok (h := h) (i := k) HSZ.out (by omega) (OK.out.2.2.2.1 x (List.mem_of_getElem? hx)) QQ.out.1 QQ.out.2)
                obtain ⟨xv, xs⟩ := x
                simp only at c0 c1
                have CP := Lib.hid (show Calls Tryz.prog 56 #[.slice Am m.length cm, .agg #[.string id, .int .u32 (k : Int)], .agg #[.int .i64 xv, .string xs, .int .i64 h]] wr _ from Co.rput_any Am _ cm m (outE id h k ⟨xv, xs⟩) wr lo wr.heap.size HM.out (Nat.le_refl _) (by have := HB.out.size; have := HI.out.2; have := Z0.out; omega) HPK.out.2.1 (by have := HPK.out.2.2; have := LL.out; omega))
                obtain ⟨pe, hpe⟩ : ∃ pe, Co.putE m (outE id h k ⟨xv, xs⟩) = pe := ⟨_, rfl⟩
                unfold Co.RputEnd at CP
                rw [hpe] at CP PG PS
                obtain ⟨ml, hml⟩ : ∃ n, m.length = n := ⟨_, rfl⟩
                rw [hml] at CP HPV ⊢
                have HML := Lib.hid hml
                clear hpe hx hml
                go_wp2_with fail
                refine CP.out.mono ?_
                rintro e w3 ⟨v3, rfl, he3, hb3, hp3⟩
                have M3 := Lib.hid he3
                have P3 := Lib.hid (HPV.out.next hp3 HB.out.size)
                have B3 := Lib.hid (below_next HB.out HB.out.size hb3)
                obtain ⟨A3, c3, rfl⟩ := he3.form
                clear b0 b1 b2 b3 c0 c1 he3 hb3 hp3 CP
                by_cases hz : pe = 0
                · have G := Lib.hid (PG.out hz)
                  subst hz
                  go_wp2_with fail
                  go_roundg (n2 - (k + 1))
                  case measure => omega
                  case rel => exact ⟨k + 1, _, _, by omega, by omega, rfl, by go_num, M3, B3, P3, Lib.hid ⟨G.out.symm.trans HPK.out.1, HPK.out.2.1.put XO.out, by have := Co.putL_len m (outE id h k ⟨xv, xs⟩); have := HPK.out.2.2; omega⟩⟩
                · have G := Lib.hid ((PS.out hz).symm.trans HPK.out.1)
                  have e1 : (pe != 0) = true := by simp [hz]
                  have HZ := Lib.hid hz
                  clear hz
                  go_wp2_with fail
                  go_ret3
                  refine OneEnd.no ?_ ?_ HZ.out (hp := .inl rfl) (by have := EN.out w3 B3.out; rw [← HNL.out] at this ⊢; exact this.wide (Nat.le_refl _) (by have := B3.out.size; have := HI.out.1; have := Z0.out; omega)) (B0.out.trans (B3.out.mono (by have := Z0.out; omega)))
                  · rw [OY.out, ← G.out]
                  · rw [OY.out]
              · have k2' : decide (k < n2) = false := decide_eq_false hlt
                have k3' : decide ((k : Int) < (n2 : Int)) = false := decide_eq_false (by omega)
                have k4' : ¬ (k : Int) < (n2 : Int) := by omega
                obtain rfl : k = n2 := by omega
                have G := Lib.hid ((pays_end (id := id) (h := h) (l := m) (xs := t.outs) (k := k) (by rw [HN.out.2]; exact Nat.le_refl _)).symm.trans HPK.out.1)
                obtain ⟨ml, hml⟩ : ∃ n, m.length = n := ⟨_, rfl⟩
                have M3 := Lib.hid HM.out
                rw [hml] at M3 HPV ⊢
                clear hml HM
                go_wp2_with fail
                go_ret3
                exact OneEnd.yes (by rw [OY.out, ← G.out]) M3.out (B0.out.trans (HB.out.mono (by have := Z0.out; omega))) (HPV.out.mono (by have := Z0.out; omega))
      · obtain HC := Lib.hid hc
        have E := Lib.hid (FN.out (by trivial) hc)
        have e1 : (F.code != 0) = true := by simp [hc]
        obtain ⟨fc, hfc⟩ : ∃ c, F.code = c := ⟨_, rfl⟩
        obtain ⟨fa, hfa⟩ : ∃ c, F.at_ = c := ⟨_, rfl⟩
        rw [hfc, hfa] at E
        rw [hfc] at HC e1
        rw [hfc, hfa]
        clear hc hfc hfa
        go_wp2_with fail
        go_ret3
        exact OneEnd.no (by rw [E.out]) (by rw [E.out]) HC.out (hp := .inl rfl) ((EN.out w2 W2.out).wide (Nat.le_refl _) (by have := W2.out.size; have := HI.out.1; have := Z0.out; omega)) (B0.out.trans (W2.out.mono (by have := Z0.out; omega)))

end Go.Proofs.YtnmfjnfdnjjngaaGreatDoor

namespace Go.Proofs.YtnmfjnfdnjjngaaGreatDoor
open Go.RowKit
set_option maxRecDepth 100000

/-- What the document's Apply answers. -/
def RapEnd (lo : Nat) (B : BlkA) (w : World) (e : Ending) (w' : World) : Prop :=
  ∃ v, e = .returned (.tuple #[v, .int .i64 B.code, .int .i64 B.at_, .int .i64 B.inn]) ∧ Co.Ents w' lo w'.heap.size v B.l ∧ Below w.heap.size w w'
theorem RapEnd.mk {lo : Nat} {B : BlkA} {w w' : World} {v : Value} {c a n : Int} {m : List Co.EnD} (hB : B = ⟨m, c, a, n⟩) (he : Co.Ents w' lo w'.heap.size v m) (hb : Below w.heap.size w w') :
    RapEnd lo B w (.returned (.tuple #[v, .int .i64 c, .int .i64 a, .int .i64 n])) w' := by
  subst hB
  exact ⟨v, rfl, he, hb⟩

set_option maxHeartbeats 4000000 in
theorem rap_any (Al : Option Addr) (cl : Nat) (l : List Co.EnD) (ts : List TxD) (h : Int) (At : Option Addr) (ct : Nat) (w : World) (lo hi lo2 hi2 : Nat) (hx : Co.Ents w lo hi (.slice Al l.length cl) l) (hhi : hi ≤ w.heap.size) (hlo : lo ≤ w.heap.size) (hg : Co.Good l) (ha : Co.Arg l)
    (ht : Txs w lo2 hi2 (.slice At ts.length ct) ts) (hhi2 : hi2 ≤ w.heap.size) (hok : ∀ t ∈ ts, t.Ok) (hlt : ts.length ≤ 100) (hlen : l.length + outsN ts ≤ 900) :
    Calls Tryz.prog 12 #[.slice Al l.length cl, .slice At ts.length ct, .int .i64 h] w (RapEnd lo (blkA l ts h) w) := by
  have EN := Lib.hid (fun V (hV : Below w.heap.size w V) => (hx.keep (Kept.of_below hV hhi)).wide (Nat.le_refl _) (show hi ≤ V.heap.size by have := hV.size; omega))
  have TX := Lib.hid (fun V (hV : Below w.heap.size w V) => (ht.keep (Kept.of_below hV hhi2)).wide (Nat.zero_le _) (show hi2 ≤ w.heap.size from hhi2))
  have HI := Lib.hid (And.intro hhi hlo)
  have GD := Lib.hid hg
  have AG := Lib.hid ha
  have OK := Lib.hid hok
  have LL := Lib.hid hlen
  obtain ⟨n, hne⟩ : ∃ n, ts.length = n := ⟨_, rfl⟩
  have HNE := Lib.hid hne
  rw [hne] at TX hlt ⊢
  obtain ⟨nl, hnl⟩ : ∃ n, l.length = n := ⟨_, rfl⟩
  have HNL := Lib.hid hnl
  rw [hnl] at EN ⊢
  have BR := Lib.hid (blk_range (l := l) (xs := ts) (h := h))
  have BO := Lib.hid (blk_ok (l := l) (xs := ts) (h := h))
  have BN := Lib.hid (blk_no (l := l) (xs := ts) (h := h))
  obtain ⟨B, hB⟩ : ∃ B, blkA l ts h = B := ⟨_, rfl⟩
  rw [hB] at BR BO BN ⊢
  clear hx hhi hlo hg ha ht hhi2 hok hlen hne hnl hB
  by_cases h1 : h < 0
  · have E := Lib.hid (BR.out (by rw [decide_eq_false (by omega : ¬ 0 ≤ h)]; rfl))
    go_enter Tryz.func12, Tryz.ntmps12
    go_wp2_with fail
    refine bodyPost_ret (v := .tuple #[.slice Al nl cl, .int .i64 3, .int .i64 (-1), .int .i64 (-1)]) (by simp [results, Tryz.results12, go_sem]) rfl ?_
    exact RapEnd.mk E.out (EN.out w (Below.refl _ _)) (Below.refl _ _)
  · by_cases h2 : h > 1000000
    · have h2' : 1000000 < h := h2
      have E := Lib.hid (BR.out (by rw [decide_eq_false (by omega : ¬ h ≤ 1000000)]; simp))
      go_enter Tryz.func12, Tryz.ntmps12
      go_wp2_with fail
      refine bodyPost_ret (v := .tuple #[.slice Al nl cl, .int .i64 3, .int .i64 (-1), .int .i64 (-1)]) (by simp [results, Tryz.results12, go_sem]) rfl ?_
      exact RapEnd.mk E.out (EN.out w (Below.refl _ _)) (Below.refl _ _)
    · have q1 : 0 ≤ h := by omega
      have q2 : h ≤ 1000000 := by omega
      have h2' : ¬ 1000000 < h := h2
      have QQ := Lib.hid (And.intro q1 q2)
      obtain ⟨P, hP⟩ : ∃ P, blkF h ts 0 l = P := ⟨_, rfl⟩
      have BO1 := Lib.hid (BO.out q1 q2)
      have BN1 := Lib.hid (BN.out q1 q2)
      rw [hP] at BO1 BN1
      have HP := Lib.hid hP
      clear BO BN BR hP q1 q2
      go_enter Tryz.func12, Tryz.ntmps12
      go_wp2_with fail
      go_loopg [10, 11] n (fun gg s10 s11 wr => ∃ (k : Nat) (m : List Co.EnD) (v : Value), k ≤ n ∧ n - k ≤ gg ∧ s10 = v ∧ s11 = .int .i64 (k : Int) ∧ Hid (Co.Ents wr lo wr.heap.size v m) ∧ Hid (Below w.heap.size w wr) ∧ Hid (blkF h (ts.drop k) k m = P ∧ Co.Good m ∧ Co.Arg m ∧ m.length + outsN (ts.drop k) ≤ 900))
      case atStart => exact ⟨0, l, _, Nat.zero_le _, by omega, rfl, rfl, Lib.hid (EN.out w (Below.refl _ _)), Lib.hid (Below.refl _ _), Lib.hid ⟨by rw [List.drop_zero]; exact HP.out, GD.out, AG.out, by rw [List.drop_zero]; exact LL.out⟩⟩
      case round =>
        obtain ⟨k, m, v, hk, hgk, rfl, rfl, HM, HB, HPK⟩ := hrel
        obtain ⟨Am, cm, rfl⟩ := HM.out.form
        have zwr := HB.out.size
        by_cases hlk : k < n
        · have j1 : (k : Int) < (n : Int) := by omega
          have j2 : decide (k < n) = true := decide_eq_true hlk
          have j3 : ¬ (k : Int) < 0 := by omega
          obtain ⟨t, hx⟩ : ∃ x, ts[k]? = some x := ⟨_, List.getElem?_eq_getElem (by rw [HNE.out]; exact hlk)⟩
          obtain ⟨bi, oi, rfl, g1, g2, c0, ⟨vi, vo, c1, c2, htx⟩, c3⟩ := (TX.out wr HB.out).at hx
          have hot := OK.out t (List.mem_of_getElem? hx)
          have HDR := Lib.hid (show outsN (ts.drop k) = t.outs.length + outsN (ts.drop (k + 1)) from by
            obtain ⟨hkk, he⟩ := List.getElem?_eq_some_iff.1 hx
            rw [List.drop_eq_getElem_cons hkk, he]
            simp [outsN])
          have CO := Lib.hid (rone_any Am cm m t k h vi vo wr lo wr.heap.size HM.out (Nat.le_refl _) (by have := HI.out.2; omega) HPK.out.2.1 (by have := HPK.out.2.2.2; rw [HDR.out] at this; omega) (htx.wide (Nat.le_refl _) zwr) hot QQ.out.1 QQ.out.2 (by omega))
          have BG := Lib.hid (blk_go (h := h) (l := m) hx)
          have BS := Lib.hid (blk_stop (h := h) (l := m) hx)
          have OKP := Lib.hid (one_keeps (first := k == 0) hot QQ.out.1 QQ.out.2 HPK.out.2.1 HPK.out.2.2.1)
          obtain ⟨O, hO⟩ : ∃ O, oneA m t (k == 0) h = O := ⟨_, rfl⟩
          rw [hO] at CO BG BS OKP
          obtain ⟨A1, m1, rfl⟩ := htx.1.form
          obtain ⟨A2, m2, rfl⟩ := htx.2.form
          obtain ⟨i1, hi1⟩ : ∃ i, t.ins.length = i := ⟨_, rfl⟩
          obtain ⟨o1, ho1⟩ : ∃ i, t.outs.length = i := ⟨_, rfl⟩
          rw [hi1, ho1] at CO
          rw [hi1] at c1
          rw [ho1] at c2
          have HOT := Lib.hid ho1
          obtain ⟨ml, hml⟩ : ∃ n, m.length = n := ⟨_, rfl⟩
          rw [hml] at CO ⊢
          clear hx htx hot hO hi1 ho1 hml
          go_wp2_with fail
          refine CO.out.mono ?_
          rintro e w3 ⟨v3, rfl, he3, hb3, _⟩
          have B3 := Lib.hid (below_next HB.out HB.out.size hb3)
          have HE := Lib.hid he3
          clear c0 c1 c2 c3 he3 hb3 CO
          obtain ⟨oc, hoc⟩ : ∃ c, O.code = c := ⟨_, rfl⟩
          obtain ⟨oi, hoi⟩ : ∃ c, O.inn = c := ⟨_, rfl⟩
          rw [hoc, hoi]
          rw [hoc] at HE BG BS
          rw [hoi] at BS
          by_cases hz : oc = 0
          · have G := Lib.hid (BG.out hz)
            subst hz
            have M3 := Lib.hid (show Co.Ents w3 lo w3.heap.size v3 O.l from by have := HE.out; rwa [if_pos rfl] at this)
            clear hoc hoi HE
            obtain ⟨A3, c3, rfl⟩ := M3.out.form
            go_wp2_with fail
            go_roundg (n - (k + 1))
            case measure => omega
            case rel => exact ⟨k + 1, O.l, _, by omega, by omega, rfl, by go_num, M3, B3, Lib.hid ⟨G.out.symm.trans HPK.out.1, OKP.out.1, OKP.out.2.1, by have h1 := OKP.out.2.2; have h2 := HPK.out.2.2.2; rw [HDR.out] at h2; omega⟩⟩
          · have e1 : (oc != 0) = true := by simp [hz]
            have G := Lib.hid ((BS.out hz).symm.trans HPK.out.1)
            have E := Lib.hid (show B = ⟨l, oc, (k : Int), oi⟩ from by rw [BN1.out (by rw [← G.out]; exact hz), ← G.out])
            clear hz hoc hoi HE
            go_wp2_with fail
            refine bodyPost_ret (v := .tuple #[.slice Al nl cl, .int .i64 oc, .int .i64 (k : Int), .int .i64 oi]) (by simp [results, Tryz.results12, go_sem]) rfl ?_
            exact RapEnd.mk E.out (EN.out w3 B3.out) B3.out
        · have k2' : decide (k < n) = false := decide_eq_false hlk
          have k3' : decide ((k : Int) < (n : Int)) = false := decide_eq_false (by omega)
          have k4' : ¬ (k : Int) < (n : Int) := by omega
          obtain rfl : k = n := by omega
          have G := Lib.hid ((blk_end (h := h) (xs := ts) (k := k) (l := m) (by rw [HNE.out]; exact Nat.le_refl _)).symm.trans HPK.out.1)
          have E := Lib.hid (show B = ⟨m, 0, -1, -1⟩ from by rw [BO1.out (by rw [← G.out]), ← G.out])
          have M3 := Lib.hid HM.out
          obtain ⟨ml, hml⟩ : ∃ n, m.length = n := ⟨_, rfl⟩
          rw [hml] at M3 ⊢
          clear hml HM
          go_wp2_with fail
          refine bodyPost_ret (v := .tuple #[.slice Am ml cm, .int .i64 0, .int .i64 (-1), .int .i64 (-1)]) (by simp [results, Tryz.results12, go_sem]) rfl ?_
          exact RapEnd.mk E.out M3.out HB.out

end Go.Proofs.YtnmfjnfdnjjngaaGreatDoor
