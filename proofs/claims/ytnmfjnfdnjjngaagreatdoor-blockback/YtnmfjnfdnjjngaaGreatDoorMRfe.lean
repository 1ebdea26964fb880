/-
  The fee of a transaction as the document reckons it.
-/
import Derived.Test.YtnmfjnfdnjjngaaGreatDoorMLop
import Derived.Test.YtnmfjnfdnjjngaaGreatDoorMSpb
import Derived.Test.YtnmfjnfdnjjngaaGreatDoorMRtk
import Derived.Test.YtnmfjnfdnjjngaaGreatDoorMRsg
import Derived.Test.YtnmfjnfdnjjngaaGreatDoorMPure
import Derived.OwnWalk
import Derived.Test.YtnmfjnfdnjjngaaGreatDoorMEre
import Derived.Test.YtnmfjnfdnjjngaaGreatDoorMSpt
import Derived.Test.YtnmfjnfdnjjngaaGreatDoorMIsp
import Derived.ProofKit
import Derived.OpenShut
import Derived.ShutString
import Derived.ChangeOld
import Derived.Lib.SmallJoins
import Derived.Deep.Slices
import Derived.Deep.Strs
import Derived.Test.YtnmfjnfdnjjngaaGreatDoorMErs
import Derived.Test.YtnmfjnfdnjjngaaGreatDoorRows
import Derived.LaidHandle
import Derived.LaidMore
import Derived.LaidLaws
import Derived.Stop.Joined
import Derived.MakeChecks
import Derived.WalkKit
import Derived.Below
import Derived.SizedLaws
import Derived.Handed
import Derived.Test.YtnmfjnfdnjjngaaGreatDoorMRlong
import Derived.Test.YtnmfjnfdnjjngaaGreatDoorMRchk
namespace Go.Proofs.YtnmfjnfdnjjngaaGreatDoor
open Go.RowKit
set_option maxRecDepth 100000

theorem base_first {t : TxD} (h : checkD t = 0) {x : InD} (hx : t.ins[0]? = some x) : isBase t.ins = baseB x.id x.ix := by
  by_cases h1 : t.ins.length = 1
  · obtain ⟨y, hy⟩ : ∃ y, t.ins = [y] := List.length_eq_one_iff.1 h1
    rw [hy] at hx ⊢
    injection hx with hx
    rw [← hx]
    rfl
  · rw [isBase_len h1]
    cases g1 : countsB t with
    | false => rw [checkD_count g1] at h; cases h
    | true =>
      cases g2 : longB t with
      | true => rw [checkD_long g1 g2] at h; cases h
      | false =>
        cases g3 : pointsB t.ins with
        | false => rw [checkD_form g1 g2 g3] at h; cases h
        | true =>
          unfold pointsB at g3
          simp only [Bool.not_eq_true'] at g3
          have := List.any_eq_false.1 g3 x (List.mem_of_getElem? hx)
          unfold amissB at this
          simp [h1] at this
          exact this.2.symm
/-- The values of what is spent. -/
def vlS (l : List Co.EnD) (xs : List InD) : List Int := xs.map (spV l)
theorem vlS_len (l : List Co.EnD) (xs : List InD) : (vlS l xs).length = xs.length := by simp [vlS]
theorem vlS_step {l : List Co.EnD} {xs : List InD} {k : Nat} {x : InD} (h : xs[k]? = some x) : ((vlS l xs).take (k + 1)).map (Value.int .i64) = ((vlS l xs).take k).map (Value.int .i64) ++ [.int .i64 (spV l x)] := by
  obtain ⟨hk, rfl⟩ := List.getElem?_eq_some_iff.1 h
  have hk' : k < (vlS l xs).length := by simpa [vlS] using hk
  rw [List.take_succ_eq_append_getElem hk']
  simp [vlS]
theorem sum_from : ∀ (zs : List Int) (s : Int), goodB s = true → (∀ z ∈ zs, 0 ≤ z ∧ z ≤ 2100000000000000) → sumFrom s zs = if goodB (s + zs.sum) = true then (s + zs.sum, 0) else (0, 3)
  | [], s, hs, _ => by simp [sumFrom, hs]
  | z :: r, s, hs, hz => by
    have h1 := hz z (by simp)
    have hr : 0 ≤ r.sum := by
      have : ∀ q : List Int, (∀ z ∈ q, 0 ≤ z) → 0 ≤ q.sum := fun q => by
        induction q with
        | nil => intro _; simp
        | cons a q ih => intro h; have := ih fun z hz => h z (by simp [hz]); have := h a (by simp); simp; omega
      exact this r fun y hy => (hz y (by simp [hy])).1
    have hg : goodB z = true := by simp [goodB, uptoB]; omega
    unfold sumFrom
    rw [addOk_of hs, hg, Bool.true_and, show s + (z :: r).sum = s + z + r.sum from by simp; omega]
    cases h2 : goodB (s + z) with
    | true =>
      rw [if_pos rfl]
      exact sum_from r _ h2 fun y hy => hz y (by simp [hy])
    | false =>
      rw [if_neg (by decide), if_neg]
      simp [goodB, uptoB] at h2 hs ⊢
      omega
theorem sum_vls {l : List Co.EnD} (hg : Co.Good l) (xs : List InD) : sumFrom 0 (vlS l xs) = if goodB (sumV l xs) = true then (sumV l xs, 0) else (0, 3) := by
  have := sum_from (vlS l xs) 0 (by decide) fun z hz => by
    obtain ⟨x, _, rfl⟩ := List.mem_map.1 hz
    exact spV_bd hg x
  rw [Int.zero_add] at this
  exact this
theorem own_below {w w' : World} {base n : Nat} {e : TypeId} {size : Nat} {v : Value} {xs : List Value} (h : w.ownsRow base e size v n xs) (hb : Below w.heap.size w w') : w'.ownsRow base e size v n xs :=
  ((Co.OwnAt.of_own h).keep (Co.StayE.of_below hb (Nat.le_refl _)) hb.size).1
theorem ret_ans {F : Ans} {a b c : Int} (h : F = ⟨a, b, c⟩) : Ending.returned (.tuple #[.int .i64 a, .int .i64 b, .int .i64 c]) = .returned (.tuple #[.int .i64 F.fee, .int .i64 F.code, .int .i64 F.at_]) := by rw [h]

set_option maxHeartbeats 4000000 in
theorem rfee_any (A : Option Addr) (c : Nat) (l : List Co.EnD) (t : TxD) (h : Int) (vi vo : Value) (w : World) (lo hi : Nat) (hx : Co.Ents w lo hi (.slice A l.length c) l) (hhi : hi ≤ w.heap.size) (hg : Co.Good l) (hl : l.length ≤ 900) (ht : TxAt w 0 w.heap.size vi vo t) (hok : t.Ok) :
    Calls Tryz.prog 53 #[.slice A l.length c, .agg #[.int .u32 t.ver, vi, vo, .int .u32 t.lock], .int .i64 h] w fun e w' => e = .returned (.tuple #[.int .i64 (feA l t h).fee, .int .i64 (feA l t h).code, .int .i64 (feA l t h).at_]) ∧ Below w.heap.size w w' := by
  obtain ⟨w0, hw0⟩ : ∃ w0, w0 = w.alloc (.cells #[.int .u32 t.ver, vi, vo, .int .u32 t.lock] 51) := ⟨_, rfl⟩
  have z0 : w0.heap.size = w.heap.size + 1 := by rw [hw0]; simp
  have hb0 : Below w.heap.size w w0 := by rw [hw0]; exact (Below.refl _ _).alloc (Nat.le_refl _) _
  obtain ⟨A1, m1, rfl⟩ := ht.1.form
  obtain ⟨A2, m2, rfl⟩ := ht.2.form
  have BX := Lib.hid (show Boxed w0 w.heap.size (.int .u32 t.ver) (.slice A1 t.ins.length m1) (.slice A2 t.outs.length m2) (.int .u32 t.lock) from by rw [hw0]; exact Boxed.new _ _ _ _ _ _)
  have HT := Lib.hid (ht.keep (Kept.of_below hb0 (Nat.le_refl _)))
  have HE := Lib.hid (hx.keep (Kept.of_below hb0 hhi))
  have B0 := Lib.hid hb0
  have HW0 := Lib.hid hw0
  have OKT := Lib.hid hok
  have GD := Lib.hid hg
  have HTV := Lib.hid (fun (V : World) (hV : Below w0.heap.size w0 V) => HT.out.keep (Kept.of_below hV (by omega)))
  have HEV := Lib.hid (fun (V : World) (hV : Below w0.heap.size w0 V) => HE.out.keep (Kept.of_below hV (by omega)))
  have CC := Lib.hid (rcheck_any t _ _ w0 0 w.heap.size HT.out (by omega) hok)
  have hn := hok.1
  clear ht hx hw0 hb0
  obtain ⟨i0, hi0, hz0, hz1, hz2⟩ := info_parts info3
  obtain ⟨b0, b1, b2, b3⟩ := BX.out
  obtain ⟨F, hF⟩ : ∃ F, feA l t h = F := ⟨_, rfl⟩
  rw [hF]
  have HF := Lib.hid hF
  obtain ⟨ck, hck⟩ : ∃ x, checkD t = x := ⟨_, rfl⟩
  rw [hck] at CC
  have HCK := Lib.hid hck
  clear hF hck
  go_enter Tryz.func53, Tryz.ntmps53
  go_upto_region 1 with (fail)
  rw [show World.alloc w _ = w0 from HW0.out.symm]
  go_wp2_with fail
  refine CC.out.mono ?_
  rintro e w1 ⟨rfl, hb1⟩
  have B1 := Lib.hid (B0.out.trans (hb1.mono (by omega)))
  have L1 := Lib.hid hb1
  clear b0 b1 b2 b3 hb1 CC
  by_cases hc : ck = 0
  · obtain rfl := hc
    have m1' := (check_ok HCK.out).1
    obtain ⟨x0, hx0⟩ : ∃ x, t.ins[0]? = some x := ⟨_, List.getElem?_eq_getElem (by omega)⟩
    obtain ⟨b0, b1, b2, b3⟩ := BX.out.below (by omega) L1.out
    obtain ⟨bi, oi, rfl, p1, p2, c0, c1, _⟩ := (HTV.out w1 L1.out).1.at hx0
    rw [show oi + 0 * 4 = oi from by omega] at c0 c1
    have CB := Lib.hid (rbase_any x0.id x0.ix w1)
    have BF := Lib.hid (base_first HCK.out hx0)
    obtain ⟨bs, hbs⟩ : ∃ b, isBase t.ins = b := ⟨_, rfl⟩
    rw [← BF.out, hbs] at CB
    have HBS := Lib.hid hbs
    have r7 : (0 : Int) < (t.ins.length : Int) := by omega
    have zl1 := L1.out.size
    obtain ⟨n, hne⟩ : ∃ n, t.ins.length = n := ⟨_, rfl⟩
    have HNE := Lib.hid hne
    rw [hne] at b1 hn r7 m1' BX ⊢
    clear hx0 hbs BF hne
    go_wp2_with fail
    refine CB.out.mono ?_
    rintro e w2 ⟨rfl, hb2⟩
    have B2 := Lib.hid (below_next B1.out B1.out.size hb2)
    have L2 := Lib.hid (below_next L1.out L1.out.size hb2)
    have zl2 := hb2.size
    clear hb2 b0 b1 b2 b3 c0 c1 CB
    cases bs with
    | true =>
      have FE := Lib.hid (HF.out.symm.trans (fe_base (l := l) (h := h) HCK.out HBS.out))
      go_wp2_with fail
      go_ret3
      exact ⟨ret_ans FE.out, B2.out⟩
    | false =>
      go_wp2_with fail
      go_loopg [11, 12] n (fun gg s11 s12 wr => ∃ k : Nat, k ≤ n ∧ n - k ≤ gg ∧ s12 = .int .i64 (k : Int) ∧ Hid (OkTo l t h k) ∧ Hid (wr.ownsRow w2.heap.size 3 1 s11 k (((vlS l t.ins).take k).map (Value.int .i64))) ∧ Hid (Below w2.heap.size w2 wr))
      case atStart => exact ⟨0, Nat.zero_le _, by omega, rfl, Lib.hid (OkTo.zero _ _ _), Lib.hid (by simpa using World.ownsRow_nil _ _ 3 1), Lib.hid (Below.refl _ _)⟩
      case round =>
        obtain ⟨k, hk, hgk, rfl, HO, HOWN, HB⟩ := hrel
        have zr := HB.out.size
        have LR := Lib.hid (below_next L2.out L2.out.size HB.out)
        have BR := Lib.hid (below_next B2.out B2.out.size HB.out)
        obtain ⟨b0, b1, b2, b3⟩ := BX.out.below (by omega) LR.out
        by_cases hlt : k < n
        · have j1 : (k : Int) < (n : Int) := by omega
          have j2 : decide (k < n) = true := decide_eq_true hlt
          have j3 : ¬ (k : Int) < 0 := by omega
          obtain ⟨x, hx⟩ : ∃ x, t.ins[k]? = some x := ⟨_, List.getElem?_eq_getElem (by rw [HNE.out]; exact hlt)⟩
          obtain ⟨_, oi', hAi, p1', p2', c0, c1, _⟩ := (HTV.out wr LR.out).1.at hx
          injection hAi with hAi
          injection hAi with hA1 hA2
          subst hA1 hA2
          have CF := Lib.hid (Co.rfind_any A l.length c l x.id x.ix wr lo hi (HEV.out wr LR.out) (by omega) (by omega))
          have HX := Lib.hid hx
          clear hx
          cases hh : Co.hasB l x.id x.ix with
          | false =>
            rw [Co.idx_none hh] at CF
            have FE := Lib.hid (HF.out.symm.trans ((fe_bad (l := l) (h := h) HCK.out HBS.out HO.out HX.out (by rw [spE_none hh]; decide)).trans (by rw [spE_none hh])))
            clear hh
            go_wp2_with fail
            refine CF.out.mono ?_
            rintro e w3 ⟨rfl, hb3⟩
            have B3 := Lib.hid (below_next BR.out BR.out.size hb3)
            go_wp2_with fail
            go_ret3
            exact ⟨ret_ans FE.out, B3.out⟩
          | true =>
            obtain ⟨q, hq1, hq2, _⟩ := Co.idx_some GD.out.srt hh
            rw [hq1] at CF
            have hql := (List.getElem?_eq_some_iff.1 hq2).1
            have HH := Lib.hid hh
            have HQ2 := Lib.hid hq2
            have q0 : ¬ (q : Int) < 0 := by omega
            have q1 : (q : Int) < (l.length : Int) := by omega
            have q2 : decide ((q : Int) < 0) = false := decide_eq_false q0
            have hsc := at_scr GD.out x.id x.ix
            clear hh hq1 hq2
            go_wp2_with fail
            refine CF.out.mono ?_
            rintro e w3 ⟨rfl, hb3⟩
            have L3 := Lib.hid (below_next LR.out LR.out.size hb3)
            have M3 := Lib.hid (below_next HB.out HB.out.size hb3)
            have zr3 := hb3.size
            have O3 := Lib.hid (own_below HOWN.out hb3)
            clear b0 b1 b2 b3 c0 c1 hb3 CF
            obtain ⟨be, oe, rfl, f1, f2, e0, e1, e2, e3, e4⟩ := (HEV.out w3 L3.out).at HQ2.out
            have SV := Lib.hid (show spV l x = (Co.atE l x.id x.ix).val from rfl)
            have E0 := Lib.hid (spE_open (l := l) (t := t) (h := h) HH.out)
            have E1 := Lib.hid (spE_ripe (l := l) (t := t) (h := h) HH.out)
            obtain ⟨y, hy⟩ : ∃ y, Co.atE l x.id x.ix = y := ⟨_, rfl⟩
            rw [hy] at SV E0 E1 e2 e3 e4 hsc
            obtain ⟨yi, yx, yv, ys, yt⟩ := y
            simp only at SV E0 E1 e2 e3 e4 hsc
            clear hy e0 e1 HQ2
            obtain ⟨w4, hw4⟩ : ∃ wa, wa = w3.alloc (.cells #[.int .i64 yv, .string ys, .int .i64 yt] 64) := ⟨_, rfl⟩
            have hb4 : Below w3.heap.size w3 w4 := by rw [hw4]; exact (Below.refl _ _).alloc (Nat.le_refl _) _
            have z4 : w4.heap.size = w3.heap.size + 1 := by rw [hw4]; simp
            have o0 : w4.cell? ⟨w3.heap.size, 0, none⟩ = some (.int .i64 yv) := by rw [hw4]; simp
            have o1 : w4.cell? ⟨w3.heap.size, 1, none⟩ = some (.string ys) := by rw [hw4]; simp
            have o2 : w4.cell? ⟨w3.heap.size, 2, none⟩ = some (.int .i64 yt) := by rw [hw4]; simp
            have L4 := Lib.hid (below_next L3.out L3.out.size hb4)
            have M4 := Lib.hid (below_next M3.out M3.out.size hb4)
            have O4 := Lib.hid (own_below O3.out hb4)
            have HW4 := Lib.hid hw4
            have CO := Lib.hid (ropen_any ys t (k : Int) _ _ w4 ((HTV.out w4 L4.out).wide (Nat.zero_le _) (by omega)) OKT.out hsc)
            rw [op_at HX.out] at CO
            obtain ⟨b0, b1, b2, b3⟩ := BX.out.below (by omega) L4.out
            rw [HNE.out] at CO
            clear hw4 hb4
            go_upto_region 15 with (fail)
            rw [show World.alloc w3 _ = w4 from HW4.out.symm]
            clear e2 e3 e4
            go_wp2_with fail
            refine CO.out.mono ?_
            rintro e w5 ⟨rfl, hb5⟩
            have L5 := Lib.hid (below_next L4.out L4.out.size hb5)
            have M5 := Lib.hid (below_next M4.out M4.out.size hb5)
            have O5 := Lib.hid (own_below O4.out hb5)
            have zr5 := hb5.size
            have B5 := Lib.hid (B0.out.trans (L5.out.mono (by omega)))
            have u0 := (hb5.cell (p := ⟨w3.heap.size, 0, none⟩) (by show w3.heap.size < _; omega)).trans o0
            have u2 := (hb5.cell (p := ⟨w3.heap.size, 2, none⟩) (by show w3.heap.size < _; omega)).trans o2
            clear b0 b1 b2 b3 hb5 o0 o1 o2 CO
            by_cases h0 : opX ys t x = 0
            · have hop : (opX ys t x != 0) = false := by simp [h0]
              have E2 := Lib.hid (E1.out h0)
              have CR := Lib.hid (rripe_any t (k : Int) yt h _ _ w5 ((HTV.out w5 L5.out).wide (Nat.zero_le _) (by omega)) OKT.out)
              rw [rp_at HX.out, HNE.out] at CR
              obtain ⟨b0, b1, b2, b3⟩ := BX.out.below (by omega) L5.out
              generalize (htB yt && htB h && rpX t x yt h) = r at CR E2
              clear E0 E1
              rw [h0]
              clear hop h0
              go_wp2_with fail
              refine CR.out.mono ?_
              rintro e w6 ⟨rfl, hb6⟩
              have L6 := Lib.hid (below_next L5.out L5.out.size hb6)
              have M6 := Lib.hid (below_next M5.out M5.out.size hb6)
              have O6 := Lib.hid (own_below O5.out hb6)
              have zr6 := hb6.size
              have B6 := Lib.hid (B0.out.trans (L6.out.mono (by omega)))
              have v0 := (hb6.cell (p := ⟨w3.heap.size, 0, none⟩) (by show w3.heap.size < _; omega)).trans u0
              clear b0 b1 b2 b3 hb6 u0 u2 CR
              cases r with
              | false =>
                have FE := Lib.hid (HF.out.symm.trans ((fe_bad (l := l) (h := h) HCK.out HBS.out HO.out HX.out (by rw [E2.out]; decide)).trans (by rw [E2.out])))
                go_wp2_with fail
                go_ret3
                exact ⟨ret_ans FE.out, B6.out⟩
              | true =>
                have ES := Lib.hid (E2.out.trans (if_neg (by decide)))
                have hs6 := M6.out.size
                go_wp2_with (at_builtin; refine wpList_append_own _ rfl _ _ 118 rfl w2.heap.size 3 i0 (.int .i64 0) 1 8 Tryz.underlying118 hi0 hz0 hz1 hz2 rfl (by decide) _ _ _ rfl (O6.out.alloc _) ⟨w6.heap.size, 0, none⟩ 1 1 [.int .i64 yv] rfl rfl (one_new _ _ _) (by intro u hu; simp at hu; subst hu; rfl) (by unfold maxLen; omega) (by omega) (by simp; omega) ?_; intro v' w7 hown' hgrow _)
                have BN := Lib.hid ((M6.out.alloc hs6 (.cells #[.int .i64 yv] 3)).grown hgrow (by simp; omega) (own_block O6.out))
                have OWN := Lib.hid hown'
                have VS := Lib.hid (vlS_step (l := l) HX.out)
                rw [SV.out] at VS
                clear hown' hgrow
                go_roundg (n - (k + 1))
                case measure => omega
                case rel => exact ⟨k + 1, by omega, by omega, by go_num, Lib.hid (HO.out.step HX.out ES.out), Lib.hid (by rw [VS.out]; exact OWN.out), BN⟩
            · have hop : (opX ys t x != 0) = true := by simp [h0]
              have FE := Lib.hid (HF.out.symm.trans ((fe_bad (l := l) (h := h) HCK.out HBS.out HO.out HX.out (by rw [E0.out h0]; exact h0)).trans (by rw [E0.out h0])))
              clear E0 E1 h0
              generalize opX ys t x = ox at hop FE ⊢
              go_wp2_with fail
              go_ret3
              exact ⟨ret_ans FE.out, B5.out⟩
        · have k2' : decide (k < n) = false := decide_eq_false hlt
          have k3' : ¬ (k : Int) < (n : Int) := by omega
          have k4' : decide ((k : Int) < (n : Int)) = false := decide_eq_false k3'
          obtain rfl : k = n := by omega
          have hlen : (vlS l t.ins).length = k := by rw [vlS_len]; exact HNE.out
          obtain ⟨A', c', rfl, hin⟩ := own_ints (zs := vlS l t.ins) (by have := HOWN.out; rw [← hlen, List.take_length] at this; exact this)
          have hs := rsum_any A' c' wr.heap.size (vlS l t.ins) wr hin (by rw [hlen]; unfold maxLen; omega)
          rw [hlen] at hs ⊢
          rw [sum_vls GD.out] at hs
          have OKn : OkTo l t h t.ins.length := by rw [HNE.out]; exact HO.out
          have FR := Lib.hid (fe_range (l := l) (h := h) HCK.out HBS.out OKn)
          have FV := Lib.hid (fe_value (l := l) (h := h) HCK.out HBS.out OKn)
          have FO := Lib.hid (fe_ok (l := l) (h := h) HCK.out HBS.out OKn)
          have sb := sumV_bd GD.out t.ins
          rw [HNE.out] at sb
          have td := total_fits t.outs
          have CT := Lib.hid (rtotal_any t (.slice (some ⟨bi, oi, none⟩) k m1) (.slice A2 t.outs.length m2) wr 0 w.heap.size (HTV.out wr LR.out).2 (by omega) OKT.out.2.1)
          generalize sumV l t.ins = sv at *
          generalize (totalD t.outs).1 = tt at *
          generalize (totalD t.outs).2 = te at *
          clear hlen hin OKn
          cases hgs : goodB sv with
          | false =>
            rw [hgs, if_neg (by decide)] at hs
            have HS := Lib.hid hs
            have FE := Lib.hid (HF.out.symm.trans (FR.out hgs))
            clear hs hgs
            go_wp2_with fail
            refine HS.out.mono ?_
            rintro e w' ⟨rfl, rfl⟩
            go_wp2_with fail
            go_ret3
            exact ⟨ret_ans FE.out, BR.out⟩
          | true =>
            rw [hgs, if_pos rfl] at hs
            have HS := Lib.hid hs
            have FV1 := Lib.hid (FV.out hgs)
            have FO1 := Lib.hid (FO.out hgs)
            clear hs hgs
            go_wp2_with fail
            refine HS.out.mono ?_
            rintro e w' ⟨rfl, rfl⟩
            go_wp2_with fail
            refine CT.out.mono ?_
            rintro e w8 ⟨rfl, hb8⟩
            have B8 := Lib.hid (below_next BR.out BR.out.size hb8)
            clear hb8 b0 b1 b2 b3
            by_cases hv : sv < tt
            · have FE := Lib.hid (HF.out.symm.trans (FV1.out hv))
              go_wp2_with fail
              go_ret3
              exact ⟨ret_ans FE.out, B8.out⟩
            · have FE := Lib.hid (HF.out.symm.trans (FO1.out (by omega)))
              have hwr : IntKind.i64.wrap (sv - tt) = sv - tt := by rw [IntWalk.i64_in _ (by omega)]
              go_wp2_with fail
              go_ret3
              exact ⟨ret_ans FE.out, B8.out⟩
  · have hcn : (ck != 0) = true := by simp [hc]
    have FE := Lib.hid (HF.out.symm.trans (fe_check (l := l) (h := h) (by rw [HCK.out]; exact hc)))
    rw [HCK.out] at FE
    clear hc
    go_wp2_with fail
    go_ret3
    exact ⟨ret_ans FE.out, B1.out⟩
/-- api.Code of an error. -/
theorem code_err {lo : Nat} {w : World} {v : Value} {c a : Int} (h : ErrV lo w v c a) (hg : ErrDoor w) : Calls Tryz.prog 13 #[v] w fun e w' => e = .returned (.int .i64 c) ∧ Below w.heap.size w w' := by
  rcases h with ⟨rfl, _, rfl⟩ | ⟨_, _, rfl⟩ | ⟨_, _, b, rfl, _, _, _, h5⟩
  · exact code_nil w
  · exact code_num c w hg
  · exact code_fault b 0 c w hg h5
theorem ErrV.fault {lo : Nat} {w : World} {v : Value} {c a : Int} (h : ErrV lo w v c a) (hc : c ≠ 0) : ∃ T x, v = .iface T x ∧ (T = 38 ∨ T = 92) := by
  rcases h with ⟨h, _⟩ | ⟨_, _, rfl⟩ | ⟨_, _, b, rfl, _⟩
  · exact absurd h hc
  · exact ⟨_, _, rfl, .inl rfl⟩
  · exact ⟨_, _, rfl, .inr rfl⟩
theorem ErrV.none {lo : Nat} {w : World} {v : Value} {a : Int} (h : ErrV lo w v 0 a) : v = .nilIface := by
  rcases h with ⟨_, _, h⟩ | ⟨h, _⟩ | ⟨h, _⟩
  · exact h
  · exact absurd rfl h
  · exact absurd rfl h

end Go.Proofs.YtnmfjnfdnjjngaaGreatDoor
