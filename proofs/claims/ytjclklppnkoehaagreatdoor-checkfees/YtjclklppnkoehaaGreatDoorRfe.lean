/-
  The document's Fee.
  The statement CheckFees, walked.
  What the statements of layer 11 are given: how it comes in.
  The package-level variable errors.errorType: what the rows say of it, as the walks want it; and a start at which it stands.
  Proved: for every input the statement CheckFees answers true and leaves its arguments as they were. Conditions: the package-level variable errors.errorType holds when the call begins what the program's text lays in it (the card ties that to the text of the pruned copy).
-/
import Derived.Test.YtjclklppnkoehaaGreatDoorFem
import Derived.Test.YtjclklppnkoehaaGreatDoorSpb
import Derived.Test.YtjclklppnkoehaaGreatDoorAll
import Derived.Test.YtjclklppnkoehaaGreatDoorRlong
import Derived.Test.YtjclklppnkoehaaGreatDoorRopn
import Derived.Test.YtjclklppnkoehaaGreatDoorRrip
import Derived.Test.YtjclklppnkoehaaGreatDoorTotal
import Derived.OwnWalk
import Derived.Test.YtjclklppnkoehaaGreatDoorEre
import Derived.Test.YtjclklppnkoehaaGreatDoorSpt
import Derived.Test.YtjclklppnkoehaaGreatDoorIsp
import Derived.Test.YtjclklppnkoehaaGreatDoorHld
import Derived.Test.YtjclklppnkoehaaGreatDoorMad
import Derived.Test.YtjclklppnkoehaaGreatDoorTka
import Derived.Test.YtjclklppnkoehaaGreatDoorJob
import Derived.ProofKit
import Derived.OpenShut
import Derived.ShutString
import Derived.ChangeOld
import Derived.Lib.SmallJoins
import Derived.Deep.Slices
import Derived.Deep.Strs
import Derived.Test.YtjclklppnkoehaaGreatDoorErs
import Derived.Test.YtjclklppnkoehaaGreatDoorRows
import Derived.LaidHandle
import Derived.LaidMore
import Derived.LaidLaws
import Derived.Stop.Joined
import Derived.MakeChecks
import Derived.WalkKit
import Derived.Below
import Derived.SizedLaws
import Derived.Handed
import Derived.SevenTiedAt
import Derived.Test.YtjclklppnkoehaaGreatDoorCards
import Derived.Test.YtjclklppnkoehaaGreatDoorTie

namespace Go.Proofs.YtjclklppnkoehaaGreatDoor
open Go.RowKit
set_option maxRecDepth 100000

theorem check_ok {t : TxD} (h : checkD t = 0) : 1 ≤ t.ins.length ∧ twiceB t.ins = false ∧ (totalD t.outs).2 = 0 := by
  cases h1 : countsB t with
  | false => rw [checkD_count h1] at h; cases h
  | true =>
    cases h2 : longB t with
    | true => rw [checkD_long h1 h2] at h; cases h
    | false =>
      cases h3 : pointsB t.ins with
      | false => rw [checkD_form h1 h2 h3] at h; cases h
      | true =>
        cases h4 : twiceB t.ins with
        | true => rw [checkD_twice h1 h2 h3 h4] at h; cases h
        | false =>
          rw [checkD_range h1 h2 h3 h4] at h
          refine ⟨?_, rfl, h⟩
          unfold countsB at h1
          simp only [Bool.and_eq_true] at h1
          have := h1.1.1
          unfold inR at this
          simp only [Bool.and_eq_true, decide_eq_true_eq] at this
          omega
theorem base_first {t : TxD} (h : checkD t = 0) {x : InD} (hx : t.ins[0]? = some x) : isBase t.ins = baseB x.id x.ix := by
  by_cases h1 : t.ins.length = 1
  · obtain ⟨y, hy⟩ : ∃ y, t.ins = [y] := List.length_eq_one_iff.1 h1
    rw [hy] at hx ⊢
    injection hx with hx
    rw [← hx]
    rfl
  · rw [isBase_len h1]
    cases g1 : countsB t with
    | false => rw [checkD_count g1] at h; cases h
    | true =>
      cases g2 : longB t with
      | true => rw [checkD_long g1 g2] at h; cases h
      | false =>
        cases g3 : pointsB t.ins with
        | false => rw [checkD_form g1 g2 g3] at h; cases h
        | true =>
          unfold pointsB at g3
          simp only [Bool.not_eq_true'] at g3
          have := List.any_eq_false.1 g3 x (List.mem_of_getElem? hx)
          unfold amissB at this
          simp [h1] at this
          exact this.2.symm
/-- The values of what is spent. -/
def vlS (l : List Co.EnD) (xs : List InD) : List Int := xs.map (spV l)
theorem vlS_len (l : List Co.EnD) (xs : List InD) : (vlS l xs).length = xs.length := by simp [vlS]
theorem vlS_step {l : List Co.EnD} {xs : List InD} {k : Nat} {x : InD} (h : xs[k]? = some x) : ((vlS l xs).take (k + 1)).map (Value.int .i64) = ((vlS l xs).take k).map (Value.int .i64) ++ [.int .i64 (spV l x)] := by
  obtain ⟨hk, rfl⟩ := List.getElem?_eq_some_iff.1 h
  have hk' : k < (vlS l xs).length := by simpa [vlS] using hk
  rw [List.take_succ_eq_append_getElem hk']
  simp [vlS]
theorem sum_from : ∀ (zs : List Int) (s : Int), goodB s = true → (∀ z ∈ zs, 0 ≤ z ∧ z ≤ 2100000000000000) → sumFrom s zs = if goodB (s + zs.sum) = true then (s + zs.sum, 0) else (0, 3)
  | [], s, hs, _ => by simp [sumFrom, hs]
  | z :: r, s, hs, hz => by
    have h1 := hz z (by simp)
    have hr : 0 ≤ r.sum := by
      have : ∀ q : List Int, (∀ z ∈ q, 0 ≤ z) → 0 ≤ q.sum := fun q => by
        induction q with
        | nil => intro _; simp
        | cons a q ih => intro h; have := ih fun z hz => h z (by simp [hz]); have := h a (by simp); simp; omega
      exact this r fun y hy => (hz y (by simp [hy])).1
    have hg : goodB z = true := by simp [goodB, uptoB]; omega
    unfold sumFrom
    rw [addOk_of hs, hg, Bool.true_and, show s + (z :: r).sum = s + z + r.sum from by simp; omega]
    cases h2 : goodB (s + z) with
    | true =>
      rw [if_pos rfl]
      exact sum_from r _ h2 fun y hy => hz y (by simp [hy])
    | false =>
      rw [if_neg (by decide), if_neg]
      simp [goodB, uptoB] at h2 hs ⊢
      omega
theorem sum_vls {l : List Co.EnD} (hg : Co.Good l) (xs : List InD) : sumFrom 0 (vlS l xs) = if goodB (sumV l xs) = true then (sumV l xs, 0) else (0, 3) := by
  have := sum_from (vlS l xs) 0 (by decide) fun z hz => by
    obtain ⟨x, _, rfl⟩ := List.mem_map.1 hz
    exact spV_bd hg x
  rw [Int.zero_add] at this
  exact this
theorem own_below {w w' : World} {base n : Nat} {e : TypeId} {size : Nat} {v : Value} {xs : List Value} (h : w.ownsRow base e size v n xs) (hb : Below w.heap.size w w') : w'.ownsRow base e size v n xs :=
  ((Co.OwnAt.of_own h).keep (Co.StayE.of_below hb (Nat.le_refl _)) hb.size).1
theorem ret_ans {F : Ans} {a b c : Int} (h : F = ⟨a, b, c⟩) : Ending.returned (.tuple #[.int .i64 a, .int .i64 b, .int .i64 c]) = .returned (.tuple #[.int .i64 F.fee, .int .i64 F.code, .int .i64 F.at_]) := by rw [h]

set_option maxHeartbeats 4000000 in
theorem rfee_any (A : Option Addr) (c : Nat) (l : List Co.EnD) (t : TxD) (h : Int) (vi vo : Value) (w : World) (lo hi : Nat) (hx : Co.Ents w lo hi (.slice A l.length c) l) (hhi : hi ≤ w.heap.size) (hg : Co.Good l) (hl : l.length ≤ 8) (ht : TxAt w 0 w.heap.size vi vo t) (hok : t.Ok) :
    Calls Tryz.prog 7 #[.slice A l.length c, .agg #[.int .u32 t.ver, vi, vo, .int .u32 t.lock], .int .i64 h] w fun e w' => e = .returned (.tuple #[.int .i64 (feA l t h).fee, .int .i64 (feA l t h).code, .int .i64 (feA l t h).at_]) ∧ Below w.heap.size w w' := by
  obtain ⟨w0, hw0⟩ : ∃ w0, w0 = w.alloc (.cells #[.int .u32 t.ver, vi, vo, .int .u32 t.lock] 34) := ⟨_, rfl⟩
  have z0 : w0.heap.size = w.heap.size + 1 := by rw [hw0]; simp
  have hb0 : Below w.heap.size w w0 := by rw [hw0]; exact (Below.refl _ _).alloc (Nat.le_refl _) _
  obtain ⟨A1, m1, rfl⟩ := ht.1.form
  obtain ⟨A2, m2, rfl⟩ := ht.2.form
  have BX := Lib.hid (show Boxed w0 w.heap.size (.int .u32 t.ver) (.slice A1 t.ins.length m1) (.slice A2 t.outs.length m2) (.int .u32 t.lock) from by rw [hw0]; exact Boxed.new _ _ _ _ _ _)
  have HT := Lib.hid (ht.keep (Kept.of_below hb0 (Nat.le_refl _)))
  have HE := Lib.hid (hx.keep (Kept.of_below hb0 hhi))
  have B0 := Lib.hid hb0
  have HW0 := Lib.hid hw0
  have OKT := Lib.hid hok
  have GD := Lib.hid hg
  have HTV := Lib.hid (fun (V : World) (hV : Below w0.heap.size w0 V) => HT.out.keep (Kept.of_below hV (by omega)))
  have HEV := Lib.hid (fun (V : World) (hV : Below w0.heap.size w0 V) => HE.out.keep (Kept.of_below hV (by omega)))
  have CC := Lib.hid (rcheck_any t _ _ w0 0 w.heap.size HT.out (by omega) hok)
  have hn := hok.1
  clear ht hx hw0 hb0
  obtain ⟨i0, hi0, hz0, hz1, hz2⟩ := info_parts info3
  obtain ⟨b0, b1, b2, b3⟩ := BX.out
  obtain ⟨F, hF⟩ : ∃ F, feA l t h = F := ⟨_, rfl⟩
  rw [hF]
  have HF := Lib.hid hF
  obtain ⟨ck, hck⟩ : ∃ x, checkD t = x := ⟨_, rfl⟩
  rw [hck] at CC
  have HCK := Lib.hid hck
  clear hF hck
  go_enter Tryz.func7, Tryz.ntmps7
  go_upto_region 1 with (fail)
  rw [show World.alloc w _ = w0 from HW0.out.symm]
  go_wp2_with fail
  refine CC.out.mono ?_
  rintro e w1 ⟨rfl, hb1⟩
  have B1 := Lib.hid (B0.out.trans (hb1.mono (by omega)))
  have L1 := Lib.hid hb1
  clear b0 b1 b2 b3 hb1 CC
  by_cases hc : ck = 0
  · obtain rfl := hc
    have m1' := (check_ok HCK.out).1
    obtain ⟨x0, hx0⟩ : ∃ x, t.ins[0]? = some x := ⟨_, List.getElem?_eq_getElem (by omega)⟩
    obtain ⟨b0, b1, b2, b3⟩ := BX.out.below (by omega) L1.out
    obtain ⟨bi, oi, rfl, p1, p2, c0, c1, _⟩ := (HTV.out w1 L1.out).1.at hx0
    rw [show oi + 0 * 4 = oi from by omega] at c0 c1
    have CB := Lib.hid (rbase_any x0.id x0.ix w1)
    have BF := Lib.hid (base_first HCK.out hx0)
    obtain ⟨bs, hbs⟩ : ∃ b, isBase t.ins = b := ⟨_, rfl⟩
    rw [← BF.out, hbs] at CB
    have HBS := Lib.hid hbs
    have r7 : (0 : Int) < (t.ins.length : Int) := by omega
    have zl1 := L1.out.size
    obtain ⟨n, hne⟩ : ∃ n, t.ins.length = n := ⟨_, rfl⟩
    have HNE := Lib.hid hne
    rw [hne] at b1 hn r7 m1' BX ⊢
    clear hx0 hbs BF hne
    go_wp2_with fail
    refine CB.out.mono ?_
    rintro e w2 ⟨rfl, hb2⟩
    have B2 := Lib.hid (below_next B1.out B1.out.size hb2)
    have L2 := Lib.hid (below_next L1.out L1.out.size hb2)
    have zl2 := hb2.size
    clear hb2 b0 b1 b2 b3 c0 c1 CB
    cases bs with
    | true =>
      have FE := Lib.hid (HF.out.symm.trans (fe_base (l := l) (h := h) HCK.out HBS.out))
      go_wp2_with fail
      go_ret3
      exact ⟨ret_ans FE.out, B2.out⟩
    | false =>
      go_wp2_with fail
      go_loopg [11, 12] n (fun gg s11 s12 wr => ∃ k : Nat, k ≤ n ∧ n - k ≤ gg ∧ s12 = .int .i64 (k : Int) ∧ Hid (OkTo l t h k) ∧ Hid (wr.ownsRow w2.heap.size 3 1 s11 k (((vlS l t.ins).take k).map (Value.int .i64))) ∧ Hid (Below w2.heap.size w2 wr))
      case atStart => exact ⟨0, Nat.zero_le _, by omega, rfl, Lib.hid (OkTo.zero _ _ _), Lib.hid (by simpa using World.ownsRow_nil _ _ 3 1), Lib.hid (Below.refl _ _)⟩
      case round =>
        obtain ⟨k, hk, hgk, rfl, HO, HOWN, HB⟩ := hrel
        have zr := HB.out.size
        have LR := Lib.hid (below_next L2.out L2.out.size HB.out)
        have BR := Lib.hid (below_next B2.out B2.out.size HB.out)
        obtain ⟨b0, b1, b2, b3⟩ := BX.out.below (by omega) LR.out
        by_cases hlt : k < n
        · have j1 : (k : Int) < (n : Int) := by omega
          have j2 : decide (k < n) = true := decide_eq_true hlt
          have j3 : ¬ (k : Int) < 0 := by omega
          obtain ⟨x, hx⟩ : ∃ x, t.ins[k]? = some x := ⟨_, List.getElem?_eq_getElem (by rw [HNE.out]; exact hlt)⟩
          obtain ⟨_, oi', hAi, p1', p2', c0, c1, _⟩ := (HTV.out wr LR.out).1.at hx
          injection hAi with hAi
          injection hAi with hA1 hA2
          subst hA1 hA2
          have CF := Lib.hid (Co.rfind_any A l.length c l x.id x.ix wr lo hi (HEV.out wr LR.out) (by omega) (by omega))
          have HX := Lib.hid hx
          clear hx
          cases hh : Co.hasB l x.id x.ix with
          | false =>
            rw [Co.idx_none hh] at CF
            have FE := Lib.hid (HF.out.symm.trans ((fe_bad (l := l) (h := h) HCK.out HBS.out HO.out HX.out (by rw [spE_none hh]; decide)).trans (by rw [spE_none hh])))
            clear hh
            go_wp2_with fail
            refine CF.out.mono ?_
            rintro e w3 ⟨rfl, hb3⟩
            have B3 := Lib.hid (below_next BR.out BR.out.size hb3)
            go_wp2_with fail
            go_ret3
            exact ⟨ret_ans FE.out, B3.out⟩
          | true =>
            obtain ⟨q, hq1, hq2, _⟩ := Co.idx_some GD.out.srt hh
            rw [hq1] at CF
            have hql := (List.getElem?_eq_some_iff.1 hq2).1
            have HH := Lib.hid hh
            have HQ2 := Lib.hid hq2
            have q0 : ¬ (q : Int) < 0 := by omega
            have q1 : (q : Int) < (l.length : Int) := by omega
            have q2 : decide ((q : Int) < 0) = false := decide_eq_false q0
            have hsc := at_scr GD.out x.id x.ix
            clear hh hq1 hq2
            go_wp2_with fail
            refine CF.out.mono ?_
            rintro e w3 ⟨rfl, hb3⟩
            have L3 := Lib.hid (below_next LR.out LR.out.size hb3)
            have M3 := Lib.hid (below_next HB.out HB.out.size hb3)
            have zr3 := hb3.size
            have O3 := Lib.hid (own_below HOWN.out hb3)
            clear b0 b1 b2 b3 c0 c1 hb3 CF
            obtain ⟨be, oe, rfl, f1, f2, e0, e1, e2, e3, e4⟩ := (HEV.out w3 L3.out).at HQ2.out
            have SV := Lib.hid (show spV l x = (Co.atE l x.id x.ix).val from rfl)
            have E0 := Lib.hid (spE_open (l := l) (t := t) (h := h) HH.out)
            have E1 := Lib.hid (spE_ripe (l := l) (t := t) (h := h) HH.out)
            obtain ⟨y, hy⟩ : ∃ y, Co.atE l x.id x.ix = y := ⟨_, rfl⟩
            rw [hy] at SV E0 E1 e2 e3 e4 hsc
            obtain ⟨yi, yx, yv, ys, yt⟩ := y
            simp only at SV E0 E1 e2 e3 e4 hsc
            clear hy e0 e1 HQ2
            obtain ⟨w4, hw4⟩ : ∃ wa, wa = w3.alloc (.cells #[.int .i64 yv, .string ys, .int .i64 yt] 61) := ⟨_, rfl⟩
            have hb4 : Below w3.heap.size w3 w4 := by rw [hw4]; exact (Below.refl _ _).alloc (Nat.le_refl _) _
            have z4 : w4.heap.size = w3.heap.size + 1 := by rw [hw4]; simp
            have o0 : w4.cell? ⟨w3.heap.size, 0, none⟩ = some (.int .i64 yv) := by rw [hw4]; simp
            have o1 : w4.cell? ⟨w3.heap.size, 1, none⟩ = some (.string ys) := by rw [hw4]; simp
            have o2 : w4.cell? ⟨w3.heap.size, 2, none⟩ = some (.int .i64 yt) := by rw [hw4]; simp
            have L4 := Lib.hid (below_next L3.out L3.out.size hb4)
            have M4 := Lib.hid (below_next M3.out M3.out.size hb4)
            have O4 := Lib.hid (own_below O3.out hb4)
            have HW4 := Lib.hid hw4
            have CO := Lib.hid (ropen_any ys t (k : Int) _ _ w4 ((HTV.out w4 L4.out).wide (Nat.zero_le _) (by omega)) OKT.out hsc)
            rw [op_at HX.out] at CO
            obtain ⟨b0, b1, b2, b3⟩ := BX.out.below (by omega) L4.out
            rw [HNE.out] at CO
            clear hw4 hb4
            go_upto_region 15 with (fail)
            rw [show World.alloc w3 _ = w4 from HW4.out.symm]
            clear e2 e3 e4
            go_wp2_with fail
            refine CO.out.mono ?_
            rintro e w5 ⟨rfl, hb5⟩
            have L5 := Lib.hid (below_next L4.out L4.out.size hb5)
            have M5 := Lib.hid (below_next M4.out M4.out.size hb5)
            have O5 := Lib.hid (own_below O4.out hb5)
            have zr5 := hb5.size
            have B5 := Lib.hid (B0.out.trans (L5.out.mono (by omega)))
            have u0 := (hb5.cell (p := ⟨w3.heap.size, 0, none⟩) (by show w3.heap.size < _; omega)).trans o0
            have u2 := (hb5.cell (p := ⟨w3.heap.size, 2, none⟩) (by show w3.heap.size < _; omega)).trans o2
            clear b0 b1 b2 b3 hb5 o0 o1 o2 CO
            by_cases h0 : opX ys t x = 0
            · have hop : (opX ys t x != 0) = false := by simp [h0]
              have E2 := Lib.hid (E1.out h0)
              have CR := Lib.hid (rripe_any t (k : Int) yt h _ _ w5 ((HTV.out w5 L5.out).wide (Nat.zero_le _) (by omega)) OKT.out)
              rw [rp_at HX.out, HNE.out] at CR
              obtain ⟨b0, b1, b2, b3⟩ := BX.out.below (by omega) L5.out
              generalize (htB yt && htB h && rpX t x yt h) = r at CR E2
              clear E0 E1
              rw [h0]
              clear hop h0
              go_wp2_with fail
              refine CR.out.mono ?_
              rintro e w6 ⟨rfl, hb6⟩
              have L6 := Lib.hid (below_next L5.out L5.out.size hb6)
              have M6 := Lib.hid (below_next M5.out M5.out.size hb6)
              have O6 := Lib.hid (own_below O5.out hb6)
              have zr6 := hb6.size
              have B6 := Lib.hid (B0.out.trans (L6.out.mono (by omega)))
              have v0 := (hb6.cell (p := ⟨w3.heap.size, 0, none⟩) (by show w3.heap.size < _; omega)).trans u0
              clear b0 b1 b2 b3 hb6 u0 u2 CR
              cases r with
              | false =>
                have FE := Lib.hid (HF.out.symm.trans ((fe_bad (l := l) (h := h) HCK.out HBS.out HO.out HX.out (by rw [E2.out]; decide)).trans (by rw [E2.out])))
                go_wp2_with fail
                go_ret3
                exact ⟨ret_ans FE.out, B6.out⟩
              | true =>
                have ES := Lib.hid (E2.out.trans (if_neg (by decide)))
                have hs6 := M6.out.size
                go_wp2_with (at_builtin; refine wpList_append_own _ rfl _ _ 36 rfl w2.heap.size 3 i0 (.int .i64 0) 1 8 Tryz.underlying36 hi0 hz0 hz1 hz2 rfl (by decide) _ _ _ rfl (O6.out.alloc _) ⟨w6.heap.size, 0, none⟩ 1 1 [.int .i64 yv] rfl rfl (one_new _ _ _) (by intro u hu; simp at hu; subst hu; rfl) (by unfold maxLen; omega) (by omega) (by simp; omega) ?_; intro v' w7 hown' hgrow _)
                have BN := Lib.hid ((M6.out.alloc hs6 (.cells #[.int .i64 yv] 3)).grown hgrow (by simp; omega) (own_block O6.out))
                have OWN := Lib.hid hown'
                have VS := Lib.hid (vlS_step (l := l) HX.out)
                rw [SV.out] at VS
                clear hown' hgrow
                go_roundg (n - (k + 1))
                case measure => omega
                case rel => exact ⟨k + 1, by omega, by omega, by go_num, Lib.hid (HO.out.step HX.out ES.out), Lib.hid (by rw [VS.out]; exact OWN.out), BN⟩
            · have hop : (opX ys t x != 0) = true := by simp [h0]
              have FE := Lib.hid (HF.out.symm.trans ((fe_bad (l := l) (h := h) HCK.out HBS.out HO.out HX.out (by rw [E0.out h0]; exact h0)).trans (by rw [E0.out h0])))
              clear E0 E1 h0
              generalize opX ys t x = ox at hop FE ⊢
              go_wp2_with fail
              go_ret3
              exact ⟨ret_ans FE.out, B5.out⟩
        · have k2' : decide (k < n) = false := decide_eq_false hlt
          have k3' : ¬ (k : Int) < (n : Int) := by omega
          have k4' : decide ((k : Int) < (n : Int)) = false := decide_eq_false k3'
          obtain rfl : k = n := by omega
          have hlen : (vlS l t.ins).length = k := by rw [vlS_len]; exact HNE.out
          obtain ⟨A', c', rfl, hin⟩ := own_ints (zs := vlS l t.ins) (by have := HOWN.out; rw [← hlen, List.take_length] at this; exact this)
          have hs := rsum_any A' c' wr.heap.size (vlS l t.ins) wr hin (by rw [hlen]; unfold maxLen; omega)
          rw [hlen] at hs ⊢
          rw [sum_vls GD.out] at hs
          have OKn : OkTo l t h t.ins.length := by rw [HNE.out]; exact HO.out
          have FR := Lib.hid (fe_range (l := l) (h := h) HCK.out HBS.out OKn)
          have FV := Lib.hid (fe_value (l := l) (h := h) HCK.out HBS.out OKn)
          have FO := Lib.hid (fe_ok (l := l) (h := h) HCK.out HBS.out OKn)
          have sb := sumV_bd GD.out t.ins
          rw [HNE.out] at sb
          have td := total_fits t.outs
          have CT := Lib.hid (rtotal_any t (.slice (some ⟨bi, oi, none⟩) k m1) (.slice A2 t.outs.length m2) wr 0 w.heap.size (HTV.out wr LR.out).2 (by omega) OKT.out.2.1)
          generalize sumV l t.ins = sv at *
          generalize (totalD t.outs).1 = tt at *
          generalize (totalD t.outs).2 = te at *
          clear hlen hin OKn
          cases hgs : goodB sv with
          | false =>
            rw [hgs, if_neg (by decide)] at hs
            have HS := Lib.hid hs
            have FE := Lib.hid (HF.out.symm.trans (FR.out hgs))
            clear hs hgs
            go_wp2_with fail
            refine HS.out.mono ?_
            rintro e w' ⟨rfl, rfl⟩
            go_wp2_with fail
            go_ret3
            exact ⟨ret_ans FE.out, BR.out⟩
          | true =>
            rw [hgs, if_pos rfl] at hs
            have HS := Lib.hid hs
            have FV1 := Lib.hid (FV.out hgs)
            have FO1 := Lib.hid (FO.out hgs)
            clear hs hgs
            go_wp2_with fail
            refine HS.out.mono ?_
            rintro e w' ⟨rfl, rfl⟩
            go_wp2_with fail
            refine CT.out.mono ?_
            rintro e w8 ⟨rfl, hb8⟩
            have B8 := Lib.hid (below_next BR.out BR.out.size hb8)
            clear hb8 b0 b1 b2 b3
            by_cases hv : sv < tt
            · have FE := Lib.hid (HF.out.symm.trans (FV1.out hv))
              go_wp2_with fail
              go_ret3
              exact ⟨ret_ans FE.out, B8.out⟩
            · have FE := Lib.hid (HF.out.symm.trans (FO1.out (by omega)))
              have hwr : IntKind.i64.wrap (sv - tt) = sv - tt := by rw [IntWalk.i64_in _ (by omega)]
              go_wp2_with fail
              go_ret3
              exact ⟨ret_ans FE.out, B8.out⟩
  · have hcn : (ck != 0) = true := by simp [hc]
    have FE := Lib.hid (HF.out.symm.trans (fe_check (l := l) (h := h) (by rw [HCK.out]; exact hc)))
    rw [HCK.out] at FE
    clear hc
    go_wp2_with fail
    go_ret3
    exact ⟨ret_ans FE.out, B1.out⟩

end Go.Proofs.YtjclklppnkoehaaGreatDoor

namespace Go.Proofs.YtjclklppnkoehaaGreatDoor
open Go.RowKit
set_option maxRecDepth 100000

theorem Lst.wide {α : Type} {At At' : World → Nat → Nat → α → Prop} {sz : Nat} {w : World} {lo hi hi' : Nat} {v : Value} {xs : List α} (h : Lst At sz w lo hi v xs) (ha : ∀ b o x, At w b o x → At' w b o x) (hh : hi ≤ hi') : Lst At' sz w lo hi' v xs := by
  obtain ⟨A, c, rfl, hc, h⟩ := h
  refine ⟨A, c, rfl, hc, ?_⟩
  rcases h with h | ⟨b, off, rfl, h1, h2, h⟩
  · exact .inl h
  · exact .inr ⟨b, off, rfl, h1, by omega, fun k s hs => ha _ _ _ (h k s hs)⟩
theorem JobAt.wide {w : World} {hi hi' : Nat} {vc vs vo : Value} {z : JobD} (h : JobAt w hi vc vs vo z) (hh : hi ≤ hi') : JobAt w hi' vc vs vo z :=
  ⟨Lst.wide h.cns (fun _ _ _ ⟨c0, c1, c2, c3, ⟨v, c4, hv⟩, c5, c6⟩ => ⟨c0, c1, c2, c3, ⟨v, c4, hv.wide (Nat.le_refl _) hh⟩, c5, c6⟩) hh,
   Lst.wide h.sps (fun _ _ _ ⟨c0, c1, c2, c3, hi', c8⟩ => ⟨c0, c1, c2, c3, hi'.wide (Nat.le_refl _) hh, c8⟩) hh,
   h.outs.wide (Nat.le_refl _) hh⟩
/-- api.Code of an error. -/
theorem code_err {lo : Nat} {w : World} {v : Value} {c a : Int} (h : ErrV lo w v c a) (hg : ErrDoor w) : Calls Tryz.prog 8 #[v] w fun e w' => e = .returned (.int .i64 c) ∧ Below w.heap.size w w' := by
  rcases h with ⟨rfl, _, rfl⟩ | ⟨_, _, rfl⟩ | ⟨_, _, b, rfl, _, _, _, h5⟩
  · exact code_nil w
  · exact code_num c w hg
  · exact code_fault b 0 c w hg h5
/-- The greater one of 0 and a number. -/
def pos (x : Int) : Int := if x > 0 then x else 0
theorem pos_ge (x : Int) : 0 ≤ pos x := by unfold pos; split <;> omega
theorem pos_le {x : Int} (h : x ≤ 9223372036854775807) : pos x ≤ 9223372036854775807 := by unfold pos; split <;> omega
theorem run_max0 (x : Int) (w : World) : (Builtin.max_ #[3, 3] 3 #[.int .i64 0, .int .i64 x]).run Tryz.prog w = .ok (.int .i64 (pos x)) w := by
  rw [run_max_int2 w #[3, 3] 3 .i64 .i64 0 x]
  rfl
def hgt (x : Int) : Int := pos x % 400
theorem hgt_bd (x : Int) : 0 ≤ hgt x ∧ hgt x ≤ 399 := by unfold hgt; omega
theorem ErrV.fault {lo : Nat} {w : World} {v : Value} {c a : Int} (h : ErrV lo w v c a) (hc : c ≠ 0) : ∃ T x, v = .iface T x ∧ (T = 43 ∨ T = 92) := by
  rcases h with ⟨h, _⟩ | ⟨_, _, rfl⟩ | ⟨_, _, b, rfl, _⟩
  · exact absurd h hc
  · exact ⟨_, _, rfl, .inl rfl⟩
  · exact ⟨_, _, rfl, .inr rfl⟩
theorem ErrV.none {lo : Nat} {w : World} {v : Value} {a : Int} (h : ErrV lo w v 0 a) : v = .nilIface := by
  rcases h with ⟨_, _, h⟩ | ⟨h, _⟩ | ⟨h, _⟩
  · exact h
  · exact absurd rfl h
  · exact absurd rfl h

set_option maxHeartbeats 4000000 in
theorem fees_law (z : JobD) (vc vs vo : Value) (w : World) (hz : JobAt w w.heap.size vc vs vo z) (hok : z.Ok) (hd : ErrDoor w) :
    Calls Tryz.prog 3 #[jobV z vc vs vo] w fun e w' => e = .returned (.bool true) ∧ Below w.heap.size w w' := by
  obtain ⟨w0, hw0⟩ : ∃ w0, w0 = w.alloc (.cells #[vc, vs, vo, .int .u32 z.ver, .int .u32 z.lock, .int .i64 z.ht] 27) := ⟨_, rfl⟩
  have z0 : w0.heap.size = w.heap.size + 1 := by rw [hw0]; simp
  have hb0 : Below w.heap.size w w0 := by rw [hw0]; exact (Below.refl _ _).alloc (Nat.le_refl _) _
  have hn0 := hw0 ▸ heap_alloc_new w (.cells #[vc, vs, vo, .int .u32 z.ver, .int .u32 z.lock, .int .i64 z.ht] 27)
  have QB := Lib.hid (fun (V : World) (hV : Below w0.heap.size w0 V) (o : Nat) (v : Value) (hv : (#[vc, vs, vo, .int .u32 z.ver, .int .u32 z.lock, .int .i64 z.ht] : Array Value)[o]? = some v) => (hV.cell (p := ⟨w.heap.size, o, none⟩) (by show w.heap.size < _; omega)).trans (Co.cell_in hn0 hv))
  have JB := Lib.hid (fun (V : World) (hV : Below w0.heap.size w0 V) => (hz.keep (Kept.of_below (hb0.trans (hV.mono (by omega))) (Nat.le_refl _))).wide (show w.heap.size ≤ V.heap.size by have := hV.size; omega))
  have HOK := Lib.hid hok
  have B0 := Lib.hid hb0
  have HW0 := Lib.hid hw0
  have DD := Lib.hid (fun (V : World) (hV : Below w.heap.size w V) => hd.below hV hd.lt)
  have CH := Lib.hid (held_any z vc vs vo w0 (JB.out w0 (Below.refl _ _)) hok)
  have hht := hok.ht
  obtain ⟨q0, q1, q2, q3, q4, q5⟩ : _ ∧ _ ∧ _ ∧ _ ∧ _ ∧ _ := ⟨QB.out w0 (Below.refl _ _) 0 _ rfl, QB.out w0 (Below.refl _ _) 1 _ rfl, QB.out w0 (Below.refl _ _) 2 _ rfl, QB.out w0 (Below.refl _ _) 3 _ rfl, QB.out w0 (Below.refl _ _) 4 _ rfl, QB.out w0 (Below.refl _ _) 5 _ rfl⟩
  have hmx := run_max0 z.ht
  have pg := pos_ge z.ht
  have pl := pos_le hht.2
  obtain ⟨ht, hhe⟩ : ∃ h, hgt z.ht = h := ⟨_, rfl⟩
  have hbd := hgt_bd z.ht
  rw [hhe] at hbd
  have hr1 : (pos z.ht).tmod 400 = ht := by rw [← hhe]; exact Int.tmod_eq_emod_of_nonneg pg
  have hr2 : IntKind.i64.wrap ht = ht := IntWalk.i64_in _ (by omega)
  have hr3 : ¬ (400 : Int) = 0 := by decide
  have HBD := Lib.hid hbd
  unfold jobV at *
  have Z0 := Lib.hid z0
  clear z0
  clear hz hok hd hw0 hb0 hn0 hht hhe pl hbd
  go_enter Tryz.func3, Tryz.ntmps3
  go_upto_region 1 with (fail)
  rw [show World.alloc w _ = w0 from HW0.out.symm]
  go_wp2_with fail
  refine CH.out.mono ?_
  rintro e w1 ⟨l, vl, rfl, hs1, hents, hl8, hb1⟩
  obtain ⟨sa, hsa⟩ : ∃ a, w0.heap.size + 2 = a := ⟨_, rfl⟩
  obtain ⟨sb, hsb⟩ : ∃ a, w0.heap.size + 1 = a := ⟨_, rfl⟩
  rw [hsa] at hs1 ⊢
  rw [hsb] at hs1
  have S1 := Lib.hid hs1
  obtain ⟨Av, cv, rfl⟩ := hents.form
  have EV := Lib.hid hents
  clear hents
  have L1 := Lib.hid hb1
  have z1 := hb1.size
  have l1 := hs1.lta
  have CG := Lib.hid (spending_any z vc vs vo w1 (JB.out w1 hb1) HOK.out)
  clear hs1 hb1 CH q0 q1 q2 q3 q4 q5
  obtain ⟨q0, q1, q2, q3, q4, q5⟩ : _ ∧ _ ∧ _ ∧ _ ∧ _ ∧ _ := ⟨QB.out w1 L1.out 0 _ rfl, QB.out w1 L1.out 1 _ rfl, QB.out w1 L1.out 2 _ rfl, QB.out w1 L1.out 3 _ rfl, QB.out w1 L1.out 4 _ rfl, QB.out w1 L1.out 5 _ rfl⟩
  unfold jobV at CG
  go_wp2_with fail
  refine CG.out.mono ?_
  rintro e w2 ⟨t, vi, vto, rfl, ht2, hok2, hb2⟩
  have z2 := hb2.size
  obtain ⟨Ai, ci, rfl⟩ := ht2.1.form
  obtain ⟨Ao, co, rfl⟩ := ht2.2.form
  obtain ⟨w3, hw3⟩ : ∃ w3, w3 = w2.alloc (.cells #[.int .u32 t.ver, .slice Ai t.ins.length ci, .slice Ao t.outs.length co, .int .u32 t.lock] 34) := ⟨_, rfl⟩
  have z3 : w3.heap.size = w2.heap.size + 1 := by rw [hw3]; simp
  have hb3 : Below w2.heap.size w2 w3 := by rw [hw3]; exact (Below.refl _ _).alloc (Nat.le_refl _) _
  have XB := Lib.hid (show Boxed w3 w2.heap.size (.int .u32 t.ver) (.slice Ai t.ins.length ci) (.slice Ao t.outs.length co) (.int .u32 t.lock) from by rw [hw3]; exact Boxed.new _ _ _ _ _ _)
  have XT := Lib.hid (ht2.keep (Kept.of_below hb3 (Nat.le_refl _)))
  have OKT := Lib.hid hok2
  have S3 := Lib.hid ((S1.out.below hb2 (by omega) (by omega)).below hb3 (by omega) (by omega))
  have L3 := Lib.hid (below_next (below_next L1.out L1.out.size hb2) (by omega) hb3)
  have B3 := Lib.hid (B0.out.trans (L3.out.mono (by have := Z0.out; omega)))
  have HW3 := Lib.hid hw3
  have L13 := Lib.hid (below_next hb2 hb2.size hb3)
  clear q0 q1 q2 q3 q4 q5 CG ht2 hok2 hb2 hb3 hw3
  have q5 := QB.out w3 L3.out 5 _ rfl
  have CF := Lib.hid (fun V (hV : Below w3.heap.size w3 V) hh => fee_any _ _ l t hh _ _ V (S3.out.below hV (by omega) (by omega)) ((XT.out.keep (Kept.of_below hV (by omega))).wide (Nat.zero_le _) (show w2.heap.size ≤ V.heap.size by have := hV.size; omega)) OKT.out)
  have CR := Lib.hid (fun V (hV : Below w3.heap.size w3 V) hh => rfee_any Av cv l t hh _ _ V (w0.heap.size + 3) w1.heap.size ((EV.out.keep (Kept.of_below L13.out (Nat.le_refl _))).keep (Kept.of_below hV (by omega))) (by have := hV.size; omega) S3.out.good hl8 ((XT.out.keep (Kept.of_below hV (by omega))).wide (Nat.zero_le _) (show w2.heap.size ≤ V.heap.size by have := hV.size; omega)) OKT.out)
  have CW := Lib.hid (fun V (hV : Below w.heap.size w V) => wakes_any V (DD.out V hV))
  obtain ⟨w4, hw4⟩ : ∃ w4, w4 = w3.alloc (.cells #[.int .i64 z.ht, .int .i64 ht] 3) := ⟨_, rfl⟩
  have hb4 : Below w3.heap.size w3 w4 := by rw [hw4]; exact (Below.refl _ _).alloc (Nat.le_refl _) _
  have z4 : w4.heap.size = w3.heap.size + 1 := by rw [hw4]; simp
  have hcell : ∀ k : Nat, k < 2 → ∃ hv, w4.cell? ⟨w3.heap.size, k, none⟩ = some (.int .i64 hv) := by
    intro k hk
    have h0 : w4.cell? ⟨w3.heap.size, 0, none⟩ = some (.int .i64 z.ht) := by rw [hw4]; simp
    have h1 : w4.cell? ⟨w3.heap.size, 1, none⟩ = some (.int .i64 ht) := by rw [hw4]; simp
    match k, hk with
    | 0, _ => exact ⟨_, h0⟩
    | 1, _ => exact ⟨_, h1⟩
  have HCL := Lib.hid hcell
  have L4 := Lib.hid hb4
  have HW4 := Lib.hid hw4
  have hen := eql_none
  clear hcell hb4 hw4
  obtain ⟨b0, b1, b2, b3⟩ := XB.out
  go_upto_region 3 with (fail)
  rw [show World.alloc w2 _ = w3 from HW3.out.symm]
  go_wp2_with fail

  rw [show World.alloc w3 _ = w4 from HW4.out.symm]
  clear b0 b1 b2 b3 q5
  go_loopg [28] 2 (fun gg s28 wr => ∃ k : Nat, k ≤ 2 ∧ 2 - k ≤ gg ∧ s28 = .int .i64 (k : Int) ∧ Hid (Below w4.heap.size w4 wr))
  case atStart => exact ⟨0, by omega, by omega, rfl, Lib.hid (Below.refl _ _)⟩
  case round =>
    obtain ⟨k, hk, hgk, rfl, HB⟩ := hrel
    have zr := HB.out.size
    have LR := Lib.hid (below_next L4.out L4.out.size HB.out)
    have BR := Lib.hid (below_next B3.out B3.out.size LR.out)
    by_cases hlt : k < 2
    · have j1 : (k : Int) < 2 := by omega
      have j2 : decide (k < 2) = true := decide_eq_true hlt
      have j3 : ¬ (k : Int) < 0 := by omega
      obtain ⟨hv, hcl⟩ := HCL.out k hlt
      have hc0 := (HB.out.cell (p := ⟨w3.heap.size, k, none⟩) (by show w3.heap.size < _; omega)).trans hcl
      rw [z3] at hc0
      obtain ⟨b0, b1, b2, b3⟩ := XB.out.below (by omega) LR.out
      have CF1 := Lib.hid (CF.out wr LR.out hv)
      obtain ⟨F, hF⟩ : ∃ F, feA l t hv = F := ⟨_, rfl⟩
      rw [hF] at CF1
      have HF := Lib.hid hF
      obtain ⟨fe, co', pl⟩ := F
      clear hF hcl
      go_wp2_with fail
      refine CF1.out.mono ?_
      rintro e w6 ⟨ve, rfl, he, hb6⟩
      simp only at he ⊢
      have L6 := Lib.hid (below_next LR.out LR.out.size hb6)
      have E6 := Lib.hid he
      have M6 := Lib.hid (below_next HB.out HB.out.size hb6)
      have CR1 := Lib.hid (CR.out w6 L6.out hv)
      rw [HF.out] at CR1
      simp only at CR1
      clear b0 b1 b2 b3 hb6 he CF1 hc0
      obtain ⟨b0, b1, b2, b3⟩ := XB.out.below (by omega) L6.out
      go_wp2_with fail
      refine CR1.out.mono ?_
      rintro e w7 ⟨rfl, hb7⟩
      have L7 := Lib.hid (below_next L6.out L6.out.size hb7)
      have M7 := Lib.hid (below_next M6.out M6.out.size hb7)
      have B7 := Lib.hid (below_next B3.out B3.out.size L7.out)
      have E7 := Lib.hid (E6.out.below hb7)
      have CC := Lib.hid (code_err E7.out (DD.out w7 B7.out))
      clear b0 b1 b2 b3 hb7 CR1
      by_cases hc : co' = 0
      · obtain rfl := hc
        obtain rfl : ve = .nilIface := E7.out.none
        go_wp2_with fail
        refine CC.out.mono ?_
        rintro e w8 ⟨rfl, hb8⟩
        have M8 := Lib.hid (below_next M7.out M7.out.size hb8)
        have B8 := Lib.hid (below_next B7.out B7.out.size hb8)
        have E8 := Lib.hid (E7.out.below hb8)
        have CP := Lib.hid (place_err E8.out (DD.out w8 B8.out))
        clear hb8 CC
        go_wp2_with fail
        refine CP.out.mono ?_
        rintro e w9 ⟨rfl, hb9⟩
        have M9 := Lib.hid (below_next M8.out M8.out.size hb9)
        clear hb9 CP
        go_wp2_with fail
        go_roundg (2 - (k + 1))
        case measure => omega
        case rel => exact ⟨k + 1, by omega, by omega, by go_num, M9⟩
      · obtain ⟨T, xv, rfl, hT⟩ := E7.out.fault hc
        have hne : ∀ W, (binOp .eql 38 (.iface T xv) .nilIface).run Tryz.prog W = .ok (.bool false) W := fun W => by
          rcases hT with rfl | rfl
          · exact eql_num xv W
          · exact eql_fault xv W
        have hc1 : (co' == 0) = false := by simp [hc]
        have hc2 : (co' != 0) = true := by simp [hc]
        have HC := Lib.hid hc
        clear hT hc
        go_wp2_with fail
        refine CC.out.mono ?_
        rintro e w8 ⟨rfl, hb8⟩
        have M8 := Lib.hid (below_next M7.out M7.out.size hb8)
        have B8 := Lib.hid (below_next B7.out B7.out.size hb8)
        have E8 := Lib.hid (E7.out.below hb8)
        have CP := Lib.hid (place_err E8.out (DD.out w8 B8.out))
        clear hb8 CC
        go_wp2_with fail
        refine CP.out.mono ?_
        rintro e w9 ⟨rfl, hb9⟩
        have M9 := Lib.hid (below_next M8.out M8.out.size hb9)
        have E9 := Lib.hid (E8.out.below hb9)
        have CI := Lib.hid (is_err E9.out (f := co') HC.out)
        rw [show (co' == co') = true from by simp] at CI
        clear hb9 CP
        go_wp2_with fail
        refine CI.out.mono ?_
        rintro e wa ⟨rfl, rfl⟩
        go_wp2_with fail
        go_roundg (2 - (k + 1))
        case measure => omega
        case rel => exact ⟨k + 1, by omega, by omega, by go_num, M9⟩
    · have k2' : decide (k < 2) = false := decide_eq_false hlt
      have k3' : ¬ (k : Int) < 2 := by omega
      have k4' : decide ((k : Int) < 2) = false := decide_eq_false k3'
      go_wp2_with fail
      refine (CW.out wr BR.out).mono ?_
      rintro e we ⟨rfl, hbe⟩
      have BE := Lib.hid (below_next BR.out BR.out.size hbe)
      clear hbe
      go_wp2_with fail
      go_ret
      exact ⟨rfl, BE.out⟩

end Go.Proofs.YtjclklppnkoehaaGreatDoor

namespace Go.Proofs.YtjclklppnkoehaaGreatDoor
open Go.ChangeShapes Go.WideShapes Go.ChangeAt Go.RowKit Go.Joins Go.Deep
set_option maxRecDepth 100000

section
variable {H : Type} {enc : TypeId × Value → H} {w : World} {spare : Nat → Bool} {held : Bool}

theorem rc3 : Tryz.prog.cellsOf 3 = 1 := by kernel_rfl
theorem rc4 : Tryz.prog.cellsOf 4 = 1 := by kernel_rfl
theorem rc5 : Tryz.prog.cellsOf 5 = 1 := by kernel_rfl
theorem rc9 : Tryz.prog.cellsOf 9 = 1 := by kernel_rfl
theorem rc22 : Tryz.prog.cellsOf 22 = 1 := by kernel_rfl
theorem rc23 : Tryz.prog.cellsOf 23 = 1 := by kernel_rfl
theorem rc24 : Tryz.prog.cellsOf 24 = 1 := by kernel_rfl
theorem rc25 : Tryz.prog.cellsOf 25 = 1 := by kernel_rfl
theorem rc27 : Tryz.prog.cellsOf 27 = 6 := by kernel_rfl
theorem rc32 : Tryz.prog.cellsOf 32 = 1 := by kernel_rfl
theorem rc50 : Tryz.prog.cellsOf 50 = 1 := by kernel_rfl
theorem rc52 : Tryz.prog.cellsOf 52 = 7 := by kernel_rfl
theorem rc55 : Tryz.prog.cellsOf 55 = 2 := by kernel_rfl
theorem rc59 : Tryz.prog.cellsOf 59 = 2 := by kernel_rfl
theorem rc66 : Tryz.prog.cellsOf 66 = 1 := by kernel_rfl
theorem rc68 : Tryz.prog.cellsOf 68 = 4 := by kernel_rfl
theorem rc70 : Tryz.prog.cellsOf 70 = 9 := by kernel_rfl
theorem rc72 : Tryz.prog.cellsOf 72 = 1 := by kernel_rfl
theorem rc101 : Tryz.prog.cellsOf 101 = 3 := by kernel_rfl
theorem rd_zero (a : Addr) : a.add 0 = a := by simp [Addr.add]
theorem rd_none {a : Addr} {v : Value} (h : w.cell? a = some v) : ∃ b off, a = ⟨b, off, none⟩ ∧ b < w.heap.size := by
  obtain ⟨b, off, spot⟩ := a
  have hs : spot = none := World.cell?_spot h
  subst hs
  exact ⟨b, off, rfl, World.block_lt_of_cell? w _ h⟩
/-- A list of anything. -/
theorem rd_lst {α : Type} {At : World → Nat → Nat → α → Prop} {G : α → Prop} {sl e : TypeId} {sz : Nat} (d : α) (hu : Tryz.prog.underlying sl = some (.slice e)) (hce : Tryz.prog.cellsOf e = sz) (hsz : 0 < sz)
    (one : ∀ (n : Nat) (cs : List Value) (x : DataW H × List MemPlace), DataW.trod enc Tryz.prog w 0 spare held n e cs = some x → ∃ y : α, G y ∧ ∀ (b o : Nat), (∀ i u, cs[i]? = some u → w.cell? ⟨b, o + i, none⟩ = some u) → At w b o y)
    {fuel : Nat} {v : Value} {x : DataW H × List MemPlace} (h : DataW.trod enc Tryz.prog w 0 spare held fuel sl [v] = some x) : ∃ ys, Lst At sz w 0 w.heap.size v ys ∧ ys.length ≤ maxLen ∧ ∀ y ∈ ys, G y := by
  rcases open_slice hu h with ⟨hc, _⟩ | ⟨a, len, cap, m, n, D, Pl, hc, _, hl, hm, hmm, _, hx⟩
  · simp at hc
    subst hc
    exact ⟨[], ⟨none, 0, rfl, Nat.le_refl _, .inl rfl⟩, by simp, by simp⟩
  · simp at hc
    subst hc
    rw [hce] at hx
    have hml : len ≤ m := by rw [hmm]; split <;> omega
    have hin : ∀ i, i < len → ∃ y : α, G y ∧ ∀ b off, a = ⟨b, off, none⟩ → At w b (off + i * sz) y := fun i hi => by
      obtain ⟨cs, h1, h2⟩ := hx i (by omega)
      obtain ⟨_, hlen, hc⟩ := World.cells?_some h1
      obtain ⟨y, hg, hat⟩ := one _ _ _ h2
      refine ⟨y, hg, fun b off ha => hat b (off + i * sz) fun j u hj => ?_⟩
      have := hc j (by have := (List.getElem?_eq_some_iff.1 hj).1; omega)
      rw [ha, Addr.add_lit, Addr.add_lit] at this
      exact this.trans hj
    have : Inhabited α := ⟨d⟩
    obtain ⟨F, hF⟩ := choose_lt (α := α) hin
    refine ⟨(List.range len).map F, ⟨some a, cap, by simp, by simpa using hl, ?_⟩, by simp; omega, ?_⟩
    · by_cases h0 : len = 0
      · subst h0; exact .inl (by simp)
      · obtain ⟨cs, h1, _⟩ := hx 0 (by omega)
        obtain ⟨_, hlen, hc⟩ := World.cells?_some h1
        have q0 := hc 0 hsz
        rw [Nat.zero_mul, rd_zero, rd_zero] at q0
        have hcs : ∃ u, cs[0]? = some u := ⟨_, List.getElem?_eq_getElem (by omega)⟩
        obtain ⟨u, hu0⟩ := hcs
        obtain ⟨b, off, rfl, hb⟩ := rd_none (q0.trans hu0)
        refine .inr ⟨b, off, rfl, Nat.zero_le _, hb, fun k s hk => ?_⟩
        have hkl : k < len := by have := (List.getElem?_eq_some_iff.1 hk).1; simpa using this
        simp [hkl] at hk
        subst hk
        exact (hF k hkl).2 b off rfl
    · intro y hy
      obtain ⟨i, hi, rfl⟩ := List.mem_map.1 hy
      exact (hF i (List.mem_range.1 hi)).1

theorem rd_br {fuel : Nat} {cs : List Value} {x : DataW H × List MemPlace} (h : DataW.trod enc Tryz.prog w 0 spare held fuel 101 cs = some x) :
    ∃ y : BrD, y.Ok ∧ ∀ (b o : Nat), (∀ i u, cs[i]? = some u → w.cell? ⟨b, o + i, none⟩ = some u) → BrAt w b o y := by
  obtain ⟨xs, n', _, _, hlen, hxl, hf⟩ := DataW.trod_struct Tryz.underlying101 h
  rw [rc101] at hlen
  match cs, hlen with
  | [c0, c1, c2], _ =>
    have f0 : DataW.trod enc Tryz.prog w 0 spare held n' 72 (([c0, c1, c2].drop 0).take (Tryz.prog.cellsOf 72)) = xs[0]? := hf 0 _ rfl
    rw [rc72] at f0
    have f1 : DataW.trod enc Tryz.prog w 0 spare held n' 72 (([c0, c1, c2].drop 1).take (Tryz.prog.cellsOf 72)) = xs[1]? := hf 1 _ rfl
    rw [rc72] at f1
    have f2 : DataW.trod enc Tryz.prog w 0 spare held n' 25 (([c0, c1, c2].drop 2).take (Tryz.prog.cellsOf 25)) = xs[2]? := hf 2 _ rfl
    rw [rc25] at f2
    have hxl2 : xs.length = 3 := hxl
    obtain ⟨z0, e0⟩ : ∃ z, xs[0]? = some z := ⟨_, List.getElem?_eq_getElem (by omega)⟩
    rw [e0] at f0
    obtain ⟨z1, e1⟩ : ∃ z, xs[1]? = some z := ⟨_, List.getElem?_eq_getElem (by omega)⟩
    rw [e1] at f1
    obtain ⟨z2, e2⟩ : ∃ z, xs[2]? = some z := ⟨_, List.getElem?_eq_getElem (by omega)⟩
    rw [e2] at f2
    obtain ⟨q, h0, _, w0⟩ := DataW.trod_int Tryz.underlying72 f0
    obtain ⟨r, h1, _, w1⟩ := DataW.trod_int Tryz.underlying72 f1
    obtain ⟨s, h2, _, w2⟩ := DataW.trod_int Tryz.underlying25 f2
    simp at h0 h1 h2
    subst h0 h1 h2
    have b0 := Go.bounds_u16 w0
    have b1 := Go.bounds_u16 w1
    have b2 := Go.bounds_u32 w2
    exact ⟨⟨q, r, s⟩, ⟨(by omega : (0 : Int) ≤ q), (by omega : q ≤ 65535), (by omega : (0 : Int) ≤ r), (by omega : r ≤ 65535), (by omega : (0 : Int) ≤ s), (by omega : s ≤ 4294967295)⟩, fun b o hc => ⟨hc 0 _ rfl, hc 1 _ rfl, hc 2 _ rfl⟩⟩
theorem rd_brs {fuel : Nat} {v : Value} {x : DataW H × List MemPlace} (h : DataW.trod enc Tryz.prog w 0 spare held fuel 50 [v] = some x) : ∃ ys, Brs w 0 w.heap.size v ys ∧ ys.length ≤ maxLen ∧ ∀ y ∈ ys, y.Ok :=
  rd_lst (At := BrAt) (d := ⟨0, 0, 0⟩) Tryz.underlying50 rc101 (by decide) (fun _ _ _ h => rd_br h) h
theorem rd_strs {fuel : Nat} {v : Value} {x : DataW H × List MemPlace} (h : DataW.trod enc Tryz.prog w 0 spare held fuel 66 [v] = some x) : ∃ ss, Strs w 0 w.heap.size v ss ∧ ss.length ≤ maxLen ∧ ∀ s ∈ ss, s.size ≤ maxLen := by
  obtain ⟨ys, ⟨A, c, hv, hc, h⟩, h2, h3⟩ := rd_lst (At := fun w b o (s : ByteArray) => w.cell? ⟨b, o, none⟩ = some (.string s)) (G := fun s => s.size ≤ maxLen) (d := ByteArray.empty) Tryz.underlying66 rc9 (by decide) (fun _ cs _ h => by
    obtain ⟨s, hs, _, hz⟩ := DataW.trod_string Tryz.underlying9 h
    exact ⟨s, hz, fun b o hc => hc 0 _ (by rw [hs]; rfl)⟩) h
  refine ⟨ys, ⟨A, c, hv, hc, ?_⟩, h2, h3⟩
  rcases h with h | ⟨b, off, rfl, h4, h5, h6⟩
  · exact .inl h
  · exact .inr ⟨b, off, rfl, h4, h5, fun k s hk => by have := h6 k s hk; rwa [Nat.mul_one] at this⟩
theorem rd_pt {fuel : Nat} {cs : List Value} {x : DataW H × List MemPlace} (h : DataW.trod enc Tryz.prog w 0 spare held fuel 55 cs = some x) :
    ∃ (s : ByteArray) (q : Int), cs = [.string s, .int .u32 q] ∧ s.size ≤ maxLen ∧ 0 ≤ q ∧ q ≤ 4294967295 := by
  obtain ⟨xs, n', _, _, hlen, hxl, hf⟩ := DataW.trod_struct Tryz.underlying55 h
  rw [rc55] at hlen
  match cs, hlen with
  | [c0, c1], _ =>
    have f0 : DataW.trod enc Tryz.prog w 0 spare held n' 9 (([c0, c1].drop 0).take (Tryz.prog.cellsOf 9)) = xs[0]? := hf 0 _ rfl
    rw [rc9] at f0
    have f1 : DataW.trod enc Tryz.prog w 0 spare held n' 25 (([c0, c1].drop 1).take (Tryz.prog.cellsOf 25)) = xs[1]? := hf 1 _ rfl
    rw [rc25] at f1
    have hxl2 : xs.length = 2 := hxl
    obtain ⟨z0, e0⟩ : ∃ z, xs[0]? = some z := ⟨_, List.getElem?_eq_getElem (by omega)⟩
    rw [e0] at f0
    obtain ⟨z1, e1⟩ : ∃ z, xs[1]? = some z := ⟨_, List.getElem?_eq_getElem (by omega)⟩
    rw [e1] at f1
    obtain ⟨s, h0, _, w0⟩ := DataW.trod_string Tryz.underlying9 f0
    obtain ⟨q, h1, _, w1⟩ := DataW.trod_int Tryz.underlying25 f1
    simp at h0 h1
    subst h0 h1
    have b1 := Go.bounds_u32 w1
    exact ⟨s, q, rfl, w0, by omega, by omega⟩
theorem rd_in {fuel : Nat} {cs : List Value} {x : DataW H × List MemPlace} (h : DataW.trod enc Tryz.prog w 0 spare held fuel 68 cs = some x) :
    ∃ y : InD, y.Any ∧ ∀ (b o : Nat), (∀ i u, cs[i]? = some u → w.cell? ⟨b, o + i, none⟩ = some u) → InAt w 0 w.heap.size b o y := by
  obtain ⟨xs, n', _, _, hlen, hxl, hf⟩ := DataW.trod_struct Tryz.underlying68 h
  rw [rc68] at hlen
  match cs, hlen with
  | [c0, c1, c2, c3], _ =>
    have f0 : DataW.trod enc Tryz.prog w 0 spare held n' 55 (([c0, c1, c2, c3].drop 0).take (Tryz.prog.cellsOf 55)) = xs[0]? := hf 0 _ rfl
    rw [rc55] at f0
    have f1 : DataW.trod enc Tryz.prog w 0 spare held n' 25 (([c0, c1, c2, c3].drop 2).take (Tryz.prog.cellsOf 25)) = xs[1]? := hf 1 _ rfl
    rw [rc25] at f1
    have f2 : DataW.trod enc Tryz.prog w 0 spare held n' 66 (([c0, c1, c2, c3].drop 3).take (Tryz.prog.cellsOf 66)) = xs[2]? := hf 2 _ rfl
    rw [rc66] at f2
    have hxl2 : xs.length = 3 := hxl
    obtain ⟨z0, e0⟩ : ∃ z, xs[0]? = some z := ⟨_, List.getElem?_eq_getElem (by omega)⟩
    rw [e0] at f0
    obtain ⟨z1, e1⟩ : ∃ z, xs[1]? = some z := ⟨_, List.getElem?_eq_getElem (by omega)⟩
    rw [e1] at f1
    obtain ⟨z2, e2⟩ : ∃ z, xs[2]? = some z := ⟨_, List.getElem?_eq_getElem (by omega)⟩
    rw [e2] at f2
    obtain ⟨s, i, hp, hsz, i1, i2⟩ := rd_pt (show DataW.trod enc Tryz.prog w 0 spare held n' 55 [c0, c1] = some z0 from f0)
    obtain ⟨q, h1, _, w1⟩ := DataW.trod_int Tryz.underlying25 f1
    obtain ⟨ss, hss, hsl, hse⟩ := rd_strs (show DataW.trod enc Tryz.prog w 0 spare held n' 66 [c3] = some z2 from f2)
    simp at h1
    subst h1
    have b1 := Go.bounds_u32 w1
    simp at hp
    obtain ⟨rfl, rfl⟩ := hp
    exact ⟨⟨s, i, q, ss⟩, ⟨hsz, i1, i2, (by omega : (0 : Int) ≤ q), (by omega : q ≤ 4294967295), hsl, hse⟩, fun b o hc => ⟨hc 0 _ rfl, hc 1 _ rfl, hc 2 _ rfl, c3, hc 3 _ rfl, hss⟩⟩
theorem rd_out {fuel : Nat} {cs : List Value} {x : DataW H × List MemPlace} (h : DataW.trod enc Tryz.prog w 0 spare held fuel 59 cs = some x) :
    ∃ y : OutD, y.Any ∧ ∀ (b o : Nat), (∀ i u, cs[i]? = some u → w.cell? ⟨b, o + i, none⟩ = some u) → OutAt w b o y := by
  obtain ⟨xs, n', _, _, hlen, hxl, hf⟩ := DataW.trod_struct Tryz.underlying59 h
  rw [rc59] at hlen
  match cs, hlen with
  | [c0, c1], _ =>
    have f0 : DataW.trod enc Tryz.prog w 0 spare held n' 3 (([c0, c1].drop 0).take (Tryz.prog.cellsOf 3)) = xs[0]? := hf 0 _ rfl
    rw [rc3] at f0
    have f1 : DataW.trod enc Tryz.prog w 0 spare held n' 9 (([c0, c1].drop 1).take (Tryz.prog.cellsOf 9)) = xs[1]? := hf 1 _ rfl
    rw [rc9] at f1
    have hxl2 : xs.length = 2 := hxl
    obtain ⟨z0, e0⟩ : ∃ z, xs[0]? = some z := ⟨_, List.getElem?_eq_getElem (by omega)⟩
    rw [e0] at f0
    obtain ⟨z1, e1⟩ : ∃ z, xs[1]? = some z := ⟨_, List.getElem?_eq_getElem (by omega)⟩
    rw [e1] at f1
    obtain ⟨q, h0, _, w0⟩ := DataW.trod_int Tryz.underlying3 f0
    obtain ⟨s, h1, _, w1⟩ := DataW.trod_string Tryz.underlying9 f1
    simp at h0 h1
    subst h0 h1
    have b0 := Go.bounds_i64 w0
    exact ⟨⟨q, s⟩, ⟨(by omega : (-9223372036854775808 : Int) ≤ q), (by omega : q ≤ 9223372036854775807), w1⟩, fun b o hc => ⟨hc 0 _ rfl, hc 1 _ rfl⟩⟩
theorem rd_cn {fuel : Nat} {cs : List Value} {x : DataW H × List MemPlace} (h : DataW.trod enc Tryz.prog w 0 spare held fuel 52 cs = some x) :
    ∃ y : CnD, y.Ok ∧ ∀ (b o : Nat), (∀ i u, cs[i]? = some u → w.cell? ⟨b, o + i, none⟩ = some u) → CnAt 0 w.heap.size w b o y := by
  obtain ⟨xs, n', _, _, hlen, hxl, hf⟩ := DataW.trod_struct Tryz.underlying52 h
  rw [rc52] at hlen
  match cs, hlen with
  | [c0, c1, c2, c3, c4, c5, c6], _ =>
    have f0 : DataW.trod enc Tryz.prog w 0 spare held n' 5 (([c0, c1, c2, c3, c4, c5, c6].drop 0).take (Tryz.prog.cellsOf 5)) = xs[0]? := hf 0 _ rfl
    rw [rc5] at f0
    have f1 : DataW.trod enc Tryz.prog w 0 spare held n' 5 (([c0, c1, c2, c3, c4, c5, c6].drop 1).take (Tryz.prog.cellsOf 5)) = xs[1]? := hf 1 _ rfl
    rw [rc5] at f1
    have f2 : DataW.trod enc Tryz.prog w 0 spare held n' 3 (([c0, c1, c2, c3, c4, c5, c6].drop 2).take (Tryz.prog.cellsOf 3)) = xs[2]? := hf 2 _ rfl
    rw [rc3] at f2
    have f3 : DataW.trod enc Tryz.prog w 0 spare held n' 3 (([c0, c1, c2, c3, c4, c5, c6].drop 3).take (Tryz.prog.cellsOf 3)) = xs[3]? := hf 3 _ rfl
    rw [rc3] at f3
    have f4 : DataW.trod enc Tryz.prog w 0 spare held n' 50 (([c0, c1, c2, c3, c4, c5, c6].drop 4).take (Tryz.prog.cellsOf 50)) = xs[4]? := hf 4 _ rfl
    rw [rc50] at f4
    have f5 : DataW.trod enc Tryz.prog w 0 spare held n' 9 (([c0, c1, c2, c3, c4, c5, c6].drop 5).take (Tryz.prog.cellsOf 9)) = xs[5]? := hf 5 _ rfl
    rw [rc9] at f5
    have f6 : DataW.trod enc Tryz.prog w 0 spare held n' 4 (([c0, c1, c2, c3, c4, c5, c6].drop 6).take (Tryz.prog.cellsOf 4)) = xs[6]? := hf 6 _ rfl
    rw [rc4] at f6
    have hxl2 : xs.length = 7 := hxl
    obtain ⟨z0, e0⟩ : ∃ z, xs[0]? = some z := ⟨_, List.getElem?_eq_getElem (by omega)⟩
    rw [e0] at f0
    obtain ⟨z1, e1⟩ : ∃ z, xs[1]? = some z := ⟨_, List.getElem?_eq_getElem (by omega)⟩
    rw [e1] at f1
    obtain ⟨z2, e2⟩ : ∃ z, xs[2]? = some z := ⟨_, List.getElem?_eq_getElem (by omega)⟩
    rw [e2] at f2
    obtain ⟨z3, e3⟩ : ∃ z, xs[3]? = some z := ⟨_, List.getElem?_eq_getElem (by omega)⟩
    rw [e3] at f3
    obtain ⟨z4, e4⟩ : ∃ z, xs[4]? = some z := ⟨_, List.getElem?_eq_getElem (by omega)⟩
    rw [e4] at f4
    obtain ⟨z5, e5⟩ : ∃ z, xs[5]? = some z := ⟨_, List.getElem?_eq_getElem (by omega)⟩
    rw [e5] at f5
    obtain ⟨z6, e6⟩ : ∃ z, xs[6]? = some z := ⟨_, List.getElem?_eq_getElem (by omega)⟩
    rw [e6] at f6
    obtain ⟨i, h0, _, w0⟩ := DataW.trod_int Tryz.underlying5 f0
    obtain ⟨j, h1, _, w1⟩ := DataW.trod_int Tryz.underlying5 f1
    obtain ⟨q, h2, _, w2⟩ := DataW.trod_int Tryz.underlying3 f2
    obtain ⟨t, h3, _, w3⟩ := DataW.trod_int Tryz.underlying3 f3
    obtain ⟨bs, hbs, hbl, hbo⟩ := rd_brs (show DataW.trod enc Tryz.prog w 0 spare held n' 50 [c4] = some z4 from f4)
    obtain ⟨s, h5, _, w5⟩ := DataW.trod_string Tryz.underlying9 f5
    obtain ⟨r, h6, _⟩ := DataW.trod_bool Tryz.underlying4 f6
    simp at h0 h1 h2 h3 h5 h6
    subst h0 h1 h2 h3 h5 h6
    have b0 := Go.bounds_u8 w0
    have b1 := Go.bounds_u8 w1
    have b2 := Go.bounds_i64 w2
    have b3 := Go.bounds_i64 w3
    exact ⟨⟨i, j, q, t, bs, s, r⟩, ⟨(by omega : (0 : Int) ≤ i), (by omega : i ≤ 255), (by omega : (0 : Int) ≤ j), (by omega : j ≤ 255), (by omega : (-9223372036854775808 : Int) ≤ q), (by omega : q ≤ 9223372036854775807), (by omega : (-9223372036854775808 : Int) ≤ t), (by omega : t ≤ 9223372036854775807), hbo, hbl, w5⟩, fun b o hc => ⟨hc 0 _ rfl, hc 1 _ rfl, hc 2 _ rfl, hc 3 _ rfl, ⟨c4, hc 4 _ rfl, hbs⟩, hc 5 _ rfl, hc 6 _ rfl⟩⟩
theorem rd_sp {fuel : Nat} {cs : List Value} {x : DataW H × List MemPlace} (h : DataW.trod enc Tryz.prog w 0 spare held fuel 70 cs = some x) :
    ∃ y : SpD, y.Ok ∧ ∀ (b o : Nat), (∀ i u, cs[i]? = some u → w.cell? ⟨b, o + i, none⟩ = some u) → SpAt 0 w.heap.size w b o y := by
  obtain ⟨xs, n', _, _, hlen, hxl, hf⟩ := DataW.trod_struct Tryz.underlying70 h
  rw [rc70] at hlen
  match cs, hlen with
  | [c0, c1, c2, c3, c4, c5, c6, c7, c8], _ =>
    have f0 : DataW.trod enc Tryz.prog w 0 spare held n' 5 (([c0, c1, c2, c3, c4, c5, c6, c7, c8].drop 0).take (Tryz.prog.cellsOf 5)) = xs[0]? := hf 0 _ rfl
    rw [rc5] at f0
    have f1 : DataW.trod enc Tryz.prog w 0 spare held n' 5 (([c0, c1, c2, c3, c4, c5, c6, c7, c8].drop 1).take (Tryz.prog.cellsOf 5)) = xs[1]? := hf 1 _ rfl
    rw [rc5] at f1
    have f2 : DataW.trod enc Tryz.prog w 0 spare held n' 5 (([c0, c1, c2, c3, c4, c5, c6, c7, c8].drop 2).take (Tryz.prog.cellsOf 5)) = xs[2]? := hf 2 _ rfl
    rw [rc5] at f2
    have f3 : DataW.trod enc Tryz.prog w 0 spare held n' 25 (([c0, c1, c2, c3, c4, c5, c6, c7, c8].drop 3).take (Tryz.prog.cellsOf 25)) = xs[3]? := hf 3 _ rfl
    rw [rc25] at f3
    have f4 : DataW.trod enc Tryz.prog w 0 spare held n' 68 (([c0, c1, c2, c3, c4, c5, c6, c7, c8].drop 4).take (Tryz.prog.cellsOf 68)) = xs[4]? := hf 4 _ rfl
    rw [rc68] at f4
    have f5 : DataW.trod enc Tryz.prog w 0 spare held n' 4 (([c0, c1, c2, c3, c4, c5, c6, c7, c8].drop 8).take (Tryz.prog.cellsOf 4)) = xs[5]? := hf 5 _ rfl
    rw [rc4] at f5
    have hxl2 : xs.length = 6 := hxl
    obtain ⟨z0, e0⟩ : ∃ z, xs[0]? = some z := ⟨_, List.getElem?_eq_getElem (by omega)⟩
    rw [e0] at f0
    obtain ⟨z1, e1⟩ : ∃ z, xs[1]? = some z := ⟨_, List.getElem?_eq_getElem (by omega)⟩
    rw [e1] at f1
    obtain ⟨z2, e2⟩ : ∃ z, xs[2]? = some z := ⟨_, List.getElem?_eq_getElem (by omega)⟩
    rw [e2] at f2
    obtain ⟨z3, e3⟩ : ∃ z, xs[3]? = some z := ⟨_, List.getElem?_eq_getElem (by omega)⟩
    rw [e3] at f3
    obtain ⟨z4, e4⟩ : ∃ z, xs[4]? = some z := ⟨_, List.getElem?_eq_getElem (by omega)⟩
    rw [e4] at f4
    obtain ⟨z5, e5⟩ : ∃ z, xs[5]? = some z := ⟨_, List.getElem?_eq_getElem (by omega)⟩
    rw [e5] at f5
    obtain ⟨i, h0, _, w0⟩ := DataW.trod_int Tryz.underlying5 f0
    obtain ⟨j, h1, _, w1⟩ := DataW.trod_int Tryz.underlying5 f1
    obtain ⟨k, h2, _, w2⟩ := DataW.trod_int Tryz.underlying5 f2
    obtain ⟨q, h3, _, w3⟩ := DataW.trod_int Tryz.underlying25 f3
    obtain ⟨y, hy, hat⟩ := rd_in (show DataW.trod enc Tryz.prog w 0 spare held n' 68 [c4, c5, c6, c7] = some z4 from f4)
    obtain ⟨r, h5, _⟩ := DataW.trod_bool Tryz.underlying4 f5
    simp at h0 h1 h2 h3 h5
    subst h0 h1 h2 h3 h5
    have b0 := Go.bounds_u8 w0
    have b1 := Go.bounds_u8 w1
    have b2 := Go.bounds_u8 w2
    have b3 := Go.bounds_u32 w3
    exact ⟨⟨i, j, k, q, y, r⟩, ⟨(by omega : (0 : Int) ≤ i), (by omega : i ≤ 255), (by omega : (0 : Int) ≤ j), (by omega : j ≤ 255), (by omega : (0 : Int) ≤ k), (by omega : k ≤ 255), (by omega : (0 : Int) ≤ q), (by omega : q ≤ 4294967295), hy⟩, fun b o hc => ⟨hc 0 _ rfl, hc 1 _ rfl, hc 2 _ rfl, hc 3 _ rfl, hat b (o + 4) (fun m u hm => by
      match m, hm with
      | 0, hm => simp at hm; subst hm; exact hc 4 _ rfl
      | 1, hm => simp at hm; subst hm; exact hc 5 _ rfl
      | 2, hm => simp at hm; subst hm; exact hc 6 _ rfl
      | 3, hm => simp at hm; subst hm; exact hc 7 _ rfl
      | n + 4, hm => simp at hm), hc 8 _ rfl⟩⟩
theorem rd_cns {fuel : Nat} {v : Value} {x : DataW H × List MemPlace} (h : DataW.trod enc Tryz.prog w 0 spare held fuel 22 [v] = some x) : ∃ ys, Cns w 0 w.heap.size v ys ∧ ys.length ≤ maxLen ∧ ∀ y ∈ ys, y.Ok :=
  rd_lst (At := CnAt 0 w.heap.size) (d := ⟨0, 0, 0, 0, [], ⟨#[]⟩, false⟩) Tryz.underlying22 rc52 (by decide) (fun _ _ _ h => rd_cn h) h
theorem rd_sps {fuel : Nat} {v : Value} {x : DataW H × List MemPlace} (h : DataW.trod enc Tryz.prog w 0 spare held fuel 23 [v] = some x) : ∃ ys, Sps w 0 w.heap.size v ys ∧ ys.length ≤ maxLen ∧ ∀ y ∈ ys, y.Ok :=
  rd_lst (At := SpAt 0 w.heap.size) (d := ⟨0, 0, 0, 0, ⟨⟨#[]⟩, 0, 0, []⟩, false⟩) Tryz.underlying23 rc70 (by decide) (fun _ _ _ h => rd_sp h) h
theorem rd_outs {fuel : Nat} {v : Value} {x : DataW H × List MemPlace} (h : DataW.trod enc Tryz.prog w 0 spare held fuel 24 [v] = some x) : ∃ ys, Outs w 0 w.heap.size v ys ∧ ys.length ≤ maxLen ∧ ∀ y ∈ ys, y.Any :=
  rd_lst (At := OutAt) (d := ⟨0, ⟨#[]⟩⟩) Tryz.underlying24 rc59 (by decide) (fun _ _ _ h => rd_out h) h
theorem rd_job6 {fuel : Nat} {cs : List Value} {x : DataW H × List MemPlace} (h : DataW.trod enc Tryz.prog w 0 spare held fuel 27 cs = some x) :
    ∃ (z : JobD) (vc vs vo : Value), cs = [vc, vs, vo, .int .u32 z.ver, .int .u32 z.lock, .int .i64 z.ht] ∧ JobAt w w.heap.size vc vs vo z ∧ z.Ok := by
  obtain ⟨xs, n', _, _, hlen, hxl, hf⟩ := DataW.trod_struct Tryz.underlying27 h
  rw [rc27] at hlen
  match cs, hlen with
  | [c0, c1, c2, c3, c4, c5], _ =>
    have f0 : DataW.trod enc Tryz.prog w 0 spare held n' 22 (([c0, c1, c2, c3, c4, c5].drop 0).take (Tryz.prog.cellsOf 22)) = xs[0]? := hf 0 _ rfl
    rw [rc22] at f0
    have f1 : DataW.trod enc Tryz.prog w 0 spare held n' 23 (([c0, c1, c2, c3, c4, c5].drop 1).take (Tryz.prog.cellsOf 23)) = xs[1]? := hf 1 _ rfl
    rw [rc23] at f1
    have f2 : DataW.trod enc Tryz.prog w 0 spare held n' 24 (([c0, c1, c2, c3, c4, c5].drop 2).take (Tryz.prog.cellsOf 24)) = xs[2]? := hf 2 _ rfl
    rw [rc24] at f2
    have f3 : DataW.trod enc Tryz.prog w 0 spare held n' 25 (([c0, c1, c2, c3, c4, c5].drop 3).take (Tryz.prog.cellsOf 25)) = xs[3]? := hf 3 _ rfl
    rw [rc25] at f3
    have f4 : DataW.trod enc Tryz.prog w 0 spare held n' 25 (([c0, c1, c2, c3, c4, c5].drop 4).take (Tryz.prog.cellsOf 25)) = xs[4]? := hf 4 _ rfl
    rw [rc25] at f4
    have f5 : DataW.trod enc Tryz.prog w 0 spare held n' 3 (([c0, c1, c2, c3, c4, c5].drop 5).take (Tryz.prog.cellsOf 3)) = xs[5]? := hf 5 _ rfl
    rw [rc3] at f5
    have hxl2 : xs.length = 6 := hxl
    obtain ⟨z0, e0⟩ : ∃ z, xs[0]? = some z := ⟨_, List.getElem?_eq_getElem (by omega)⟩
    rw [e0] at f0
    obtain ⟨z1, e1⟩ : ∃ z, xs[1]? = some z := ⟨_, List.getElem?_eq_getElem (by omega)⟩
    rw [e1] at f1
    obtain ⟨z2, e2⟩ : ∃ z, xs[2]? = some z := ⟨_, List.getElem?_eq_getElem (by omega)⟩
    rw [e2] at f2
    obtain ⟨z3, e3⟩ : ∃ z, xs[3]? = some z := ⟨_, List.getElem?_eq_getElem (by omega)⟩
    rw [e3] at f3
    obtain ⟨z4, e4⟩ : ∃ z, xs[4]? = some z := ⟨_, List.getElem?_eq_getElem (by omega)⟩
    rw [e4] at f4
    obtain ⟨z5, e5⟩ : ∃ z, xs[5]? = some z := ⟨_, List.getElem?_eq_getElem (by omega)⟩
    rw [e5] at f5
    obtain ⟨xc, hc1, hc2, hc3⟩ := rd_cns (show DataW.trod enc Tryz.prog w 0 spare held n' 22 [c0] = some z0 from f0)
    obtain ⟨xs', k1, k2, k3⟩ := rd_sps (show DataW.trod enc Tryz.prog w 0 spare held n' 23 [c1] = some z1 from f1)
    obtain ⟨xo, m1, m2, m3⟩ := rd_outs (show DataW.trod enc Tryz.prog w 0 spare held n' 24 [c2] = some z2 from f2)
    obtain ⟨p, h3, _, w3⟩ := DataW.trod_int Tryz.underlying25 f3
    obtain ⟨q, h4, _, w4⟩ := DataW.trod_int Tryz.underlying25 f4
    obtain ⟨t, h5, _, w5⟩ := DataW.trod_int Tryz.underlying3 f5
    simp at h3 h4 h5
    subst h3 h4 h5
    have b3 := Go.bounds_u32 w3
    have b4 := Go.bounds_u32 w4
    have b5 := Go.bounds_i64 w5
    exact ⟨⟨xc, xs', xo, p, q, t⟩, c0, c1, c2, rfl, ⟨hc1, k1, m1⟩, ⟨hc3, k3, m3, hc2, k2, m2, ⟨(by omega : (0 : Int) ≤ p), (by omega : p ≤ 4294967295)⟩, ⟨(by omega : (0 : Int) ≤ q), (by omega : q ≤ 4294967295)⟩, ⟨(by omega : (-9223372036854775808 : Int) ≤ t), (by omega : t ≤ 9223372036854775807)⟩⟩⟩
theorem rd_job {r : Reach} {b0 : Nat} {v : Value} {d : DataW H} {p : List MemPlace} (hv : Value.okWide Tryz.prog w r b0 27 v) (h : DataW.Trod enc Tryz.prog w 0 spare held 27 v d p) :
    ∃ (z : JobD) (vc vs vo : Value), v = jobV z vc vs vo ∧ JobAt w w.heap.size vc vs vo z ∧ z.Ok := by
  obtain ⟨cs, rfl, hsz⟩ := okWide_struct Tryz.underlying27 hv
  rw [rc27] at hsz
  obtain ⟨fuel, hf0⟩ := h
  obtain ⟨l⟩ := cs
  match l, hsz with
  | [c0, c1, c2, c3, c4, c5], _ =>
    obtain ⟨z, vc, vs, vo, he, h1, h2⟩ := rd_job6 (show DataW.trod enc Tryz.prog w 0 spare held fuel 27 [c0, c1, c2, c3, c4, c5] = some (d, p) from hf0)
    exact ⟨z, vc, vs, vo, by rw [he]; rfl, h1, h2⟩
end

end Go.Proofs.YtjclklppnkoehaaGreatDoor

namespace Go.Proofs.YtjclklppnkoehaaGreatDoor
open Go.RowKit
set_option maxRecDepth 100000

/-- What the rows list. -/
def laid1 : List (String × DataW Unit) := [("errors.errorType", Rows.laid_errors_errorType)]
theorem gErr : Tryz.prog.globalNamed "errors.errorType" = some 0 := by kernel_rfl
theorem rtErr : (Tryz.prog.cutTypes.find? (·.1 == "internal/reflectlite.rtype")).map (·.2) = some 132 := by kernel_rfl
theorem oneErr : ((List.range 201).filter fun t => Tryz.prog.rowNamed t [101, 114, 114, 111, 114]) = [38] := by kernel_rfl
theorem sizeErr : Tryz.prog.types.size = 201 := by kernel_rfl
/-- What the rows say of the variable, as the walks want it. -/
theorem errdoor_of {W : World} (h : laidMetH Tryz.prog laid1 W) : ErrDoor W := by
  have h' : laidMet Tryz.prog [] W ∧ handlesMet Tryz.prog laid1 W := h
  obtain ⟨name, u, ty, e1, e2, e3, e4, e5⟩ := h'.2 _ (List.mem_singleton.2 rfl)
  have en : name = [101, 114, 114, 111, 114] := (Option.some.inj e1).symm
  subst en
  obtain rfl := Option.some.inj (rtErr.symm.trans e2)
  have hm : ty ∈ (List.range 201).filter fun t => Tryz.prog.rowNamed t [101, 114, 114, 111, 114] := List.mem_filter.2 ⟨List.mem_range.2 (by rw [← sizeErr]; exact e3), e4⟩
  rw [oneErr] at hm
  obtain rfl := List.mem_singleton.1 hm
  have hh : typeHandle Tryz.prog 38 = .pointer (some ⟨1, 38, none⟩) := by kernel_rfl
  rw [hh] at e5
  unfold ErrDoor
  simpa using World.var?_cell gErr e5 0
/-- A world that meets the condition. -/
noncomputable def laidWorld (os : Os) : World :=
  let w0 := World.holding Tryz.prog os ⟨#[], #[], []⟩
  { w0 with heap := w0.heap.modify 0 fun
      | .cells _ t frozen => .cells #[.iface 132 (.agg #[.pointer (some ⟨1, 38, none⟩)])] t frozen
      | o => o }
theorem laidWorld_met (os : Os) (args : Array Value) : laidMetH Tryz.prog laid1 ((laidWorld os).forCall (fun _ _ => 0) ⟨#[], args, []⟩).memory :=
  laidMetH_of_parts (laidMet_nil _ _) (by kernel_rfl)

end Go.Proofs.YtjclklppnkoehaaGreatDoor

namespace Go.Proofs.YtjclklppnkoehaaGreatDoor.checkFees
open Go.ChangeShapes Go.WideShapes Go.ChangeAt Go.RowKit Go.Joins
set_option linter.unusedVariables false
set_option maxRecDepth 100000

theorem own : ownKnob Tryz.prog.godebug = none := by kernel_rfl

/-! The row's step. -/
theorem lifted (os : Os) (started : os.Started) (H : Type) (enc : TypeId × Value → H) :
    ReturnsInHanded {} Tryz.checked os 3 .any (fun w args => (Rows.checkFeesSpec.pre enc Tryz.prog Tryz.f3 [] false w args ∧ laidMetH Tryz.prog laid1 w) ∧ sizedMet enc Tryz.prog Tryz.f3 (OpenSpec.ofChange Rows.checkFeesSpec) false w args)
      (Rows.checkFeesSpec.post enc Tryz.prog Tryz.f3 false true false false) := by
  refine returnsInHanded_of_change_and (C := Tryz.checked) (X := fun w _ => laidMetH Tryz.prog laid1 w) (fun _ _ _ hh h => h.of_heap hh) own started (by kernel_rfl) Tryz.func3
    (ChangeSpec.witness_shaped (enc := enc) (C := Tryz.checked) (os := os) (X := fun w _ => laidMetH Tryz.prog laid1 w) false (laidWorld os) #[.agg #[.slice none 0 0, .slice none 0 0, .slice none 0 0, .int .u32 0, .int .u32 0, .int .i64 0]] 8 rfl (World.shaped_of_RefB (by kernel_rfl) (by kernel_rfl)) (by kernel_rfl) (by kernel_rfl) (by kernel_rfl) (laidWorld_met os _)) ?_
  intro W base args ds gs before hval0 hW hcnd hsz0 hL _
  have hval : ∀ (j : Nat) t v, Tryz.f3.params[j]? = some t → args[j]? = some v → Value.okWide Tryz.prog W .any base t v := hval0
  have hW' := hW
  obtain ⟨p, q, hA0, hV, rfl, hfz, hnd⟩ := hW
  have hA : DataW.TrodAll enc Tryz.prog W 0 (fun _ => true) true Tryz.f3.params.toList args.toList ds p := hA0
  rw [Tryz.params3] at hA hval
  obtain ⟨v0, vs0, d0, ds0, p0, q0, hargs, rfl, rfl, h0, r0⟩ := trodAll_cons hA
  obtain ⟨rfl, rfl, rfl⟩ := trodAll_nil r0
  obtain rfl : args = #[v0] := by cases args; simp_all
  obtain ⟨rfl, rfl⟩ := trodVars_none hV
  have lt0 : ∀ x ∈ p0, x.block < W.heap.size := by obtain ⟨m, hm⟩ := h0; exact DataW.trod_lt m _ _ _ hm
  obtain ⟨z, vc, vs, vo, rfl, hz, hzok⟩ := rd_job (hval 0 27 v0 rfl rfl) h0
  clear hA0 hval0
  refine (fees_law z vc vs vo W hz hzok (errdoor_of hL)).mono fun e W' ⟨he, bel⟩ => ?_
  subst he
  exact ⟨_, rfl, _, _, _, [], _, [], hW', trodAll_mk1 (shut_bool Tryz.underlying4 _), (trodAll_cons_mk (Below.trod laidOut (by kernel_rfl) (of_decide_eq_true (by kernel_rfl)) h0 bel lt0) trodAll_mk0), rfl, bel.frame _, fun h => by cases h⟩

theorem over : Rows.checkFeesRow.holds Tryz.pinned (OpenSpec.ofChange Rows.checkFeesSpec) :=
  OpenClaim.holds_of_wide 3 Tryz.f3 rfl rfl rfl rfl rfl rfl rfl ⟨rfl, rfl, rfl, rfl, rfl⟩ rfl rfl rfl rfl rfl (by kernel_rfl) Tryz.func3 (by kernel_rfl)
    (of_decide_eq_true (by kernel_rfl)) (by unfold Func.isWrapper; first | (rw [if_pos (by decide +kernel)]; kernel_rfl) | (rw [if_neg (by decide +kernel)]; exact ⟨rfl, rfl⟩))
    (fun os started H enc _ => lifted os started H enc)

/-- The row's statement. -/
theorem row : Rows.CheckFeesSaid :=
  over

/-- The statement: the card, tied to the program's text. -/
theorem proved : Rows.CheckFeesCardSaid :=
  Claim7.holds_tied_plain_at .later [] [.handle] true (true, "6008868317a998d32b54a3844966bb5788cdc2c4d0a3c48ac04284ddee389e25") true
    row (fun _ h => by cases h) (by kernel_rfl) (fun _ h => by cases h) checkFees_row_tie rfl ⟨rfl, rfl⟩ (by kernel_rfl) rfl
    (fun f fn hf hfn => by
      obtain rfl : f = 3 := Option.some.inj ((show Tryz.prog.funcNamed "kedge/kedgelaw11.CheckFees" = some 3 by kernel_rfl).symm.trans hf) |>.symm
      obtain rfl : fn = Tryz.f3 := (Option.some.inj (Tryz.func3.symm.trans hfn)).symm
      exact ⟨by kernel_rfl, fun j t ht => by
        rw [Tryz.params3] at ht
        have hm : t ∈ [27] := by simpa using Array.mem_of_getElem? ht
        have hall : ([27].all fun u => !Tryz.prog.wantsStandIn u) = true := by kernel_rfl
        exact (show Tryz.prog.wantsStandIn t = false by simpa using List.all_eq_true.1 hall t hm)⟩)
    (by kernel_rfl)
end Go.Proofs.YtjclklppnkoehaaGreatDoor.checkFees
