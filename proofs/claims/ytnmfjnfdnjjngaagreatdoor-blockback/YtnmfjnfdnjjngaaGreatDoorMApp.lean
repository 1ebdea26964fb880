/-
  A block applied: the program's Apply.
-/
import Derived.Test.YtnmfjnfdnjjngaaGreatDoorMWkq
import Derived.Test.YtnmfjnfdnjjngaaGreatDoorMLy2
import Derived.Test.YtnmfjnfdnjjngaaGreatDoorMRev
namespace Go.Proofs.YtnmfjnfdnjjngaaGreatDoor
open Go.RowKit
set_option maxRecDepth 100000

def ApEnd (a b : Nat) (l0 : List Co.EnD) (B : BlkA) (w : World) (e : Ending) (w' : World) : Prop :=
  Co.SetIs w' a b B.l ∧ Tn [a, b] w w' ∧
    ((B.code = 0 ∧ ∃ vs vm, e = .returned (.tuple #[.agg #[vs, vm], .nilIface]) ∧ Co.Ents w' w.heap.size w'.heap.size vs (Co.lessL l0 B.l) ∧ Co.Ents w' w.heap.size w'.heap.size vm (Co.lessL B.l l0)) ∨
     (B.code ≠ 0 ∧ ∃ v, e = .returned (.tuple #[.agg #[.slice none 0 0, .slice none 0 0], v]) ∧ ErrW w.heap.size w' v B.code B.at_ B.inn))

/-- Two slices stored into a block of two cells. -/
theorem two_set {w : World} {n : Nat} {x y : Value} {T : TypeId} (h : w.heap[n]? = some (.cells #[x, y] T (0, 0))) (u v : Value) :
    ((w.setCell ⟨n, 0, none⟩ u).setCell ⟨n, 1, none⟩ v).cell? ⟨n, 0, none⟩ = some u ∧ ((w.setCell ⟨n, 0, none⟩ u).setCell ⟨n, 1, none⟩ v).cell? ⟨n, 1, none⟩ = some v := by
  have h0 : w.cell? ⟨n, 0, none⟩ = some x := Co.cell_in h rfl
  have h1 : w.cell? ⟨n, 1, none⟩ = some y := Co.cell_in h rfl
  refine ⟨?_, ?_⟩
  · rw [World.cell?_setCell_other _ _ _ _ (by simp)]
    exact World.cell?_setCell_same _ _ _ h0
  · exact World.cell?_setCell_same _ _ _ ((World.cell?_setCell_other _ _ _ _ (by simp)).trans h1)
theorem two_tn {s : List Nat} {a w : World} {n : Nat} (h : Tn s a w) (hn : a.heap.size ≤ n) (u v : Value) : Tn s a ((w.setCell ⟨n, 0, none⟩ u).setCell ⟨n, 1, none⟩ v) :=
  ⟨h.os, h.tape, h.output, by rw [World.size_setCell, World.size_setCell]; exact h.size, fun k hk hs => (Below.heap_setCell _ _ _ _ (by simp; omega)).trans ((Below.heap_setCell _ _ _ _ (by simp; omega)).trans (h.block k hk hs))⟩
theorem two_other {w : World} {n k : Nat} (hk : k ≠ n) (u v : Value) : ((w.setCell ⟨n, 0, none⟩ u).setCell ⟨n, 1, none⟩ v).heap[k]? = w.heap[k]? :=
  (Below.heap_setCell _ _ _ _ (by simpa using hk)).trans (Below.heap_setCell _ _ _ _ (by simpa using hk))

set_option maxHeartbeats 1000000 in
/-- Of a nil set nothing is applied. -/
theorem blk_nil (At : Option Addr) (n ct : Nat) (h : Int) (w : World) :
    Calls Tryz.prog 11 #[.pointer none, .slice At n ct, .int .i64 h] w fun e w' => e = .returned (.tuple #[.agg #[.slice none 0 0, .slice none 0 0], .iface 38 (.int .i64 1)]) ∧ Below w.heap.size w w' := by
  obtain ⟨w0, hw0⟩ : ∃ w0, w0 = w.alloc (.cells #[.slice none 0 0, .slice none 0 0] 31) := ⟨_, rfl⟩
  have hb0 : Below w.heap.size w w0 := by rw [hw0]; exact (Below.refl _ _).alloc (Nat.le_refl _) _
  have hr0 : w0.heap[w.heap.size]? = some (.cells #[.slice none 0 0, .slice none 0 0] 31 (0, 0)) := by rw [hw0]; exact heap_alloc_new _ _
  have c0 : w0.cell? ⟨w.heap.size, 0, none⟩ = some (.slice none 0 0) := Co.cell_in hr0 rfl
  have c1 : w0.cell? ⟨w.heap.size, 1, none⟩ = some (.slice none 0 0) := Co.cell_in hr0 rfl
  have cf := fun o => Lib.frozen_of_heap hr0 o
  have HW0 := Lib.hid hw0
  have B0 := Lib.hid hb0
  have R0 := Lib.hid hr0
  clear hw0 hb0 hr0
  go_enter Tryz.func11, Tryz.ntmps11
  go_upto_region 1 with (fail)
  rw [show World.alloc w _ = w0 from HW0.out.symm]
  go_wp2_with fail
  obtain ⟨W4, hW4⟩ : ∃ W4, W4 = (w0.setCell ⟨w.heap.size, 0, none⟩ (.slice none 0 0)).setCell ⟨w.heap.size, 1, none⟩ (.slice none 0 0) := ⟨_, rfl⟩
  rw [← hW4]
  obtain ⟨t0, t1⟩ := two_set R0.out (.slice none 0 0) (.slice none 0 0)
  rw [← hW4] at t0 t1
  refine bodyPost_ret (v := .tuple #[.agg #[.slice none 0 0, .slice none 0 0], .iface 38 (.int .i64 1)]) (by simp [results, Tryz.results11, go_sem, t0, t1]) rfl ?_
  exact ⟨rfl, by rw [hW4]; exact (B0.out.setCell (p := ⟨w.heap.size, 0, none⟩) (Nat.le_refl _) _).setCell (p := ⟨w.heap.size, 1, none⟩) (Nat.le_refl _) _⟩

set_option maxHeartbeats 2000000 in
theorem blk_any (a b : Nat) (l0 : List Co.EnD) (ts : List TxD) (h : Int) (At : Option Addr) (ct : Nat) (w : World) (lo hi : Nat) (hs : Co.SetIs w a b l0) (ha : Co.Arg l0) (ht : Txs w lo hi (.slice At ts.length ct) ts) (hhi : hi ≤ w.heap.size)
    (hof : ∀ i ∈ [a, b], i < lo ∨ hi ≤ i) (hok : ∀ t ∈ ts, t.Ok) (hlt : ts.length ≤ 100) (hlen : l0.length + outsN ts ≤ 900) (hd : Dr w) (h3 : 3 ≤ a) (h4 : 3 ≤ b) :
    Calls Tryz.prog 11 #[.pointer (some ⟨a, 0, none⟩), .slice At ts.length ct, .int .i64 h] w (ApEnd a b l0 (blkA l0 ts h) w) := by
  have la := hs.lta
  have lb := hs.ltb
  have hw3 := hd.lt
  obtain ⟨w0, hw0⟩ : ∃ w0, w0 = w.alloc (.cells #[.slice none 0 0, .slice none 0 0] 31) := ⟨_, rfl⟩
  have z0 : w0.heap.size = w.heap.size + 1 := by rw [hw0]; simp
  have hb0 : Below w.heap.size w w0 := by rw [hw0]; exact (Below.refl _ _).alloc (Nat.le_refl _) _
  have hr0 : w0.heap[w.heap.size]? = some (.cells #[.slice none 0 0, .slice none 0 0] 31 (0, 0)) := by rw [hw0]; exact heap_alloc_new _ _
  have S0 := Lib.hid (hs.below hb0 la lb)
  have B0 := Lib.hid hb0
  have R0 := Lib.hid hr0
  have HW0 := Lib.hid hw0
  have AG := Lib.hid ha
  have HLT := Lib.hid hlt
  have hmm := @run_makeMap Tryz.prog
  by_cases hg : (decide (0 ≤ h) && decide (h ≤ 1000000)) = true
  · have hh := hg
    simp only [Bool.and_eq_true, decide_eq_true_eq] at hh
    obtain ⟨q1, q2⟩ := hh
    have BO := Lib.hid (blk_ok (l := l0) (xs := ts) q1 q2)
    have BN := Lib.hid (blk_no (l := l0) (xs := ts) q1 q2)
    obtain ⟨P, hP⟩ : ∃ P, blkF h ts 0 l0 = P := ⟨_, rfl⟩
    rw [hP] at BO BN
    obtain ⟨w1, hw1⟩ : ∃ w1, w1 = (w0.alloc (.map #[] 0)).alloc (.cells #[.pointer (some ⟨a, 0, none⟩), .int .i64 h, .map (some (w.heap.size + 1))] 89) := ⟨_, rfl⟩
    have z1 : w1.heap.size = w.heap.size + 3 := by rw [hw1]; simp [z0]
    have hb1 : Below w0.heap.size w0 w1 := by rw [hw1]; exact ((Below.refl _ _).alloc (Nat.le_refl _) _).alloc (by simp) _
    have hg1 : w1.heap[w.heap.size + 2]? = some (.cells #[.pointer (some ⟨a, 0, none⟩), .int .i64 h, .map (some (w.heap.size + 1))] 89 (0, 0)) := by
      rw [hw1, show w.heap.size + 2 = (w0.alloc (.map #[] 0)).heap.size from by simp [z0]]; exact heap_alloc_new _ _
    have hm1 : Co.SMap w1 (w.heap.size + 1) (([] : List Co.PtD).map (Co.spot l0)) := by
      have := Co.SMap.made w0
      rw [z0] at this
      exact this.keep (by rw [hw1]; exact Below.heap_alloc _ _ _ (by simp [z0]))
    have K1 := Lib.hid (show Wk w1 (w.heap.size + 2) a b (w.heap.size + 1) h l0 l0 [] from
      ⟨hg1, S0.out.below hb1 (by omega) (by omega), hm1, Co.Kep.nil l0, by omega, by omega, by omega, by omega, by omega⟩)
    have R1 := Lib.hid (show ∀ V, Tn [a, b, w.heap.size + 1] w1 V → V.heap[w.heap.size]? = some (.cells #[.slice none 0 0, .slice none 0 0] 31 (0, 0)) from fun V hV => (hV.block w.heap.size (by omega) (by simp; omega)).trans ((hb1.block _ (by omega)).trans hr0))
    have hb01 : Below w.heap.size w w1 := below_next hb0 (by omega) hb1
    have B1 := Lib.hid hb01
    have OF := Lib.hid (show ∀ i ∈ [a, b, w.heap.size + 1], i < lo ∨ hi ≤ i from fun i hi' => by
      simp only [List.mem_cons, List.not_mem_nil, or_false] at hi'
      rcases hi' with rfl | rfl | rfl
      · exact hof _ (by simp)
      · exact hof _ (by simp)
      · omega)
    have D3 := Lib.hid (show ∀ i ∈ [a, b, w.heap.size + 1], 3 ≤ i from fun i hi' => by
      simp only [List.mem_cons, List.not_mem_nil, or_false] at hi'
      rcases hi' with rfl | rfl | rfl <;> omega)
    have TX := Lib.hid (fun V (hV : Tn [a, b, w.heap.size + 1] w1 V) => (ht.keep (Kept.of_below hb01 hhi)).keep (hV.kept OF.out (by omega)))
    have DR := Lib.hid (fun V (hV : Tn [a, b, w.heap.size + 1] w1 V) => (hd.below (hb01.mono (Nat.le_refl _))).tn hV D3.out)
    have OK := Lib.hid hok
    have QQ := Lib.hid (And.intro q1 q2)
    have HI := Lib.hid hhi
    have HP := Lib.hid hP
    have HL0 := Lib.hid hlen
    have HW1 := Lib.hid hw1
    have LAB := Lib.hid (And.intro la lb)
    have OF2 := Lib.hid hof
    have n0 : ¬ h < 0 := by omega
    have n1 : ¬ 1000000 < h := by omega
    have n2 : ¬ h > 1000000 := by omega
    obtain ⟨n, hne⟩ : ∃ n, ts.length = n := ⟨_, rfl⟩
    have HNE := Lib.hid hne
    rw [hne] at TX hlt ⊢
    clear hne hg hs ha ht hhi hof hok hlen hd hw0 hb0 hr0 q1 q2 hP hw1 hb1 hg1 hm1 hb01
    have zz0 := Lib.hid z0
    clear z0
    go_enter Tryz.func11, Tryz.ntmps11
    go_upto_region 1 with (fail)
    rw [show World.alloc w _ = w0 from HW0.out.symm]
    go_upto_region 6 with (fail)
    rw [show World.alloc (World.alloc w0 _) _ = w1 from by rw [HW1.out]; rw [zz0.out]]
    rw [show w0.heap.size + 1 = w.heap.size + 2 from by rw [zz0.out]]
    go_wp2_with fail
    go_loopg [31] n (fun gg s31 wr => ∃ (k : Nat) (m : List Co.EnD) (A' : List Co.PtD), k ≤ n ∧ n - k ≤ gg ∧ s31 = .int .i64 (k : Int) ∧ Hid (Wk wr (w.heap.size + 2) a b (w.heap.size + 1) h l0 m A') ∧ Hid (Tn [a, b, w.heap.size + 1] w1 wr) ∧ Hid (blkF h (ts.drop k) k m = P ∧ Co.Arg m ∧ m.length + outsN (ts.drop k) ≤ 900))
    case atStart => exact ⟨0, l0, [], Nat.zero_le _, by omega, rfl, K1, Lib.hid (Tn.refl _ _), Lib.hid ⟨by rw [List.drop_zero]; exact HP.out, AG.out, by rw [List.drop_zero]; exact HL0.out⟩⟩
    case round =>
      obtain ⟨k, m, A', hk, hgk, rfl, HK, HT, HPK⟩ := hrel
      have zwr := HT.out.size
      by_cases hlk : k < n
      · have j1 : (k : Int) < (n : Int) := by omega
        have j2 : decide (k < n) = true := decide_eq_true hlk
        have j3 : ¬ (k : Int) < 0 := by omega
        obtain ⟨t, hx⟩ : ∃ x, ts[k]? = some x := ⟨_, List.getElem?_eq_getElem (by rw [HNE.out]; exact hlk)⟩
        obtain ⟨bi, oi, rfl, g1, g2, c0, ⟨vi, vo, c1, c2, htx⟩, c3⟩ := (TX.out wr HT.out).at hx
        obtain ⟨A1, m1, rfl⟩ := htx.1.form
        obtain ⟨A2, m2, rfl⟩ := htx.2.form
        have hbw : bi < wr.heap.size := by have := HI.out; omega
        have hot := OK.out t (List.mem_of_getElem? hx)
        obtain ⟨fb, hfb⟩ : ∃ fb, ((k : Int) == 0) = fb := ⟨_, rfl⟩
        have hfn : (k == 0) = fb := by rw [← hfb]; cases k <;> rfl
        have hfd : decide ((k : Int) = 0) = fb := by rw [← hfb]; rfl
        obtain ⟨w8, hw8⟩ : ∃ w8, w8 = wr.alloc (.cells #[.int .u32 t.ver, .slice A1 t.ins.length m1, .slice A2 t.outs.length m2, .int .u32 t.lock] 51) := ⟨_, rfl⟩
        have hb8 : Below wr.heap.size wr w8 := by rw [hw8]; exact (Below.refl _ _).alloc (Nat.le_refl _) _
        have z8 : w8.heap.size = wr.heap.size + 1 := by rw [hw8]; simp
        have hh8 : w8.heap[wr.heap.size]? = some (.cells #[.int .u32 t.ver, .slice A1 t.ins.length m1, .slice A2 t.outs.length m2, .int .u32 t.lock] 51 (0, 0)) := by rw [hw8]; exact heap_alloc_new _ _
        have y0 : w8.cell? ⟨wr.heap.size, 0, none⟩ = some (.int .u32 t.ver) := Co.cell_in hh8 rfl
        have y1 : w8.cell? ⟨wr.heap.size, 1, none⟩ = some (.slice A1 t.ins.length m1) := Co.cell_in hh8 rfl
        have y2 : w8.cell? ⟨wr.heap.size, 2, none⟩ = some (.slice A2 t.outs.length m2) := Co.cell_in hh8 rfl
        have y3 : w8.cell? ⟨wr.heap.size, 3, none⟩ = some (.int .u32 t.lock) := Co.cell_in hh8 rfl
        have K8 := Lib.hid (HK.out.below hb8 (Nat.le_refl _))
        have T8 := Lib.hid (HT.out.next hb8)
        have HW8 := Lib.hid hw8
        have CA := Lib.hid (apply_any (w.heap.size + 2) a b (w.heap.size + 1) h l0 m A' t fb lo hi _ _ w8 K8.out (htx.keep (Kept.of_below hb8 (by have := HI.out; omega))) (by have := HI.out; omega) hot OF.out QQ.out.1 QQ.out.2 (DR.out w8 T8.out) D3.out)
        have BG := Lib.hid (blk_go (h := h) (l := m) hx)
        have BS := Lib.hid (blk_stop (h := h) (l := m) hx)
        rw [hfn] at BG BS
        have OKP := Lib.hid (one_keeps (first := fb) hot QQ.out.1 QQ.out.2 HK.out.set.good HPK.out.2.1)
        have HDR := Lib.hid (show outsN (ts.drop k) = t.outs.length + outsN (ts.drop (k + 1)) from by
          obtain ⟨hkk, he⟩ := List.getElem?_eq_some_iff.1 hx
          rw [List.drop_eq_getElem_cons hkk, he]
          simp [outsN])
        obtain ⟨O, hO⟩ : ∃ O, oneA m t fb h = O := ⟨_, rfl⟩
        rw [hO] at CA BG BS OKP
        obtain ⟨i1, hi1⟩ : ∃ i, t.ins.length = i := ⟨_, rfl⟩
        obtain ⟨o1, ho1⟩ : ∃ i, t.outs.length = i := ⟨_, rfl⟩
        rw [hi1, ho1] at CA HW8
        rw [hi1] at c1 y1
        rw [ho1] at c2 y2
        have HOT := Lib.hid ho1
        clear hw8 hb8 hx hh8 htx hot hO hi1 ho1 hfn
        go_upto_region 9 with (fail)
        rw [show World.alloc wr _ = w8 from HW8.out.symm]
        clear c0 c1 c2 c3
        go_wp2_with fail
        refine CA.out.mono ?_
        rintro e w9 ⟨⟨v, rfl, he⟩, ⟨A9, hk9⟩, ht9⟩
        have K9 := Lib.hid hk9
        have T9 := Lib.hid (T8.out.trans ht9)
        have HE := Lib.hid (he.low (show w.heap.size + 1 ≤ w8.heap.size by omega))
        have z9 := ht9.size
        clear hk9 ht9 he y0 y1 y2 y3 CA
        by_cases hz : O.code = 0
        · obtain rfl : v = .nilIface := by have h := HE.out; rw [hz] at h; exact h.none
          have hnn := neq_none
          have G := Lib.hid (BG.out hz)
          clear hz
          go_wp2_with fail
          go_roundg (n - (k + 1))
          case measure => omega
          case rel => exact ⟨k + 1, O.l, A9, by omega, by omega, by go_num, K9, T9, Lib.hid ⟨G.out.symm.trans HPK.out.1, OKP.out.2.1, by have h1 := OKP.out.2.2; have h2 := HPK.out.2.2; rw [HDR.out, HOT.out] at h2; rw [HOT.out] at h1; omega⟩⟩
        · obtain ⟨T, xv, rfl, hT⟩ := HE.out.fault hz
          have hne := neq_errV hT
          have G := Lib.hid ((BS.out hz).symm.trans HPK.out.1)
          have PZ := Lib.hid (show P.code ≠ 0 from by rw [← G.out]; exact hz)
          have LO := Lib.hid (show O.l.length ≤ 900 from by have h1 := OKP.out.2.2; have h2 := HPK.out.2.2; rw [HDR.out, HOT.out] at h2; rw [HOT.out] at h1; omega)
          have CC := Lib.hid (changed_any (w.heap.size + 2) a b (w.heap.size + 1) h l0 O.l A9 w9 K9.out S0.out.good.srt (by have := HL0.out; omega) LO.out)
          clear hz
          go_wp2_with fail
          refine CC.out.mono ?_
          rintro e wA ⟨vs, vm, rfl, es, em, hbA⟩
          obtain ⟨As, cs, rfl⟩ := es.form
          obtain ⟨Am, cm, rfl⟩ := em.form
          have KA := Lib.hid (K9.out.below hbA (Nat.le_refl _))
          have TA := Lib.hid (T9.out.next hbA)
          have EA := Lib.hid (HE.out.below hbA)
          have sl0 := S0.out.good
          have slO := KA.out.set.good
          have CR := Lib.hid (revert_any a b l0 O.l (Co.lessL l0 O.l) (Co.lessL O.l l0) As Am cs cm wA w9.heap.size wA.heap.size KA.out.set es em (Nat.le_refl _)
            (fun i hi' => .inl (by simp only [List.mem_cons, List.not_mem_nil, or_false] at hi'; have := LAB.out; rcases hi' with rfl | rfl <;> omega))
            (fun x hx => sl0.ok x ((Co.less_mem slO.srt).1 hx).1) (fun x hx => slO.ok x ((Co.less_mem sl0.srt).1 hx).1)
            (by have := Co.less_len l0 O.l; have := HL0.out; omega) (by have := Co.less_len O.l l0; have := LO.out; omega)
            (fun _ => ⟨sl0, AG.out, rfl, rfl⟩))
          have zA := hbA.size
          obtain ⟨ls, hls⟩ : ∃ i, (Co.lessL l0 O.l).length = i := ⟨_, rfl⟩
          obtain ⟨lm, hlm⟩ : ∃ i, (Co.lessL O.l l0).length = i := ⟨_, rfl⟩
          have INM := Lib.hid (show ∀ x ∈ Co.lessL O.l l0, Co.inB O.l x = true from fun x hx => (Co.inB_iff slO.srt).2 ((Co.less_mem sl0.srt).1 hx).1)
          rw [hls, hlm] at CR ⊢
          clear es em hbA CC sl0 slO hls hlm
          go_wp2_with fail
          refine CR.out.mono ?_
          rintro e wB ⟨cc, l', rfl, hsB, htB, hres⟩
          obtain ⟨rfl, rfl⟩ : cc = 0 ∧ l' = l0 := by
            rcases hres with ⟨_, _, x, hx, hi⟩ | ⟨h1, h2, _⟩
            · rw [INM.out x hx] at hi; cases hi
            · exact ⟨h1, h2⟩
          have TB := Lib.hid (TA.out.trans (htB.mono (by simp)))
          have SB := Lib.hid hsB
          have zB := htB.size
          have EB := Lib.hid (EA.out.keep htB.size (fun i h1 h2 => htB.block i h2 (by simp; have := LAB.out; omega)))
          obtain ⟨wC, hwC⟩ : ∃ wC, wC = wB.alloc (.cells #[.int .i64 (k : Int), .iface T xv] 94) := ⟨_, rfl⟩
          have hbC : Below wB.heap.size wB wC := by rw [hwC]; exact (Below.refl _ _).alloc (Nat.le_refl _) _
          have zC : wC.heap.size = wB.heap.size + 1 := by rw [hwC]; simp
          have hc : wC.heap[wB.heap.size]? = some (.cells #[.int .i64 (k : Int), .iface T xv] 94 (0, 0)) := by rw [hwC]; exact heap_alloc_new _ _
          have TC := Lib.hid (TB.out.next hbC)
          have RCC := R1.out wC TC.out
          have r0 : wC.cell? ⟨w.heap.size, 0, none⟩ = some (.slice none 0 0) := Co.cell_in RCC rfl
          have r1 : wC.cell? ⟨w.heap.size, 1, none⟩ = some (.slice none 0 0) := Co.cell_in RCC rfl
          have rf := fun o => Lib.frozen_of_heap RCC o
          have hwC2 : wB.alloc (.cells #[.int .i64 (k : Int), .iface T xv] 94) = wC := hwC.symm
          have ZC := Lib.hid zC
          clear hsB htB hres CR hwC zC
          go_wp2_with fail
          obtain ⟨W4, hW4⟩ : ∃ W4, W4 = (wC.setCell ⟨w.heap.size, 0, none⟩ (.slice none 0 0)).setCell ⟨w.heap.size, 1, none⟩ (.slice none 0 0) := ⟨_, rfl⟩
          rw [← hW4]
          obtain ⟨t0, t1⟩ := two_set RCC (.slice none 0 0) (.slice none 0 0)
          have zC := ZC.out
          have oth : ∀ i, i ≠ w.heap.size → W4.heap[i]? = wC.heap[i]? := fun i hi' => by rw [hW4]; exact two_other hi' _ _
          have zW : W4.heap.size = wC.heap.size := by rw [hW4, World.size_setCell, World.size_setCell]
          have TW := two_tn (Tn.drop (t := [a, b]) B1.out TC.out (fun i hi' h1 => by simp only [List.mem_cons, List.not_mem_nil, or_false] at hi' ⊢; rcases hi' with rfl | rfl | rfl <;> first | exact .inl rfl | exact .inr rfl | omega)) (Nat.le_refl _) (.slice none 0 0) (.slice none 0 0)
          rw [← hW4] at t0 t1 TW
          refine bodyPost_ret (v := .tuple #[.agg #[.slice none 0 0, .slice none 0 0], .iface 92 (.pointer (some ⟨wB.heap.size, 0, none⟩))]) (by simp [results, Tryz.results11, go_sem, t0, t1]) rfl ?_
          unfold ApEnd
          rw [BN.out PZ.out]
          refine ⟨(SB.out.below hbC SB.out.lta SB.out.ltb).keep (oth a (by have := LAB.out; omega)) (oth b (by have := LAB.out; omega)), TW, .inr ⟨PZ.out, _, rfl, ?_⟩⟩
          rw [← G.out]
          refine .inr (.inr ⟨?_, by show (0 : Int) ≤ (k : Int); omega, wB.heap.size, .iface T xv, rfl, by omega, by omega, (World.cell?_of_block (w := wC) (a := ⟨wB.heap.size, 0, none⟩) (oth wB.heap.size (by omega))).trans (Co.cell_in hc rfl), (World.cell?_of_block (w := wC) (a := ⟨wB.heap.size, 1, none⟩) (oth wB.heap.size (by omega))).trans (Co.cell_in hc rfl), ?_⟩)
          · have := PZ.out
            rw [← G.out] at this
            exact this
          · exact (EB.out.keep (by omega) (fun i h1 h2 => (oth i (by omega)).trans (hbC.block i h2))).low (by omega)
      · have k2' : decide (k < n) = false := decide_eq_false hlk
        have k3' : decide ((k : Int) < (n : Int)) = false := decide_eq_false (by omega)
        obtain rfl : k = n := by omega
        have G := Lib.hid ((blk_end (h := h) (xs := ts) (k := k) (l := m) (by rw [HNE.out]; exact Nat.le_refl _)).symm.trans HPK.out.1)
        have CC := Lib.hid (changed_any (w.heap.size + 2) a b (w.heap.size + 1) h l0 m A' wr HK.out S0.out.good.srt (by have := HL0.out; omega) (by have := HPK.out.2.2; omega))
        go_wp2_with fail
        refine CC.out.mono ?_
        rintro e wA ⟨vs, vm, rfl, es, em, hbA⟩
        obtain ⟨As, cs, rfl⟩ := es.form
        obtain ⟨Am, cm, rfl⟩ := em.form
        have SA := Lib.hid ((HK.out.below hbA (Nat.le_refl _)).set)
        have TA := Lib.hid (HT.out.next hbA)
        have RCC := R1.out wA TA.out
        have r0 : wA.cell? ⟨w.heap.size, 0, none⟩ = some (.slice none 0 0) := Co.cell_in RCC rfl
        have r1 : wA.cell? ⟨w.heap.size, 1, none⟩ = some (.slice none 0 0) := Co.cell_in RCC rfl
        have rf := fun o => Lib.frozen_of_heap RCC o
        have zA := hbA.size
        have ES := Lib.hid (And.intro es em)
        obtain ⟨ls, hls⟩ : ∃ i, (Co.lessL l0 m).length = i := ⟨_, rfl⟩
        obtain ⟨lm, hlm⟩ : ∃ i, (Co.lessL m l0).length = i := ⟨_, rfl⟩
        rw [hls, hlm] at ES ⊢
        clear es em hbA CC hls hlm
        go_wp2_with fail
        obtain ⟨W4, hW4⟩ : ∃ W4, W4 = (wA.setCell ⟨w.heap.size, 0, none⟩ (.slice As ls cs)).setCell ⟨w.heap.size, 1, none⟩ (.slice Am lm cm) := ⟨_, rfl⟩
        rw [← hW4]
        obtain ⟨t0, t1⟩ := two_set RCC (.slice As ls cs) (.slice Am lm cm)
        have oth : ∀ i, i ≠ w.heap.size → W4.heap[i]? = wA.heap[i]? := fun i hi' => by rw [hW4]; exact two_other hi' _ _
        have zW : W4.heap.size = wA.heap.size := by rw [hW4, World.size_setCell, World.size_setCell]
        have TW := two_tn (Tn.drop (t := [a, b]) B1.out TA.out (fun i hi' h1 => by simp only [List.mem_cons, List.not_mem_nil, or_false] at hi' ⊢; rcases hi' with rfl | rfl | rfl <;> first | exact .inl rfl | exact .inr rfl | omega)) (Nat.le_refl _) (.slice As ls cs) (.slice Am lm cm)
        rw [← hW4] at t0 t1 TW
        refine bodyPost_ret (v := .tuple #[.agg #[.slice As ls cs, .slice Am lm cm], .nilIface]) (by simp [results, Tryz.results11, go_sem, t0, t1]) rfl ?_
        unfold ApEnd
        rw [BO.out (by rw [← G.out]), ← G.out]
        exact ⟨SA.out.keep (oth a (by have := LAB.out; omega)) (oth b (by have := LAB.out; omega)), TW, .inl ⟨rfl, _, _, rfl, (ES.out.1.keep (fun i h1 h2 => oth i (by omega))).wide (by omega) (by omega), (ES.out.2.keep (fun i h1 h2 => oth i (by omega))).wide (by omega) (by omega)⟩⟩
  · have hg' : (decide (0 ≤ h) && decide (h ≤ 1000000)) = false := by simpa using hg
    have BR := Lib.hid (blk_range (l := l0) (xs := ts) hg')
    have r0 : w0.cell? ⟨w.heap.size, 0, none⟩ = some (.slice none 0 0) := Co.cell_in hr0 rfl
    have r1 : w0.cell? ⟨w.heap.size, 1, none⟩ = some (.slice none 0 0) := Co.cell_in hr0 rfl
    have rf := fun o => Lib.frozen_of_heap hr0 o
    have LAB := Lib.hid (And.intro la lb)
    have hc : h < 0 ∨ (¬ h < 0 ∧ 1000000 < h) := by simp at hg; omega
    obtain ⟨W4, hW4⟩ : ∃ W4, W4 = (w0.setCell ⟨w.heap.size, 0, none⟩ (.slice none 0 0)).setCell ⟨w.heap.size, 1, none⟩ (.slice none 0 0) := ⟨_, rfl⟩
    obtain ⟨t0, t1⟩ := two_set R0.out (.slice none 0 0) (.slice none 0 0)
    have oth : ∀ i, i ≠ w.heap.size → W4.heap[i]? = w0.heap[i]? := fun i hi' => by rw [hW4]; exact two_other hi' _ _
    have TW := two_tn (Tn.of_below (s := [a, b]) B0.out) (Nat.le_refl _) (.slice none 0 0) (.slice none 0 0)
    have HE := Lib.hid (show ApEnd a b l0 (blkA l0 ts h) w (.returned (.tuple #[.agg #[.slice none 0 0, .slice none 0 0], .iface 38 (.int .i64 3)])) W4 from by
      unfold ApEnd
      rw [BR.out]
      exact ⟨S0.out.keep (oth a (by omega)) (oth b (by omega)), by rw [hW4]; exact TW, .inr ⟨show (3 : Int) ≠ 0 from by decide, _, rfl, .inr (.inl ⟨show (3 : Int) ≠ 0 from by decide, rfl, rfl, rfl⟩)⟩⟩)
    rw [← hW4] at t0 t1
    have HW4 := Lib.hid hW4
    generalize ts.length = n
    clear hs ha ht hhi hof hok hlen hd hw0 hb0 hr0 hg hg' oth TW hlt hW4 z0 la lb
    rcases hc with h1 | ⟨h1, h2⟩
    · go_enter Tryz.func11, Tryz.ntmps11
      go_upto_region 1 with (fail)
      rw [show World.alloc w _ = w0 from HW0.out.symm]
      go_wp2_with fail
      rw [← HW4.out]
      refine bodyPost_ret (v := .tuple #[.agg #[.slice none 0 0, .slice none 0 0], .iface 38 (.int .i64 3)]) (by simp [results, Tryz.results11, go_sem, t0, t1]) rfl ?_
      exact HE.out
    · have h3' : h > 1000000 := h2
      go_enter Tryz.func11, Tryz.ntmps11
      go_upto_region 1 with (fail)
      rw [show World.alloc w _ = w0 from HW0.out.symm]
      go_wp2_with fail
      rw [← HW4.out]
      refine bodyPost_ret (v := .tuple #[.agg #[.slice none 0 0, .slice none 0 0], .iface 38 (.int .i64 3)]) (by simp [results, Tryz.results11, go_sem, t0, t1]) rfl ?_
      exact HE.out

end Go.Proofs.YtnmfjnfdnjjngaaGreatDoor
