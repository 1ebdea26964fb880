/-
  BlockPlays: the walk.
-/
import Derived.Test.YtnmfjnfdnjjngaaGreatDoorMBst
import Derived.Test.YtnmfjnfdnjjngaaGreatDoorMXwk
import Derived.Deep.CutBlock
import Derived.BigQuiet
import Derived.Deep.RegionHeld3
namespace Go.Proofs.YtnmfjnfdnjjngaaGreatDoor
open Go.RowKit
set_option maxRecDepth 100000

theorem take_at {P : Program} {ops : Array Oper} {Q : Exit → Act → World → Prop} {md : Region.Mode} {S : World → Prop} {i d : Nat} {oi : Oper} {v : Value} {fuel : Nat} {listed : Array Bool} {a : Act} {w : World}
    (hi : ops[i]? = some oi) (hd : oi.dst = some d) (hs : Region.noSelect ops = true) (hf : Region.free md ops listed i = true) (hr : (Region.ready md ops listed).contains i = true)
    (hQ : ∀ c a w, Q (.panic c) (a.put (some d) v) w → Q (.panic c) a w) (hy : YieldsIf P ops S oi v a) (hS : S w)
    (h : wpAnyH P md ops Q S fuel (listed.setIfInBounds i true) (a.put (some d) v) w) : wpAnyH P md ops Q S (fuel + 1) listed a w :=
  wpAnyH_take (oi := oi) (v := v) hi hs hf hr (by rw [hd]; exact hQ) hy hS (by rw [hd]; exact h)

set_option maxHeartbeats 4000000 in
theorem plays_law (zss : List (List SmD)) (A0 : Option Addr) (c0 : Nat) (odd : Int) (w : World) (hd : Dr w) (hz : Bks w 0 w.heap.size (.slice A0 zss.length c0) zss) (ok : BksOk zss) :
    Calls Tryz.prog 3 #[.slice A0 zss.length c0, .int .i64 odd] w fun e w' => e = .returned (.bool true) ∧ Below w.heap.size w w' := by
  have HD := Lib.hid hd
  have BK := Lib.hid (fun V (hV : Below w.heap.size w V) => hz.keep (Kept.of_below hV (Nat.le_refl _)))
  have OK := Lib.hid ok
  have hcap := hz.cap
  have CN := Lib.hid (Co.new_any w)
  obtain ⟨ns, hns⟩ : ∃ n, zss.length = n := ⟨_, rfl⟩
  rw [hns] at BK hcap ⊢
  obtain ⟨n, hn⟩ : ∃ n, min ns 6 = n := ⟨_, rfl⟩
  have hmn : ∀ w, (Builtin.min_ #[3, 3] 3 #[.int .i64 (ns : Int), .int .i64 6]).run Tryz.prog w = .ok (.int .i64 (n : Nat)) w := by rw [← hn]; exact fun w => run_min_nat 6 #[3, 3] 3 ns w
  have hn1 : n ≤ ns := by omega
  have hn6 : n ≤ 6 := by omega
  have hnc : n ≤ c0 := by omega
  have hm0 : ns ≤ maxLen := by have := OK.out.1; omega
  have z1 : (n : Int) ≤ (c0 : Int) := by omega
  have z2 : ¬ (n : Int) < 0 := by omega
  have HN := Lib.hid hns
  have NN := neq_nilnil
  clear hd hz ok hns hn
  go_enter Tryz.func3, Tryz.ntmps3
  go_wp2_with fail
  refine CN.out.mono ?_
  rintro e w1 ⟨rfl, s1, b1, zz1⟩
  have S1 := Lib.hid (BSt.start HD.out s1 b1 zz1)
  obtain ⟨a, ha⟩ : ∃ a, a = w.heap.size + 1 := ⟨_, rfl⟩
  obtain ⟨lo, hlo⟩ : ∃ a, a = w.heap.size + 2 := ⟨_, rfl⟩
  rw [← ha, ← hlo] at S1
  rw [← ha]
  clear s1 b1 zz1 CN ha hlo
  go_wp2_with fail
  go_loopg [6, 28] n (fun gg s6 s28 wr => ∃ (k : Nat) (m : List Co.EnD) (Am : Option Addr) (cm : Nat), k ≤ n ∧ n - k ≤ gg ∧ s28 = .int .i64 (k : Int) ∧ s6 = .slice Am m.length cm ∧ Hid (BSt w a w.heap.size lo m (.slice Am m.length cm) (20 * k) wr))
  case atStart => exact ⟨0, [], none, 0, Nat.zero_le _, by omega, rfl, rfl, S1⟩
  case round =>
    obtain ⟨k, m, Am, cm, hk, hgk, rfl, rfl, HS⟩ := hrel
    by_cases hlt : k < n
    · have j1 : (k : Int) < (n : Int) := by omega
      have j2 : decide (k < n) = true := decide_eq_true hlt
      have j3 : ¬ (k : Int) < 0 := by omega
      obtain ⟨zs, hzk⟩ : ∃ z, zss[k]? = some z := ⟨_, List.getElem?_eq_getElem (by rw [HN.out]; omega)⟩
      obtain ⟨bz, oz, rfl, _, gz, vz, c1, hs⟩ := (BK.out wr HS.out.bel).at hzk
      rw [Nat.mul_one] at c1
      obtain ⟨As, cs, rfl⟩ := hs.form
      obtain ⟨h, hh⟩ : ∃ h : Int, (k : Int) + 1 = h := ⟨_, rfl⟩
      have h1 : 0 ≤ h := by omega
      have h2 : h ≤ 1000000 := by omega
      have wk : IntKind.i64.wrap ((k : Int) + 1) = h := by rw [IntWalk.i64_in _ (by omega)]; exact hh
      have CM := Lib.hid (HS.out.made (by omega) (hs.wide (Nat.le_refl _) HS.out.bel.size) (OK.out.2 zs (List.mem_of_getElem? hzk)) h1 h2)
      obtain ⟨ml, hml⟩ : ∃ x, m.length = x := ⟨_, rfl⟩
      obtain ⟨zl, hzl⟩ : ∃ x, zs.length = x := ⟨_, rfl⟩
      rw [hml, hzl] at CM
      rw [hml]
      rw [hzl] at c1
      have HML := Lib.hid hml
      have HH := Lib.hid hh
      clear hs hzk hml hzl hh
      go_wp2_with fail
      refine CM.out.mono ?_
      rintro e w2 ⟨At, ct, ts, rfl, HT, HB2⟩
      have S2 := Lib.hid (HS.out.below HB2.out)
      have CA := Lib.hid (S2.out.apply (by omega) HT.out HS.out.le h)
      have KP := Lib.hid (S2.out.keeps HT.out h)
      have BZ := Lib.hid (blk_zero (l := m) (xs := ts) (h := h))
      have BS := Lib.hid (blk_same (l := m) (xs := ts) (h := h))
      have SL := Lib.hid S2.out.set.good.srt
      obtain ⟨B, hB⟩ : ∃ B, blkA m ts h = B := ⟨_, rfl⟩
      rw [hB] at CA KP BZ BS
      have HBB := Lib.hid hB
      obtain ⟨tl, htl⟩ : ∃ x, ts.length = x := ⟨_, rfl⟩
      rw [htl] at CA
      rw [htl]
      have HTL := Lib.hid htl
      clear hB htl c1 CM
      go_wp2_with fail
      refine CA.out.mono ?_
      rintro e w3 (⟨As', cs', Am', cm', hc, rfl, HE, HSt, HTn⟩ | ⟨v, hc, rfl, HE, HSt, HTn⟩)
      · obtain ⟨p1, hp1⟩ : ∃ x, (Co.lessL m B.l).length = x := ⟨_, rfl⟩
        obtain ⟨p2, hp2⟩ : ∃ x, (Co.lessL B.l m).length = x := ⟨_, rfl⟩
        rw [hp1, hp2] at HE
        rw [hp1, hp2]
        have HP12 := Lib.hid (And.intro hp1 hp2)
        have SSX := HSt
        have HEX : Hid (ErrW w2.heap.size w3 .nilIface B.code B.at_ B.inn) := Lib.hid (.inl ⟨hc, (BZ.out hc).1, (BZ.out hc).2, rfl⟩)
        clear hp1 hp2
        obtain ⟨w4, hw4⟩ : ∃ w4, w4 = w3.alloc (.cells #[.slice As' p1 cs', .slice Am' p2 cm'] 31) := ⟨_, rfl⟩
        have b4 : Below w3.heap.size w3 w4 := by rw [hw4]; exact (Below.refl _ _).alloc (Nat.le_refl _) _
        have h4 : w4.heap[w3.heap.size]? = some (.cells #[.slice As' p1 cs', .slice Am' p2 cm'] 31 (0, 0)) := by rw [hw4]; exact heap_alloc_new _ _
        have T4 := Lib.hid (HTn.out.next b4)
        have HT4 := Lib.hid (HT.out.turn T4.out (S2.out.lts HS.out.le))
        have SS4 := Lib.hid (SSX.out.below b4 SSX.out.lta SSX.out.ltb)
        have H4 := Lib.hid h4
        have lt4 : w3.heap.size < w4.heap.size := by rw [hw4]; simp
        have B4 := Lib.hid b4
        have CR := Lib.hid (S2.out.rap T4.out (by omega) HT4.out h)
        rw [HBB.out, HML.out, HTL.out] at CR
        have W4 := Lib.hid (show w3.alloc (.cells #[.slice As' p1 cs', .slice Am' p2 cm'] 31) = w4 from hw4.symm)
        clear hw4 b4 h4
        go_upto_region 9 with (fail)
        rw [W4.out]
        go_wp2_with fail
        refine CR.out.mono ?_
        rintro e w5 ⟨A5, c5, rfl, HE5, HB5⟩
        have S5 := Lib.hid (S2.out.next SS4.out T4.out HE5.out HB5.out KP.out.2.1 KP.out.2.2)
        have E5 := Lib.hid (HEX.out.below (B4.out.trans (HB5.out.mono (Nat.le_of_lt lt4))))
        have U5 := Lib.hid (HE5.out)
        obtain ⟨l5, hl5⟩ : ∃ x, B.l.length = x := ⟨_, rfl⟩
        have NE := eq_nilnil
        rw [hc] at E5
        rw [hc]
        obtain ⟨o2, ho2⟩ : ∃ x, B.at_ = x := ⟨_, rfl⟩
        obtain ⟨o3, ho3⟩ : ∃ x, B.inn = x := ⟨_, rfl⟩
        rw [ho2, ho3] at E5
        rw [hl5, ho2, ho3]
        rw [hl5] at U5
        have HL5 := Lib.hid hl5
        have q2 : (o2 != o2) = false := by simp
        have q3 : (o3 != o3) = false := by simp
        have CC := Lib.hid (code_errw E5.out S5.out.dr.err)
        have lt5 : w3.heap.size < w5.heap.size := by have := HB5.out.size; omega
        clear hl5 ho2 ho3
        go_wp2_with fail
        refine CC.out.mono ?_
        rintro e w6 ⟨rfl, hb6⟩
        have B6 := Lib.hid hb6
        have CP := Lib.hid (place_errw (E5.out.below B6.out) (S5.out.dr.below B6.out).err)
        clear hb6
        go_wp2_with fail
        refine CP.out.mono ?_
        rintro e w7 ⟨rfl, hb7⟩
        have B7 := Lib.hid (below_next B6.out B6.out.size hb7)
        have CI := Lib.hid (inner_errw (E5.out.below B7.out) (S5.out.dr.below B7.out).err)
        clear hb7
        go_wp2_with fail
        refine CI.out.mono ?_
        rintro e w8 ⟨rfl, hb8⟩
        have B8 := Lib.hid (below_next B7.out B7.out.size hb8)
        have CS := Lib.hid (Co.same_any a w.heap.size B.l A5 l5 c5 w8 lo w5.heap.size (S5.out.below B8.out).set (U5.out.keep (Kept.of_below B8.out (Nat.le_refl _))) B8.out.size (by have := S5.out.len; omega))
        clear hb8
        go_wp2_with fail
        refine CS.out.mono ?_
        rintro e w9 ⟨rfl, hb9⟩
        have B9 := Lib.hid (below_next B8.out B8.out.size hb9)
        have S9 := Lib.hid (S5.out.below B9.out)
        have U9 := Lib.hid (U5.out.keep (Kept.of_below B9.out (Nat.le_refl _)))
        have z9 := B9.out.size
        have F9 := Lib.hid (show Below w4.heap.size w4 w9 from HB5.out.trans (B9.out.mono HB5.out.size))
        have d0 : w9.cell? ⟨w3.heap.size, 0, none⟩ = some (.slice As' p1 cs') := Co.cell_in ((F9.out.block _ lt4).trans H4.out) rfl
        have d1 : w9.cell? ⟨w3.heap.size, 1, none⟩ = some (.slice Am' p2 cm') := Co.cell_in ((F9.out.block _ lt4).trans H4.out) rfl
        have lt9 : w3.heap.size < w9.heap.size := by omega
        clear hb9
        have X9 := Lib.hid (show Co.Ents w9 w2.heap.size w3.heap.size (.slice As' p1 cs') (Co.lessL m B.l) ∧ Co.Ents w9 w2.heap.size w3.heap.size (.slice Am' p2 cm') (Co.lessL B.l m) from
          ⟨(HE.out.1.keep (Kept.of_below B4.out (Nat.le_refl _))).keep (Kept.of_below F9.out (Nat.le_of_lt lt4)), (HE.out.2.keep (Kept.of_below B4.out (Nat.le_refl _))).keep (Kept.of_below F9.out (Nat.le_of_lt lt4))⟩)
        have M9 := Lib.hid (show Co.Ents w9 lo w2.heap.size (.slice Am ml cm) m from by
          have h1 := S2.out.ents
          rw [HML.out] at h1
          exact ((h1.keep (HTn.out.kept (S2.out.off (Nat.le_refl _)) (Nat.le_refl _))).keep (Kept.of_below B4.out HTn.out.size)).keep (Kept.of_below F9.out (by have := HTn.out.size; omega)))
        have lnm : m.length ≤ 900 := by have := S2.out.len; omega
        have lnb : B.l.length ≤ 900 := by have := S5.out.len; omega
        have SB := Lib.hid S5.out.set.good.srt
        have zz2 : w2.heap.size ≤ w9.heap.size := by have := HTn.out.size; omega
        have C1 := Lib.hid (show Calls Tryz.prog 18 #[.slice Am ml cm, .slice A5 l5 c5] w9.drew fun e V => (∃ E k, e = .returned (.slice E p1 k) ∧ Hid (Below w9.heap.size w9 V ∧ Co.Ents V w9.heap.size V.heap.size (.slice E p1 k) (Co.lessL m B.l))) ∧ V.cell? ⟨w3.heap.size, 0, none⟩ = some (.slice As' p1 cs') ∧ V.cell? ⟨w3.heap.size, 1, none⟩ = some (.slice Am' p2 cm') from by
          have C := Co.lss_any Am cm m A5 c5 B.l w9.drew lo w2.heap.size lo w5.heap.size (by rw [HML.out]; exact M9.out) zz2 (by rw [HL5.out]; exact U9.out) z9 SB.out lnm lnb
          rw [HML.out, HL5.out] at C
          refine C.mono fun e V ⟨v, he, hen, hb⟩ => ?_
          obtain ⟨E, k, hv⟩ := hen.form
          rw [HP12.out.1] at hv
          subst hv
          have hb' : Below w9.heap.size w9 V := ⟨hb.os, hb.tape, hb.output, hb.size, hb.block⟩
          exact ⟨⟨E, k, he, Lib.hid ⟨hb', hen⟩⟩, (hb'.cell (p := ⟨w3.heap.size, 0, none⟩) lt9).trans d0, (hb'.cell (p := ⟨w3.heap.size, 1, none⟩) lt9).trans d1⟩)
        have C2 := Lib.hid (show ∀ V E k, Hid (Below w9.heap.size w9 V ∧ Co.Ents V w9.heap.size V.heap.size (.slice E p1 k) (Co.lessL m B.l)) → (V.cell? ⟨w3.heap.size, 0, none⟩ = some (.slice As' p1 cs') ∧ V.cell? ⟨w3.heap.size, 1, none⟩ = some (.slice Am' p2 cm')) → Calls Tryz.prog 17 #[.slice As' p1 cs', .slice E p1 k] V fun e V' => e = .returned (.bool true) ∧ Hid (Below w9.heap.size w9 V') ∧ V'.cell? ⟨w3.heap.size, 0, none⟩ = some (.slice As' p1 cs') ∧ V'.cell? ⟨w3.heap.size, 1, none⟩ = some (.slice Am' p2 cm') from fun V E k hV hC => by
          have hsz := hV.out.1.size
          refine (Co.listed_any (Co.lessL m B.l) As' p1 cs' E p1 k V _ _ _ _ (X9.out.1.keep (Kept.of_below hV.out.1 (Nat.le_of_lt lt9))) hV.out.2 (by omega) (Nat.le_refl _) (Nat.le_trans (Co.less_len _ _) lnm)).mono fun e V' ⟨he, hb⟩ => ?_
          exact ⟨he, Lib.hid (below_next hV.out.1 hsz hb), (hb.cell (p := ⟨w3.heap.size, 0, none⟩) (by show w3.heap.size < _; omega)).trans hC.1, (hb.cell (p := ⟨w3.heap.size, 1, none⟩) (by show w3.heap.size < _; omega)).trans hC.2⟩)
        have C3 := Lib.hid (show ∀ V, Hid (Below w9.heap.size w9 V) → (V.cell? ⟨w3.heap.size, 0, none⟩ = some (.slice As' p1 cs') ∧ V.cell? ⟨w3.heap.size, 1, none⟩ = some (.slice Am' p2 cm')) → Calls Tryz.prog 18 #[.slice A5 l5 c5, .slice Am ml cm] V fun e V' => (∃ E k, e = .returned (.slice E p2 k) ∧ Hid (Below w9.heap.size w9 V' ∧ Co.Ents V' V.heap.size V'.heap.size (.slice E p2 k) (Co.lessL B.l m))) ∧ V'.cell? ⟨w3.heap.size, 0, none⟩ = some (.slice As' p1 cs') ∧ V'.cell? ⟨w3.heap.size, 1, none⟩ = some (.slice Am' p2 cm') from fun V hV hC => by
          have hsz := hV.out.size
          have C := Co.lss_any A5 c5 B.l Am cm m V lo w5.heap.size lo w2.heap.size (by rw [HL5.out]; exact U9.out.keep (Kept.of_below hV.out z9)) (by omega) (by rw [HML.out]; exact M9.out.keep (Kept.of_below hV.out zz2)) (by omega) SL.out lnb lnm
          rw [HML.out, HL5.out] at C
          refine C.mono fun e V' ⟨v, he, hen, hb⟩ => ?_
          obtain ⟨E, k, hv⟩ := hen.form
          rw [HP12.out.2] at hv
          subst hv
          exact ⟨⟨E, k, he, Lib.hid ⟨below_next hV.out hsz hb, hen⟩⟩, (hb.cell (p := ⟨w3.heap.size, 0, none⟩) (by show w3.heap.size < _; omega)).trans hC.1, (hb.cell (p := ⟨w3.heap.size, 1, none⟩) (by show w3.heap.size < _; omega)).trans hC.2⟩)
        have C4 := Lib.hid (show ∀ V q E k, Hid (Below w9.heap.size w9 V ∧ Co.Ents V q V.heap.size (.slice E p2 k) (Co.lessL B.l m)) → (V.cell? ⟨w3.heap.size, 0, none⟩ = some (.slice As' p1 cs') ∧ V.cell? ⟨w3.heap.size, 1, none⟩ = some (.slice Am' p2 cm')) → Calls Tryz.prog 17 #[.slice Am' p2 cm', .slice E p2 k] V fun e V' => e = .returned (.bool true) ∧ Hid (Below w9.heap.size w9 V') ∧ V'.cell? ⟨w3.heap.size, 0, none⟩ = some (.slice As' p1 cs') ∧ V'.cell? ⟨w3.heap.size, 1, none⟩ = some (.slice Am' p2 cm') from fun V q E k hV hC => by
          have hsz := hV.out.1.size
          refine (Co.listed_any (Co.lessL B.l m) Am' p2 cm' E p2 k V _ _ _ _ (X9.out.2.keep (Kept.of_below hV.out.1 (Nat.le_of_lt lt9))) hV.out.2 (by omega) (Nat.le_refl _) (Nat.le_trans (Co.less_len _ _) lnb)).mono fun e V' ⟨he, hb⟩ => ?_
          exact ⟨he, Lib.hid (below_next hV.out.1 hsz hb), (hb.cell (p := ⟨w3.heap.size, 0, none⟩) (by show w3.heap.size < _; omega)).trans hC.1, (hb.cell (p := ⟨w3.heap.size, 1, none⟩) (by show w3.heap.size < _; omega)).trans hC.2⟩)
        have NN2 := neq_nilnil
        go_wp2_with fail
        refine wp_region_held_drew (S := fun V => V.cell? ⟨w3.heap.size, 0, none⟩ = some (.slice As' p1 cs') ∧ V.cell? ⟨w3.heap.size, 1, none⟩ = some (.slice Am' p2 cm')) (by kernel_rfl) ?_ (fun hHeld => ?_)
        · exact ⟨d0, d1⟩
        refine take_at (i := 0) (d := 86) (v := ?vq1) rfl rfl (by kernel_rfl) (by kernel_rfl) (by kernel_rfl) (fun _ _ _ h => h) (Or.inl ⟨by rfl, ?yq1⟩) hHeld ?rq1
        case yq1 => (intro w hSw; obtain ⟨l0, l1⟩ := hSw; go_simp; try with_reducible rfl)
        simp only [Act.put, List.setIfInBounds_toArray, List.set_cons_zero, List.set_cons_succ]
        refine take_at (i := 1) (d := 87) (v := ?vq2) rfl rfl (by kernel_rfl) (by kernel_rfl) (by kernel_rfl) (fun _ _ _ h => h) (Or.inl ⟨by rfl, ?yq2⟩) hHeld ?rq2
        case yq2 => (intro w hSw; obtain ⟨l0, l1⟩ := hSw; go_simp; try with_reducible rfl)
        simp only [Act.put, List.setIfInBounds_toArray, List.set_cons_zero, List.set_cons_succ]
        refine take_at (i := 2) (d := 88) (v := ?vq3) rfl rfl (by kernel_rfl) (by kernel_rfl) (by kernel_rfl) (fun _ _ _ h => h) (Or.inl ⟨by rfl, ?yq3⟩) hHeld ?rq3
        case yq3 => (intro w hSw; obtain ⟨l0, l1⟩ := hSw; go_simp; try with_reducible rfl)
        simp only [Act.put, List.setIfInBounds_toArray, List.set_cons_zero, List.set_cons_succ]
        refine take_at (i := 3) (d := 89) (v := undef) rfl rfl (by kernel_rfl) (by kernel_rfl) (by kernel_rfl) (fun _ _ _ h => h) (Or.inr ⟨by rfl, rfl⟩) hHeld ?_
        simp only [Act.put, List.setIfInBounds_toArray, List.set_cons_zero, List.set_cons_succ]
        refine take_at (i := 4) (d := 90) (v := undef) rfl rfl (by kernel_rfl) (by kernel_rfl) (by kernel_rfl) (fun _ _ _ h => h) (Or.inr ⟨by rfl, rfl⟩) hHeld ?_
        simp only [Act.put, List.setIfInBounds_toArray, List.set_cons_zero, List.set_cons_succ]
        refine take_at (i := 5) (d := 91) (v := undef) rfl rfl (by kernel_rfl) (by kernel_rfl) (by kernel_rfl) (fun _ _ _ h => h) (Or.inr ⟨by rfl, rfl⟩) hHeld ?_
        simp only [Act.put, List.setIfInBounds_toArray, List.set_cons_zero, List.set_cons_succ]
        refine take_at (i := 6) (d := 92) (v := undef) rfl rfl (by kernel_rfl) (by kernel_rfl) (by kernel_rfl) (fun _ _ _ h => h) (Or.inr ⟨by rfl, rfl⟩) hHeld ?_
        simp only [Act.put, List.setIfInBounds_toArray, List.set_cons_zero, List.set_cons_succ]
        refine take_at (i := 7) (d := 93) (v := undef) rfl rfl (by kernel_rfl) (by kernel_rfl) (by kernel_rfl) (fun _ _ _ h => h) (Or.inr ⟨by rfl, rfl⟩) hHeld ?_
        simp only [Act.put, List.setIfInBounds_toArray, List.set_cons_zero, List.set_cons_succ]
        refine take_at (i := 8) (d := 94) (v := undef) rfl rfl (by kernel_rfl) (by kernel_rfl) (by kernel_rfl) (fun _ _ _ h => h) (Or.inr ⟨by rfl, rfl⟩) hHeld ?_
        simp only [Act.put, List.setIfInBounds_toArray, List.set_cons_zero, List.set_cons_succ]
        refine take_at (i := 9) (d := 95) (v := undef) rfl rfl (by kernel_rfl) (by kernel_rfl) (by kernel_rfl) (fun _ _ _ h => h) (Or.inr ⟨by rfl, rfl⟩) hHeld ?_
        simp only [Act.put, List.setIfInBounds_toArray, List.set_cons_zero, List.set_cons_succ]
        refine take_at (i := 10) (d := 96) (v := undef) rfl rfl (by kernel_rfl) (by kernel_rfl) (by kernel_rfl) (fun _ _ _ h => h) (Or.inr ⟨by rfl, rfl⟩) hHeld ?_
        simp only [Act.put, List.setIfInBounds_toArray, List.set_cons_zero, List.set_cons_succ]
        refine take_at (i := 11) (d := 97) (v := undef) rfl rfl (by kernel_rfl) (by kernel_rfl) (by kernel_rfl) (fun _ _ _ h => h) (Or.inr ⟨by rfl, rfl⟩) hHeld ?_
        simp only [Act.put, List.setIfInBounds_toArray, List.set_cons_zero, List.set_cons_succ]
        refine take_at (i := 12) (d := 98) (v := undef) rfl rfl (by kernel_rfl) (by kernel_rfl) (by kernel_rfl) (fun _ _ _ h => h) (Or.inr ⟨by rfl, rfl⟩) hHeld ?_
        simp only [Act.put, List.setIfInBounds_toArray, List.set_cons_zero, List.set_cons_succ]
        refine take_at (i := 13) (d := 99) (v := ?vq14) rfl rfl (by kernel_rfl) (by kernel_rfl) (by kernel_rfl) (fun _ _ _ h => h) (Or.inl ⟨by rfl, ?yq14⟩) hHeld ?rq14
        case yq14 => (intro w hSw; obtain ⟨l0, l1⟩ := hSw; go_simp; try with_reducible rfl)
        simp only [Act.put, List.setIfInBounds_toArray, List.set_cons_zero, List.set_cons_succ]
        refine take_at (i := 14) (d := 100) (v := ?vq15) rfl rfl (by kernel_rfl) (by kernel_rfl) (by kernel_rfl) (fun _ _ _ h => h) (Or.inl ⟨by rfl, ?yq15⟩) hHeld ?rq15
        case yq15 => (intro w hSw; obtain ⟨l0, l1⟩ := hSw; go_simp; try with_reducible rfl)
        simp only [Act.put, List.setIfInBounds_toArray, List.set_cons_zero, List.set_cons_succ]
        refine take_at (i := 15) (d := 101) (v := ?vq16) rfl rfl (by kernel_rfl) (by kernel_rfl) (by kernel_rfl) (fun _ _ _ h => h) (Or.inl ⟨by rfl, ?yq16⟩) hHeld ?rq16
        case yq16 => (intro w hSw; obtain ⟨l0, l1⟩ := hSw; go_simp; try with_reducible rfl)
        simp only [Act.put, List.setIfInBounds_toArray, List.set_cons_zero, List.set_cons_succ]
        refine take_at (i := 16) (d := 102) (v := ?vq17) rfl rfl (by kernel_rfl) (by kernel_rfl) (by kernel_rfl) (fun _ _ _ h => h) (Or.inl ⟨by rfl, ?yq17⟩) hHeld ?rq17
        case yq17 => (intro w hSw; obtain ⟨l0, l1⟩ := hSw; go_simp; try with_reducible rfl)
        simp only [Act.put, List.setIfInBounds_toArray, List.set_cons_zero, List.set_cons_succ]
        refine take_at (i := 17) (d := 103) (v := ?vq18) rfl rfl (by kernel_rfl) (by kernel_rfl) (by kernel_rfl) (fun _ _ _ h => h) (Or.inl ⟨by rfl, ?yq18⟩) hHeld ?rq18
        case yq18 => (intro w hSw; obtain ⟨l0, l1⟩ := hSw; go_simp; try with_reducible rfl)
        simp only [Act.put, List.setIfInBounds_toArray, List.set_cons_zero, List.set_cons_succ]
        refine take_at (i := 18) (d := 104) (v := ?vq19) rfl rfl (by kernel_rfl) (by kernel_rfl) (by kernel_rfl) (fun _ _ _ h => h) (Or.inl ⟨by rfl, ?yq19⟩) hHeld ?rq19
        case yq19 => (intro w hSw; obtain ⟨l0, l1⟩ := hSw; go_simp; try with_reducible rfl)
        simp only [Act.put, List.setIfInBounds_toArray, List.set_cons_zero, List.set_cons_succ]
        refine take_at (i := 19) (d := 105) (v := ?vq20) rfl rfl (by kernel_rfl) (by kernel_rfl) (by kernel_rfl) (fun _ _ _ h => h) (Or.inl ⟨by rfl, ?yq20⟩) hHeld ?rq20
        case yq20 => (intro w hSw; obtain ⟨l0, l1⟩ := hSw; go_simp; try with_reducible rfl)
        simp only [Act.put, List.setIfInBounds_toArray, List.set_cons_zero, List.set_cons_succ]
        refine take_at (i := 20) (d := 106) (v := ?vq21) rfl rfl (by kernel_rfl) (by kernel_rfl) (by kernel_rfl) (fun _ _ _ h => h) (Or.inl ⟨by rfl, ?yq21⟩) hHeld ?rq21
        case yq21 => (intro w hSw; obtain ⟨l0, l1⟩ := hSw; go_simp; try with_reducible rfl)
        simp only [Act.put, List.setIfInBounds_toArray, List.set_cons_zero, List.set_cons_succ]
        refine take_at (i := 21) (d := 107) (v := ?vq22) rfl rfl (by kernel_rfl) (by kernel_rfl) (by kernel_rfl) (fun _ _ _ h => h) (Or.inl ⟨by rfl, ?yq22⟩) hHeld ?rq22
        case yq22 => (intro w hSw; obtain ⟨l0, l1⟩ := hSw; go_simp; try with_reducible rfl)
        simp only [Act.put, List.setIfInBounds_toArray, List.set_cons_zero, List.set_cons_succ]
        refine wpAnyH_ready (rs := [22]) (by kernel_rfl) (by simp) ?_
        refine AllReadyH.cons rfl (fun K hK => ?_) AllReadyH.nil
        go_simp
        go_at_call 18
        refine C1.out.mono ?_
        rintro e x1 ⟨⟨E1, k1, rfl, h1⟩, y0, y1⟩
        refine hK.out _ _ ⟨y0, y1⟩ (fun hHeld => ?_)
        clear hK K
        try simp only [Act.put, List.setIfInBounds_toArray, List.set_cons_zero, List.set_cons_succ]
        refine wpAnyH_ready (rs := [23]) (by kernel_rfl) (by simp) ?_
        refine AllReadyH.cons rfl (fun K hK => ?_) AllReadyH.nil
        go_simp
        go_at_call 17
        refine (C2.out _ _ _ h1 hHeld).mono ?_
        rintro e x2 ⟨rfl, h2, y2, y3⟩
        refine hK.out _ _ ⟨y2, y3⟩ (fun hHeld => ?_)
        clear hK K
        try simp only [Act.put, List.setIfInBounds_toArray, List.set_cons_zero, List.set_cons_succ]
        refine take_at (i := 24) (d := 110) (v := ?vq23) rfl rfl (by kernel_rfl) (by kernel_rfl) (by kernel_rfl) (fun _ _ _ h => h) (Or.inl ⟨by rfl, ?yq23⟩) hHeld ?rq23
        case yq23 => (intro w hSw; obtain ⟨l0, l1⟩ := hSw; go_simp; try with_reducible rfl)
        simp only [Act.put, List.setIfInBounds_toArray, List.set_cons_zero, List.set_cons_succ]
        refine take_at (i := 25) (d := 111) (v := ?vq24) rfl rfl (by kernel_rfl) (by kernel_rfl) (by kernel_rfl) (fun _ _ _ h => h) (Or.inl ⟨by rfl, ?yq24⟩) hHeld ?rq24
        case yq24 => (intro w hSw; obtain ⟨l0, l1⟩ := hSw; go_simp; try with_reducible rfl)
        simp only [Act.put, List.setIfInBounds_toArray, List.set_cons_zero, List.set_cons_succ]
        refine take_at (i := 26) (d := 112) (v := ?vq25) rfl rfl (by kernel_rfl) (by kernel_rfl) (by kernel_rfl) (fun _ _ _ h => h) (Or.inl ⟨by rfl, ?yq25⟩) hHeld ?rq25
        case yq25 => (intro w hSw; obtain ⟨l0, l1⟩ := hSw; go_simp; try with_reducible rfl)
        simp only [Act.put, List.setIfInBounds_toArray, List.set_cons_zero, List.set_cons_succ]
        refine take_at (i := 27) (d := 113) (v := ?vq26) rfl rfl (by kernel_rfl) (by kernel_rfl) (by kernel_rfl) (fun _ _ _ h => h) (Or.inl ⟨by rfl, ?yq26⟩) hHeld ?rq26
        case yq26 => (intro w hSw; obtain ⟨l0, l1⟩ := hSw; go_simp; try with_reducible rfl)
        simp only [Act.put, List.setIfInBounds_toArray, List.set_cons_zero, List.set_cons_succ]
        refine take_at (i := 28) (d := 114) (v := ?vq27) rfl rfl (by kernel_rfl) (by kernel_rfl) (by kernel_rfl) (fun _ _ _ h => h) (Or.inl ⟨by rfl, ?yq27⟩) hHeld ?rq27
        case yq27 => (intro w hSw; obtain ⟨l0, l1⟩ := hSw; go_simp; try with_reducible rfl)
        simp only [Act.put, List.setIfInBounds_toArray, List.set_cons_zero, List.set_cons_succ]
        refine take_at (i := 29) (d := 115) (v := ?vq28) rfl rfl (by kernel_rfl) (by kernel_rfl) (by kernel_rfl) (fun _ _ _ h => h) (Or.inl ⟨by rfl, ?yq28⟩) hHeld ?rq28
        case yq28 => (intro w hSw; obtain ⟨l0, l1⟩ := hSw; go_simp; try with_reducible rfl)
        simp only [Act.put, List.setIfInBounds_toArray, List.set_cons_zero, List.set_cons_succ]
        refine wpAnyH_ready (rs := [30]) (by kernel_rfl) (by simp) ?_
        refine AllReadyH.cons rfl (fun K hK => ?_) AllReadyH.nil
        go_simp
        go_at_call 18
        refine (C3.out _ h2 hHeld).mono ?_
        rintro e x3 ⟨⟨E3, k3, rfl, h3⟩, y4, y5⟩
        refine hK.out _ _ ⟨y4, y5⟩ (fun hHeld => ?_)
        clear hK K
        try simp only [Act.put, List.setIfInBounds_toArray, List.set_cons_zero, List.set_cons_succ]
        refine wpAnyH_ready (rs := [31]) (by kernel_rfl) (by simp) ?_
        refine AllReadyH.cons rfl (fun K hK => ?_) AllReadyH.nil
        go_simp
        go_at_call 17
        refine (C4.out _ _ _ _ h3 hHeld).mono ?_
        rintro e x4 ⟨rfl, h4, y6, y7⟩
        refine hK.out _ _ ⟨y6, y7⟩ (fun hHeld => ?_)
        clear hK K
        try simp only [Act.put, List.setIfInBounds_toArray, List.set_cons_zero, List.set_cons_succ]
        refine take_at (i := 32) (d := 118) (v := ?vq29) rfl rfl (by kernel_rfl) (by kernel_rfl) (by kernel_rfl) (fun _ _ _ h => h) (Or.inl ⟨by rfl, ?yq29⟩) hHeld ?rq29
        case yq29 => (intro w hSw; obtain ⟨l0, l1⟩ := hSw; go_simp; try with_reducible rfl)
        simp only [Act.put, List.setIfInBounds_toArray, List.set_cons_zero, List.set_cons_succ]
        refine take_at (i := 33) (d := 119) (v := ?vq30) rfl rfl (by kernel_rfl) (by kernel_rfl) (by kernel_rfl) (fun _ _ _ h => h) (Or.inl ⟨by rfl, ?yq30⟩) hHeld ?rq30
        case yq30 => (intro w hSw; obtain ⟨l0, l1⟩ := hSw; go_simp; try with_reducible rfl)
        simp only [Act.put, List.setIfInBounds_toArray, List.set_cons_zero, List.set_cons_succ]
        refine take_at (i := 34) (d := 120) (v := ?vq31) rfl rfl (by kernel_rfl) (by kernel_rfl) (by kernel_rfl) (fun _ _ _ h => h) (Or.inl ⟨by rfl, ?yq31⟩) hHeld ?rq31
        case yq31 => (intro w hSw; obtain ⟨l0, l1⟩ := hSw; go_simp; try with_reducible rfl)
        simp only [Act.put, List.setIfInBounds_toArray, List.set_cons_zero, List.set_cons_succ]
        refine take_at (i := 35) (d := 121) (v := ?vq32) rfl rfl (by kernel_rfl) (by kernel_rfl) (by kernel_rfl) (fun _ _ _ h => h) (Or.inl ⟨by rfl, ?yq32⟩) hHeld ?rq32
        case yq32 => (intro w hSw; obtain ⟨l0, l1⟩ := hSw; go_simp; try with_reducible rfl)
        simp only [Act.put, List.setIfInBounds_toArray, List.set_cons_zero, List.set_cons_succ]
        refine wpAnyH_done (by kernel_rfl) ?_ _
        go_wp2_with fail
        go_roundg (n - (k + 1))
        case measure => omega
        case rel => exact ⟨k + 1, B.l, A5, c5, by omega, by omega, by rw [show ((k + 1 : Nat) : Int) = h from by have := HH.out; omega], by rw [HL5.out], Lib.hid ((S9.out.below (h4.out)).more (by omega))⟩
      · have SSX := Lib.hid (show Co.SetIs w3 a w.heap.size B.l from by rw [BS.out hc]; exact HSt.out)
        have HEX := HE
        obtain ⟨Te, xe, rfl, hTe⟩ := HE.out.fault hc
        obtain ⟨w4, hw4⟩ : ∃ w4, w4 = w3.alloc (.cells #[.slice none 0 0, .slice none 0 0] 31) := ⟨_, rfl⟩
        have b4 : Below w3.heap.size w3 w4 := by rw [hw4]; exact (Below.refl _ _).alloc (Nat.le_refl _) _
        have h4 : w4.heap[w3.heap.size]? = some (.cells #[.slice none 0 0, .slice none 0 0] 31 (0, 0)) := by rw [hw4]; exact heap_alloc_new _ _
        have T4 := Lib.hid (HTn.out.next b4)
        have HT4 := Lib.hid (HT.out.turn T4.out (S2.out.lts HS.out.le))
        have SS4 := Lib.hid (SSX.out.below b4 SSX.out.lta SSX.out.ltb)
        have H4 := Lib.hid h4
        have lt4 : w3.heap.size < w4.heap.size := by rw [hw4]; simp
        have B4 := Lib.hid b4
        have CR := Lib.hid (S2.out.rap T4.out (by omega) HT4.out h)
        rw [HBB.out, HML.out, HTL.out] at CR
        have W4 := Lib.hid (show w3.alloc (.cells #[.slice none 0 0, .slice none 0 0] 31) = w4 from hw4.symm)
        clear hw4 b4 h4
        go_upto_region 9 with (fail)
        rw [W4.out]
        go_wp2_with fail
        refine CR.out.mono ?_
        rintro e w5 ⟨A5, c5, rfl, HE5, HB5⟩
        have S5 := Lib.hid (S2.out.next SS4.out T4.out HE5.out HB5.out KP.out.2.1 KP.out.2.2)
        have E5 := Lib.hid (HEX.out.below (B4.out.trans (HB5.out.mono (Nat.le_of_lt lt4))))
        have U5 := Lib.hid (HE5.out)
        obtain ⟨l5, hl5⟩ : ∃ x, B.l.length = x := ⟨_, rfl⟩
        obtain ⟨o1, ho1⟩ : ∃ x, B.code = x := ⟨_, rfl⟩
        rw [ho1] at E5 hc
        rw [ho1]
        have q1 : (o1 != o1) = false := by simp
        have q4 : (o1 == 0) = false := by simp [hc]
        have NE := fun V => eq_errV hTe xe V
        have NQ := fun V => neq_errV hTe xe V
        clear ho1 hc
        obtain ⟨o2, ho2⟩ : ∃ x, B.at_ = x := ⟨_, rfl⟩
        obtain ⟨o3, ho3⟩ : ∃ x, B.inn = x := ⟨_, rfl⟩
        rw [ho2, ho3] at E5
        rw [hl5, ho2, ho3]
        rw [hl5] at U5
        have HL5 := Lib.hid hl5
        have q2 : (o2 != o2) = false := by simp
        have q3 : (o3 != o3) = false := by simp
        have CC := Lib.hid (code_errw E5.out S5.out.dr.err)
        have lt5 : w3.heap.size < w5.heap.size := by have := HB5.out.size; omega
        clear hl5 ho2 ho3
        go_wp2_with fail
        refine CC.out.mono ?_
        rintro e w6 ⟨rfl, hb6⟩
        have B6 := Lib.hid hb6
        have CP := Lib.hid (place_errw (E5.out.below B6.out) (S5.out.dr.below B6.out).err)
        clear hb6
        go_wp2_with fail
        refine CP.out.mono ?_
        rintro e w7 ⟨rfl, hb7⟩
        have B7 := Lib.hid (below_next B6.out B6.out.size hb7)
        have CI := Lib.hid (inner_errw (E5.out.below B7.out) (S5.out.dr.below B7.out).err)
        clear hb7
        go_wp2_with fail
        refine CI.out.mono ?_
        rintro e w8 ⟨rfl, hb8⟩
        have B8 := Lib.hid (below_next B7.out B7.out.size hb8)
        have CS := Lib.hid (Co.same_any a w.heap.size B.l A5 l5 c5 w8 lo w5.heap.size (S5.out.below B8.out).set (U5.out.keep (Kept.of_below B8.out (Nat.le_refl _))) B8.out.size (by have := S5.out.len; omega))
        clear hb8
        go_wp2_with fail
        refine CS.out.mono ?_
        rintro e w9 ⟨rfl, hb9⟩
        have B9 := Lib.hid (below_next B8.out B8.out.size hb9)
        have S9 := Lib.hid (S5.out.below B9.out)
        have U9 := Lib.hid (U5.out.keep (Kept.of_below B9.out (Nat.le_refl _)))
        have z9 := B9.out.size
        have F9 := Lib.hid (show Below w4.heap.size w4 w9 from HB5.out.trans (B9.out.mono HB5.out.size))
        have d0 : w9.cell? ⟨w3.heap.size, 0, none⟩ = some (.slice none 0 0) := Co.cell_in ((F9.out.block _ lt4).trans H4.out) rfl
        have d1 : w9.cell? ⟨w3.heap.size, 1, none⟩ = some (.slice none 0 0) := Co.cell_in ((F9.out.block _ lt4).trans H4.out) rfl
        have lt9 : w3.heap.size < w9.heap.size := by omega
        clear hb9
        go_wp2_with fail
        go_quiet (fail)
        go_wp2_with fail
        go_roundg (n - (k + 1))
        case measure => omega
        case rel => exact ⟨k + 1, B.l, A5, c5, by omega, by omega, by rw [show ((k + 1 : Nat) : Int) = h from by have := HH.out; omega], by rw [HL5.out], Lib.hid ((S9.out.below (below_drewN (Below.refl _ _) _)).more (by omega))⟩
    · have k3 : ¬ (k : Int) < (n : Int) := by omega
      have k4 : decide (k < n) = false := decide_eq_false hlt
      have CA0 : Calls Tryz.prog 11 #[.pointer (some ⟨a, 0, none⟩), .slice none 0 0, .int .i64 odd] wr (ApyEnd a w.heap.size m (blkA m [] odd) wr) := HS.out.apply (by omega) (show TsOk lo wr (.slice none 0 0) [] from ⟨Lst.nil, by simp, by decide, by decide⟩) (Nat.le_refl _) odd
      have CI1 := is_num 1 1
      obtain ⟨ml, hml⟩ : ∃ x, m.length = x := ⟨_, rfl⟩
      rw [hml]
      clear hml
      by_cases ho : 0 ≤ odd ∧ odd ≤ 1000000
      · rw [blk_empty.2.1 ho] at CA0
        have CA := Lib.hid CA0
        obtain ⟨ho1, ho2⟩ := ho
        have d1 : decide (0 ≤ odd) = true := decide_eq_true ho1
        have d2 : decide (odd ≤ 1000000) = true := decide_eq_true ho2
        have d3 : decide (odd ≥ 0) = true := decide_eq_true ho1
        have NE := eq_nilnil
        clear CA0
        go_wp2_with fail
        refine CA.out.mono ?_
        rintro e w3 (⟨As', cs', Am', cm', hc, rfl, HE, HSt, HTn⟩ | ⟨v, hc, rfl, HE, HSt, HTn⟩)
        case inr => exact absurd rfl hc
        have S3 := Lib.hid (HS.out.same HSt.out HTn.out)
        obtain ⟨p1, hp1⟩ : ∃ x, (Co.lessL m m).length = x := ⟨_, rfl⟩
        rw [hp1]
        obtain ⟨w4, hw4⟩ : ∃ w4, w4 = w3.alloc (.cells #[.slice As' p1 cs', .slice Am' p1 cm'] 31) := ⟨_, rfl⟩
        have S4 := Lib.hid (S3.out.below (V := w4) (by rw [hw4]; exact (Below.refl _ _).alloc (Nat.le_refl _) _))
        have W4 := Lib.hid (show w3.alloc (.cells #[.slice As' p1 cs', .slice Am' p1 cm'] 31) = w4 from hw4.symm)
        have BN := Lib.hid (blk_nil none 0 0 1 w4)
        clear hp1 hw4 HE
        go_upto_region 17 with (fail)
        rw [W4.out]
        go_wp2_with fail
        refine BN.out.mono ?_
        rintro e w5 ⟨rfl, hb5⟩
        obtain ⟨w6, hw6⟩ : ∃ w6, w6 = w5.alloc (.cells #[.slice none 0 0, .slice none 0 0] 31) := ⟨_, rfl⟩
        have b6 : Below w5.heap.size w5 w6 := by rw [hw6]; exact (Below.refl _ _).alloc (Nat.le_refl _) _
        have S6 := Lib.hid ((S4.out.below hb5).below b6)
        have W6 := Lib.hid (show w5.alloc (.cells #[.slice none 0 0, .slice none 0 0] 31) = w6 from hw6.symm)
        have CW := Lib.hid (wakes_any w6 S6.out.dr)
        clear hw6 b6 hb5
        go_upto_region 18 with (fail)
        rw [W6.out]
        go_wp2_with fail
        refine CW.out.mono ?_
        rintro e w7 ⟨rfl, hb7⟩
        have S7 := Lib.hid (S6.out.below hb7)
        clear hb7
        go_wp2_with fail
        refine (CI1 _).mono ?_
        rintro e wx ⟨rfl, hwx⟩
        subst wx
        go_wp2_with fail
        go_ret
        exact ⟨rfl, S7.out.bel⟩
      · rw [blk_empty.2.2 ho] at CA0
        have CA := Lib.hid CA0
        clear CA0
        go_wp2_with fail
        refine CA.out.mono ?_
        rintro e w3 (⟨As', cs', Am', cm', hc, rfl, HE, HSt, HTn⟩ | ⟨v, hc, rfl, HE, HSt, HTn⟩)
        case inl => exact absurd (show (3 : Int) = 0 from hc) (by decide)
        have S3 := Lib.hid (HS.out.same HSt.out HTn.out)
        obtain ⟨Te, xe, rfl, hTe⟩ := HE.out.fault hc
        have NE := fun V => eq_errV hTe xe V
        obtain ⟨w4, hw4⟩ : ∃ w4, w4 = w3.alloc (.cells #[.slice none 0 0, .slice none 0 0] 31) := ⟨_, rfl⟩
        have b4 : Below w3.heap.size w3 w4 := by rw [hw4]; exact (Below.refl _ _).alloc (Nat.le_refl _) _
        have S4 := Lib.hid (S3.out.below b4)
        have E4 := Lib.hid (HE.out.below b4)
        have W4 := Lib.hid (show w3.alloc (.cells #[.slice none 0 0, .slice none 0 0] 31) = w4 from hw4.symm)
        have BN := Lib.hid (blk_nil none 0 0 1 w4)
        clear hw4 b4 HE
        go_upto_region 17 with (fail)
        rw [W4.out]
        by_cases ho1 : 0 ≤ odd
        · have ho2 : ¬ odd ≤ 1000000 := fun h => ho ⟨ho1, h⟩
          have d1 : decide (0 ≤ odd) = true := decide_eq_true ho1
          have d2 : decide (odd ≤ 1000000) = false := decide_eq_false ho2
          have d3 : decide (odd ≥ 0) = true := decide_eq_true ho1
          go_wp2_with fail
          refine BN.out.mono ?_
          rintro e w5 ⟨rfl, hb5⟩
          obtain ⟨w6, hw6⟩ : ∃ w6, w6 = w5.alloc (.cells #[.slice none 0 0, .slice none 0 0] 31) := ⟨_, rfl⟩
          have b6 : Below w5.heap.size w5 w6 := by rw [hw6]; exact (Below.refl _ _).alloc (Nat.le_refl _) _
          have S6 := Lib.hid ((S4.out.below hb5).below b6)
          have E6 := Lib.hid ((E4.out.below hb5).below b6)
          have W6 := Lib.hid (show w5.alloc (.cells #[.slice none 0 0, .slice none 0 0] 31) = w6 from hw6.symm)
          have CW := Lib.hid (wakes_any w6 S6.out.dr)
          clear hw6 b6 hb5
          go_upto_region 18 with (fail)
          rw [W6.out]
          go_wp2_with fail
          refine CW.out.mono ?_
          rintro e w7 ⟨rfl, hb7⟩
          have S7 := Lib.hid (S6.out.below hb7)
          have CI := Lib.hid (is_errw (E6.out.below hb7) (f := 3) (by decide))
          clear hb7
          go_wp2_with fail
          refine CI.out.mono ?_
          rintro e wy ⟨rfl, hwy⟩
          subst wy
          go_wp2_with fail
          refine (CI1 _).mono ?_
          rintro e wx ⟨rfl, hwx⟩
          subst wx
          go_wp2_with fail
          go_ret
          exact ⟨rfl, S7.out.bel⟩
        · have ho2 : ¬ odd ≥ 0 := ho1
          have d1 : decide (0 ≤ odd) = false := decide_eq_false ho1
          have d3 : decide (odd ≥ 0) = false := decide_eq_false ho2
          go_wp2_with fail
          refine BN.out.mono ?_
          rintro e w5 ⟨rfl, hb5⟩
          obtain ⟨w6, hw6⟩ : ∃ w6, w6 = w5.alloc (.cells #[.slice none 0 0, .slice none 0 0] 31) := ⟨_, rfl⟩
          have b6 : Below w5.heap.size w5 w6 := by rw [hw6]; exact (Below.refl _ _).alloc (Nat.le_refl _) _
          have S6 := Lib.hid ((S4.out.below hb5).below b6)
          have E6 := Lib.hid ((E4.out.below hb5).below b6)
          have W6 := Lib.hid (show w5.alloc (.cells #[.slice none 0 0, .slice none 0 0] 31) = w6 from hw6.symm)
          have CW := Lib.hid (wakes_any w6 S6.out.dr)
          clear hw6 b6 hb5
          go_upto_region 18 with (fail)
          rw [W6.out]
          go_wp2_with fail
          refine CW.out.mono ?_
          rintro e w7 ⟨rfl, hb7⟩
          have S7 := Lib.hid (S6.out.below hb7)
          have CI := Lib.hid (is_errw (E6.out.below hb7) (f := 3) (by decide))
          clear hb7
          go_wp2_with fail
          refine CI.out.mono ?_
          rintro e wy ⟨rfl, hwy⟩
          subst wy
          go_wp2_with fail
          refine (CI1 _).mono ?_
          rintro e wx ⟨rfl, hwx⟩
          subst wx
          go_wp2_with fail
          go_ret
          exact ⟨rfl, S7.out.bel⟩

end Go.Proofs.YtnmfjnfdnjjngaaGreatDoor
