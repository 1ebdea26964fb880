/-
  The statement CoinsPlay, walked.
-/
import Derived.Test.YtdchbeomlfancaaOwalk
import Derived.Test.YtdchbeomlfancaaSam
import Derived.Test.YtdchbeomlfancaaRpu
namespace Go.Proofs.Ytdchbeomlfancaa
open Go.RowKit

theorem coin_ok {a : AcD} (h : a.Ok) (p : ByteArray) (i : Int) : CoOk ⟨p, i, a.val, cut40 a.scr, a.ht⟩ := by
  have := cut40_size a.scr
  obtain ⟨_, _, _, _, _, _, h1, h2, h3, h4, _⟩ := h
  exact ⟨h1, h2, Nat.le_trans this (by decide), h3, h4⟩

set_option maxHeartbeats 4000000 in
set_option maxRecDepth 100000 in
theorem play_law (xs : List AcD) (u : Value) (w : World) (hx : Acts w 0 w.heap.size u xs) (ok : ∀ x ∈ xs, x.Ok) (hl : xs.length ≤ maxLen) :
    Calls Try.prog 3 #[u] w fun e w' => e = .returned (.bool true) ∧ Below w.heap.size w w' := by
  obtain ⟨A, c, rfl⟩ := hx.form
  have hcap := hx.cap
  obtain ⟨n, hn⟩ : ∃ n, min xs.length 40 = n := ⟨_, rfl⟩
  have hmn : ∀ w, (Builtin.min_ #[3, 3] 3 #[.int .i64 (xs.length : Int), .int .i64 40]).run Try.prog w = .ok (.int .i64 (n : Nat)) w := by rw [← hn]; exact fun w => run_min_nat 40 #[3, 3] 3 xs.length w
  have n1 : n ≤ c := by omega
  have n2 : (n : Int) ≤ (c : Int) := by omega
  have n3 : (0 : Int) ≤ (n : Int) := by omega
  have n4 : n ≤ 40 := by omega
  have hl' : xs.length ≤ 9223372036854775807 := by unfold maxLen at hl; omega
  obtain ⟨ys, hys⟩ : ∃ ys, xs.take n = ys := ⟨_, rfl⟩
  have hyl : ys.length = n := by rw [← hys, List.length_take]; omega
  have HX := Lib.hid (show Acts w 0 w.heap.size (.slice A n c) ys from by rw [← hys]; exact hx.take (by omega))
  have HO := Lib.hid (show ∀ x ∈ ys, x.Ok from by rw [← hys]; exact fun x hx => ok x (List.mem_of_mem_take hx))
  have CN := Lib.hid (new_any w)
  clear hx ok hl hcap hn hys
  go_enter Try.func3, Try.ntmps3
  go_wp2_with fail
  refine CN.out.mono ?_
  rintro e w1 ⟨rfl, hs1, hb1, hz1⟩
  have S1 := Lib.hid hs1
  have B1 := Lib.hid hb1
  have E1 := Lib.hid (Ents.nil w1 w1.heap.size w1.heap.size)
  clear hs1 hb1 CN
  go_wp2_with fail
  go_loopg [4, 26] n (fun gg s4 s26 wr => ∃ (kk : Nat) (l : List EnD), kk ≤ n ∧ n - kk ≤ gg ∧ s26 = .int .i64 kk ∧ l.length ≤ kk ∧ w1.heap.size ≤ wr.heap.size ∧ Hid (SetIs wr (w.heap.size + 1) w.heap.size l) ∧ Hid (Ents wr w1.heap.size wr.heap.size s4 l) ∧ Hid (Below w.heap.size w wr))
  case atStart => exact ⟨0, [], Nat.zero_le _, by omega, rfl, Nat.le_refl _, Nat.le_refl _, S1, E1, B1⟩
  case round =>
    clear hmn
    obtain ⟨kk, l, hkk, hgg, rfl, hll, hzr, HS, HE, HB⟩ := hrel
    obtain ⟨EA, ec, hev⟩ := HE.out.form
    subst hev
    by_cases hlt : kk < n
    · have k1 : (kk : Int) < (n : Int) := by omega
      have k2 : decide (kk < n) = true := decide_eq_true hlt
      obtain ⟨x, hxk⟩ : ∃ x, ys[kk]? = some x := ⟨_, List.getElem?_eq_getElem (by omega)⟩
      obtain ⟨b, off, rfl, h1, h2, hat⟩ := (HX.out.keep (Kept.of_below HB.out (Nat.le_refl _))).at hxk
      have hok := HO.out x (List.mem_of_getElem? hxk)
      have HOK := Lib.hid hok
      obtain ⟨W, hW⟩ : ∃ W, W = wr.alloc (.cells (acL x) 30) := ⟨_, rfl⟩
      have hz : W.heap.size = wr.heap.size + 1 := by rw [hW]; simp
      have hbW : Below wr.heap.size wr W := by rw [hW]; exact (Below.refl _ _).alloc (Nat.le_refl _) _
      have la := HS.out.lta
      have lb := HS.out.ltb
      have SW := Lib.hid (HS.out.below hbW la lb)
      have EW := Lib.hid (HE.out.keep (Kept.of_below hbW (Nat.le_refl _)))
      have BW := Lib.hid (HB.out.trans (hbW.mono (by omega)))
      have AW := Lib.hid (show AcAt W wr.heap.size 0 x from by rw [hW]; exact AcAt.new wr x)
      have CP := Lib.hid (point_beside hok (Below.refl W.heap.size W) AW.out (by omega))
      have CC := Lib.hid (fun V => coin_any x V hok)
      have hpk := pt_ok x hok
      have HW := Lib.hid hW
      have HPK := Lib.hid hpk
      obtain ⟨pi, hpi⟩ : ∃ p, p = ptI x := ⟨_, rfl⟩
      obtain ⟨px, hpx⟩ : ∃ p, p = ptX x := ⟨_, rfl⟩
      rw [← hpi, ← hpx] at CP HPK
      have hco := Lib.hid (coin_ok hok pi px)
      have m0 := hok.1
      have m1 := hok.2.1
      obtain ⟨a0, a1, a2, a3, a4, a5, a6, a7, a8⟩ := hat
      obtain ⟨d, i8, x8, v, t, s, rid, rix, od⟩ := x
      simp only [acL] at HW CP CC m0 m1 a0 a1 a2 a3 a4 a5 a6 a7 a8 hco
      obtain ⟨cs, hcs⟩ : ∃ q, q = cut40 s := ⟨_, rfl⟩
      rw [← hcs] at CC hco
      have q4 : ¬ (4 : Int) = 0 := by decide
      have q5 : d.tmod 4 = d % 4 := Int.tmod_eq_emod_of_nonneg m0
      have q6 : IntKind.u8.wrap (d % 4) = d % 4 := IntWalk.u8_in _ (by omega)
      clear hW hbW hpi hpx hpk hok hxk HX HO hcs
      go_upto_region 6 with (fail)
      rw [show World.alloc wr _ = W from HW.out.symm]
      clear a0 a1 a2 a3 a4 a5 a6 a7 a8
      obtain ⟨a0, a1, a2, a3, a4, a5, a6, a7, a8⟩ := AW.out
      simp only [Nat.zero_add] at a0 a1 a2 a3 a4 a5 a6 a7 a8
      go_wp2_with fail
      refine CP.out.mono ?_
      rintro e w3 ⟨rfl, hb3, hz3, hA3⟩
      obtain ⟨W3, hW3⟩ : ∃ W3, W3 = w3.alloc (.cells #[.string pi, .int .u32 px] 28) := ⟨_, rfl⟩
      have z3 : W3.heap.size = w3.heap.size + 1 := by rw [hW3]; simp
      have hbW3 : Below w3.heap.size w3 W3 := by rw [hW3]; exact (Below.refl _ _).alloc (Nat.le_refl _) _
      have h28 := Lib.hid (show W3.heap[w3.heap.size]? = some (.cells #[.string pi, .int .u32 px] 28) from by rw [hW3]; exact heap_alloc_new _ _)
      have hWW3 := hb3.out.trans (hbW3.mono (by omega))
      have S3 := Lib.hid (SW.out.below hWW3 (by omega) (by omega))
      have E3 := Lib.hid ((EW.out.keep (Kept.of_below hWW3 (by omega))).wide (Nat.le_refl _) (show wr.heap.size ≤ W3.heap.size by omega))
      have B3 := Lib.hid (BW.out.trans (hWW3.mono (by omega)))
      have A3 := Lib.hid (hA3.block (hbW3.block wr.heap.size (by omega)))
      have HW3 := Lib.hid hW3
      clear hW3 hbW3 hWW3 hA3 hb3 a0 a1 a2 a3 a4 a5 a6 a7 a8 CP
      go_upto_region 7 with (fail)
      rw [show World.alloc w3 _ = W3 from HW3.out.symm]
      obtain ⟨a0, a1, a2, a3, a4, a5, a6, a7, a8⟩ := A3.out
      simp only [Nat.zero_add] at a0 a1 a2 a3 a4 a5 a6 a7 a8
      have p0 := cell_in (o := 0) (v := .string pi) h28.out rfl
      have p1 := cell_in (o := 1) (v := .int .u32 px) h28.out rfl
      have n1' := run_neq_co
      have n2' := co_guard
      by_cases hd : d % 4 = 2
      · have hd1 : (d % 4 == 2) = true := by simp [hd]
        clear hd
        have CT := Lib.hid (take_any _ _ l pi px W3 S3.out HPK.out)
        have e0' : coB (atE l pi px).val (atE l pi px).scr (atE l pi px).ht (atE l pi px).val (atE l pi px).scr (atE l pi px).ht = true := coB_refl _ _ _
        have CRT := Lib.hid (fun V (hV : Ents V w1.heap.size W3.heap.size (.slice EA l.length ec) l) (hh : W3.heap.size ≤ V.heap.size) => rtake_any EA l.length ec l pi px V w1.heap.size W3.heap.size hV hh S3.out.good (by omega))
        have hdl := del_len l pi px
        obtain ⟨te, hte⟩ : ∃ te, te = takeE l pi px := ⟨_, rfl⟩
        obtain ⟨dl, hdl'⟩ : ∃ dl, dl = delL l pi px := ⟨_, rfl⟩
        rw [← hte, ← hdl'] at CT CRT
        rw [← hdl'] at hdl
        have e1 : (te != te) = false := by simp
        generalize atE l pi px = y at CT CRT e0'
        obtain ⟨yi, yx, yv, ys', yt⟩ := y
        simp only at CT CRT e0'
        clear hte hdl'
        go_wp2_with fail
        refine CT.out.mono ?_
        rintro e w4 ⟨rfl, hs4, hk4⟩
        have z4 := hk4.size
        obtain ⟨W4, hW4⟩ : ∃ W4, W4 = w4.alloc (.cells #[.int .i64 yv, .string ys', .int .i64 yt] 35) := ⟨_, rfl⟩
        have z4' : W4.heap.size = w4.heap.size + 1 := by rw [hW4]; simp
        have hb4 : Below w4.heap.size w4 W4 := by rw [hW4]; exact (Below.refl _ _).alloc (Nat.le_refl _) _
        have h35 : W4.heap[w4.heap.size]? = some (.cells #[.int .i64 yv, .string ys', .int .i64 yt] 35) := by rw [hW4]; exact heap_alloc_new _ _
        have S4 := Lib.hid (hs4.below hb4 hs4.lta hs4.ltb)
        have E4 := Lib.hid ((E3.out.keep (hk4.kept (by omega) (by omega) (Nat.le_refl _))).keep (Kept.of_below hb4 z4))
        have B4 := Lib.hid ((But2.below B3.out hk4 (by omega) (Nat.le_refl _) (by omega)).trans (hb4.mono (by omega)))
        have h28' := (hb4.block w3.heap.size (by omega)).trans ((hk4.block w3.heap.size (by omega) (by omega) (by omega)).trans h28.out)
        have HW4 := Lib.hid hW4
        have H35 := Lib.hid h35
        clear hs4 hk4 hW4 hb4 h35 CT p0 p1
        go_upto_region 15 with (fail)
        rw [show World.alloc w4 _ = W4 from HW4.out.symm]
        have p0 := cell_in (o := 0) (v := .string pi) h28' rfl
        have p1 := cell_in (o := 1) (v := .int .u32 px) h28' rfl
        have CRT4 := Lib.hid (CRT.out W4 E4.out (by omega))
        go_wp2_with fail
        refine CRT4.out.mono ?_
        rintro e w5 ⟨v', rfl, he5, hb5⟩
        have z5 := hb5.size
        obtain ⟨EB, ed, hev⟩ := he5.form
        subst hev
        obtain ⟨W5, hW5⟩ : ∃ W5, W5 = w5.alloc (.cells #[.int .i64 yv, .string ys', .int .i64 yt] 35) := ⟨_, rfl⟩
        have z5' : W5.heap.size = w5.heap.size + 1 := by rw [hW5]; simp
        have hb5' : Below w5.heap.size w5 W5 := by rw [hW5]; exact (Below.refl _ _).alloc (Nat.le_refl _) _
        have h35b : W5.heap[w5.heap.size]? = some (.cells #[.int .i64 yv, .string ys', .int .i64 yt] 35) := by rw [hW5]; exact heap_alloc_new _ _
        have h35a := ((hb5'.block w4.heap.size (by omega)).trans (hb5.block w4.heap.size (by omega))).trans H35.out
        have hWW := hb5.trans (hb5'.mono (by omega))
        have SZ := Lib.hid (S4.out.below hWW (by omega) (by omega))
        have EZ := Lib.hid ((he5.keep (Kept.of_below hb5' (Nat.le_refl _))).wide (Nat.le_refl _) (show w5.heap.size ≤ W5.heap.size by omega))
        have BZ := Lib.hid (B4.out.trans (hWW.mono (by omega)))
        have r0 := cell_in (o := 0) (v := .int .i64 yv) h35a rfl
        have r1 := cell_in (o := 1) (v := .string ys') h35a rfl
        have r2 := cell_in (o := 2) (v := .int .i64 yt) h35a rfl
        have s0 := cell_in (o := 0) (v := .int .i64 yv) h35b rfl
        have s1 := cell_in (o := 1) (v := .string ys') h35b rfl
        have s2 := cell_in (o := 2) (v := .int .i64 yt) h35b rfl
        have HW5 := Lib.hid hW5
        clear hW5 hb5' h35b h35a hWW hb5 he5 h28' p0 p1 CRT CRT4
        go_upto_region 16 with (fail)
        rw [show World.alloc w5 _ = W5 from HW5.out.symm]
        go_upto_region 24 with (fail)
        clear r0 r1 r2 s0 s1 s2
        have CS := Lib.hid (same_any _ _ _ EB dl.length ed W5 w1.heap.size W5.heap.size SZ.out EZ.out (Nat.le_refl _) (by omega))
        go_wp2_with fail
        refine CS.out.mono ?_
        rintro e w9 ⟨rfl, hb9⟩
        have z9 := hb9.size
        go_wp2_with fail
        go_roundg (n - (kk + 1))
        case measure => omega
        case rel => exact ⟨kk + 1, dl, by omega, by omega, by go_num, by omega, by omega, Lib.hid (SZ.out.below hb9 SZ.out.lta SZ.out.ltb), Lib.hid ((EZ.out.keep (Kept.of_below hb9 (Nat.le_refl _))).wide (Nat.le_refl _) z9), Lib.hid (BZ.out.trans (hb9.mono (by omega)))⟩
      · have hd1 : (d % 4 == 2) = false := by simp [hd]
        by_cases hd3 : d % 4 = 3
        · have hd2 : (d % 4 == 3) = true := by simp [hd3]
          clear hd hd3
          have CG := Lib.hid (get_any _ _ l pi px W3 S3.out HPK.out)
          have CF := Lib.hid (fun V (hV : Ents V w1.heap.size W3.heap.size (.slice EA l.length ec) l) (hh : W3.heap.size ≤ V.heap.size) => rfind_any EA l.length ec l pi px V w1.heap.size W3.heap.size hV hh (by omega))
          cases hh : hasB l pi px with
          | true =>
            obtain ⟨k, hk1, hk2, _⟩ := idx_some S3.out.good.srt hh
            rw [hk1] at CF
            rw [hh] at CG
            have kl : k < l.length := (List.getElem?_eq_some_iff.1 hk2).1
            have HK2 := Lib.hid hk2
            have e0' : coB (atE l pi px).val (atE l pi px).scr (atE l pi px).ht (atE l pi px).val (atE l pi px).scr (atE l pi px).ht = true := coB_refl _ _ _
            generalize atE l pi px = y at CG HK2 e0'
            obtain ⟨yi, yx, yv, ys', yt⟩ := y
            simp only at CG e0'
            clear hh hk1 hk2
            go_wp2_with fail
            refine CG.out.mono ?_
            rintro e w4 ⟨rfl, hb4⟩
            have z4 := hb4.size
            obtain ⟨W4, hW4⟩ : ∃ W4, W4 = w4.alloc (.cells #[.int .i64 yv, .string ys', .int .i64 yt] 35) := ⟨_, rfl⟩
            have z4' : W4.heap.size = w4.heap.size + 1 := by rw [hW4]; simp
            have hb4' : Below w4.heap.size w4 W4 := by rw [hW4]; exact (Below.refl _ _).alloc (Nat.le_refl _) _
            have h35 : W4.heap[w4.heap.size]? = some (.cells #[.int .i64 yv, .string ys', .int .i64 yt] 35) := by rw [hW4]; exact heap_alloc_new _ _
            have hWW := hb4.trans (hb4'.mono (by omega))
            have E4 := Lib.hid (E3.out.keep (Kept.of_below hWW (Nat.le_refl _)))
            have B4 := Lib.hid hWW
            have h28' := (hWW.block w3.heap.size (by omega)).trans h28.out
            have HW4 := Lib.hid hW4
            have H35 := Lib.hid h35
            have CF4 := Lib.hid (CF.out W4 E4.out (by omega))
            clear hW4 hb4' h35 hWW hb4 CG CF p0 p1
            go_upto_region 21 with (fail)
            rw [show World.alloc w4 _ = W4 from HW4.out.symm]
            have p0 := cell_in (o := 0) (v := .string pi) h28' rfl
            have p1 := cell_in (o := 1) (v := .int .u32 px) h28' rfl
            go_wp2_with fail
            refine CF4.out.mono ?_
            rintro e w5 ⟨rfl, hb5⟩
            have z5 := hb5.size
            have h35' := (hb5.block w4.heap.size (by omega)).trans H35.out
            have r0 := cell_in (o := 0) (v := .int .i64 yv) h35' rfl
            have r1 := cell_in (o := 1) (v := .string ys') h35' rfl
            have r2 := cell_in (o := 2) (v := .int .i64 yt) h35' rfl
            have E5 := E4.out.keep (Kept.of_below hb5 (by omega))
            obtain ⟨b9, off9, hEA, g3, g4, _, _, c2, c3, c4⟩ := E5.at HK2.out
            subst hEA
            simp only at c2 c3 c4
            have k0 : (0 : Int) ≤ (k : Int) := Int.natCast_nonneg k
            have k3 : (k : Int) < (l.length : Int) := by omega
            have B5 := Lib.hid (B4.out.trans (hb5.mono (by omega)))
            clear hb5 h35' E5 p0 p1 h28' CF4
            go_upto_region 22 with (fail)
            go_quiet (fail)
            have SZ := Lib.hid (S3.out.below (below_drewN B5.out nq) (by omega) (by omega))
            have EZ := Lib.hid ((E3.out.keep (Kept.of_below (below_drewN B5.out nq) (Nat.le_refl _))).wide (Nat.le_refl _) (show W3.heap.size ≤ (w5.drewN nq).heap.size from (below_drewN B5.out nq).size))
            have BZ := Lib.hid (B3.out.trans ((below_drewN B5.out nq).mono (by omega)))
            obtain ⟨wz, hwz⟩ : ∃ wz, wz = w5.drewN nq := ⟨_, rfl⟩
            have zz : w1.heap.size ≤ wz.heap.size := by rw [hwz]; show w1.heap.size ≤ w5.heap.size; omega
            rw [← hwz] at SZ EZ BZ ⊢
            clear r0 r1 r2 c2 c3 c4 hwz
            go_upto_region 24 with (fail)
            have CS := Lib.hid (same_any _ _ _ (some ⟨b9, off9, none⟩) l.length ec wz w1.heap.size wz.heap.size SZ.out EZ.out (Nat.le_refl _) (by omega))
            go_wp2_with fail
            refine CS.out.mono ?_
            rintro e w9 ⟨rfl, hb9⟩
            have z9 := hb9.size
            go_wp2_with fail
            go_roundg (n - (kk + 1))
            case measure => omega
            case rel => exact ⟨kk + 1, l, by omega, by omega, by go_num, by omega, by omega, Lib.hid (SZ.out.below hb9 SZ.out.lta SZ.out.ltb), Lib.hid ((EZ.out.keep (Kept.of_below hb9 (Nat.le_refl _))).wide (Nat.le_refl _) z9), Lib.hid (BZ.out.trans (hb9.mono (by omega)))⟩
          | false =>
            rw [idx_none hh] at CF
            rw [hh, atE_none hh] at CG
            have e0' : coB 0 ⟨#[]⟩ 0 0 ⟨#[]⟩ 0 = true := coB_refl _ _ _
            simp only [e0] at CG
            clear hh
            go_wp2_with fail
            refine CG.out.mono ?_
            rintro e w4 ⟨rfl, hb4⟩
            have z4 := hb4.size
            obtain ⟨W4, hW4⟩ : ∃ W4, W4 = w4.alloc (.cells #[.int .i64 0, .string ⟨#[]⟩, .int .i64 0] 35) := ⟨_, rfl⟩
            have z4' : W4.heap.size = w4.heap.size + 1 := by rw [hW4]; simp
            have hb4' : Below w4.heap.size w4 W4 := by rw [hW4]; exact (Below.refl _ _).alloc (Nat.le_refl _) _
            have h35 : W4.heap[w4.heap.size]? = some (.cells #[.int .i64 0, .string ⟨#[]⟩, .int .i64 0] 35) := by rw [hW4]; exact heap_alloc_new _ _
            have hWW := hb4.trans (hb4'.mono (by omega))
            have E4 := Lib.hid (E3.out.keep (Kept.of_below hWW (Nat.le_refl _)))
            have B4 := Lib.hid hWW
            have h28' := (hWW.block w3.heap.size (by omega)).trans h28.out
            have HW4 := Lib.hid hW4
            have H35 := Lib.hid h35
            have CF4 := Lib.hid (CF.out W4 E4.out (by omega))
            clear hW4 hb4' h35 hWW hb4 CG CF p0 p1
            go_upto_region 21 with (fail)
            rw [show World.alloc w4 _ = W4 from HW4.out.symm]
            have p0 := cell_in (o := 0) (v := .string pi) h28' rfl
            have p1 := cell_in (o := 1) (v := .int .u32 px) h28' rfl
            go_wp2_with fail
            refine CF4.out.mono ?_
            rintro e w5 ⟨rfl, hb5⟩
            have z5 := hb5.size
            have h35' := (hb5.block w4.heap.size (by omega)).trans H35.out
            have r0 := cell_in (o := 0) (v := .int .i64 0) h35' rfl
            have r1 := cell_in (o := 1) (v := .string ⟨#[]⟩) h35' rfl
            have r2 := cell_in (o := 2) (v := .int .i64 0) h35' rfl
            have B5 := Lib.hid (B4.out.trans (hb5.mono (by omega)))
            clear hb5 h35' p0 p1 h28' CF4
            go_upto_region 22 with (fail)
            go_quiet (fail)
            have SZ := Lib.hid (S3.out.below (below_drewN B5.out nq) (by omega) (by omega))
            have EZ := Lib.hid ((E3.out.keep (Kept.of_below (below_drewN B5.out nq) (Nat.le_refl _))).wide (Nat.le_refl _) (show W3.heap.size ≤ (w5.drewN nq).heap.size from (below_drewN B5.out nq).size))
            have BZ := Lib.hid (B3.out.trans ((below_drewN B5.out nq).mono (by omega)))
            obtain ⟨wz, hwz⟩ : ∃ wz, wz = w5.drewN nq := ⟨_, rfl⟩
            have zz : w1.heap.size ≤ wz.heap.size := by rw [hwz]; show w1.heap.size ≤ w5.heap.size; omega
            rw [← hwz] at SZ EZ BZ ⊢
            clear r0 r1 r2 hwz
            go_upto_region 24 with (fail)
            have CS := Lib.hid (same_any _ _ _ EA l.length ec wz w1.heap.size wz.heap.size SZ.out EZ.out (Nat.le_refl _) (by omega))
            go_wp2_with fail
            refine CS.out.mono ?_
            rintro e w9 ⟨rfl, hb9⟩
            have z9 := hb9.size
            go_wp2_with fail
            go_roundg (n - (kk + 1))
            case measure => omega
            case rel => exact ⟨kk + 1, l, by omega, by omega, by go_num, by omega, by omega, Lib.hid (SZ.out.below hb9 SZ.out.lta SZ.out.ltb), Lib.hid ((EZ.out.keep (Kept.of_below hb9 (Nat.le_refl _))).wide (Nat.le_refl _) z9), Lib.hid (BZ.out.trans (hb9.mono (by omega)))⟩
        · have hd2 : (d % 4 == 3) = false := by simp [hd3]
          clear hd hd3
          have CQ := Lib.hid (fun (V : World) (hV : SetIs V (w.heap.size + 1) w.heap.size l) => put_any _ _ l ⟨pi, px, v, cs, t⟩ V hV ⟨HPK.out, hco.out⟩)
          have CR := Lib.hid (fun V hi (hV : Ents V w1.heap.size hi (.slice EA l.length ec) l) (hh : hi ≤ V.heap.size) (h1 : w1.heap.size ≤ V.heap.size) => rput_any EA l.length ec l ⟨pi, px, v, cs, t⟩ V w1.heap.size hi hV hh h1 S3.out.good (by omega))
          unfold RputEnd at CR
          simp only at CQ CR
          have hpl := putL_len l ⟨pi, px, v, cs, t⟩
          obtain ⟨pe, hpe⟩ : ∃ pe, pe = putE l ⟨pi, px, v, cs, t⟩ := ⟨_, rfl⟩
          obtain ⟨pl, hpl'⟩ : ∃ pl, pl = putL l ⟨pi, px, v, cs, t⟩ := ⟨_, rfl⟩
          rw [← hpe, ← hpl'] at CQ CR
          rw [← hpl'] at hpl
          have e1 : (pe != pe) = false := by simp
          clear hpe hpl'
          have CC8 := Lib.hid (show Calls Try.prog 14 #[.agg #[.int .u8 d, .int .u8 i8, .int .u8 x8, .int .i64 v, .int .i64 t, .string s, .string rid, .int .u32 rix, .bool od]] W3.drew fun e w' => e = .returned (.agg #[.int .i64 v, .string cs, .int .i64 t]) ∧ Hid (Below W3.heap.size W3 w') ∧ (w'.cell? ⟨w3.heap.size, 0, none⟩ = some (.string pi) ∧ w'.cell? ⟨w3.heap.size, 1, none⟩ = some (.int .u32 px) ∧ w'.cell? ⟨wr.heap.size, 0, none⟩ = some (.int .u8 d) ∧ w'.cell? ⟨wr.heap.size, 1, none⟩ = some (.int .u8 i8) ∧ w'.cell? ⟨wr.heap.size, 2, none⟩ = some (.int .u8 x8) ∧ w'.cell? ⟨wr.heap.size, 3, none⟩ = some (.int .i64 v) ∧ w'.cell? ⟨wr.heap.size, 4, none⟩ = some (.int .i64 t) ∧ w'.cell? ⟨wr.heap.size, 5, none⟩ = some (.string s) ∧ w'.cell? ⟨wr.heap.size, 6, none⟩ = some (.string rid) ∧ w'.cell? ⟨wr.heap.size, 7, none⟩ = some (.int .u32 rix) ∧ w'.cell? ⟨wr.heap.size, 8, none⟩ = some (.bool od)) from
            (CC.out _).mono fun e w' ⟨he, hb⟩ => by
              have hb' : Below W3.heap.size W3 w' := ⟨hb.os, hb.tape, hb.output, hb.size, hb.block⟩
              have f1 := fun o => World.cell?_of_block (w := W3) (a := ⟨wr.heap.size, o, none⟩) (hb'.block wr.heap.size (by omega))
              have f2 := fun o => World.cell?_of_block (w := W3) (a := ⟨w3.heap.size, o, none⟩) (hb'.block w3.heap.size (by omega))
              simp only [f1, f2]
              exact ⟨he, Lib.hid hb', p0, p1, a0, a1, a2, a3, a4, a5, a6, a7, a8⟩)
          have CQ8 := Lib.hid (show ∀ V, Hid (Below W3.heap.size W3 V) → (V.cell? ⟨w3.heap.size, 0, none⟩ = some (.string pi) ∧ V.cell? ⟨w3.heap.size, 1, none⟩ = some (.int .u32 px) ∧ V.cell? ⟨wr.heap.size, 0, none⟩ = some (.int .u8 d) ∧ V.cell? ⟨wr.heap.size, 1, none⟩ = some (.int .u8 i8) ∧ V.cell? ⟨wr.heap.size, 2, none⟩ = some (.int .u8 x8) ∧ V.cell? ⟨wr.heap.size, 3, none⟩ = some (.int .i64 v) ∧ V.cell? ⟨wr.heap.size, 4, none⟩ = some (.int .i64 t) ∧ V.cell? ⟨wr.heap.size, 5, none⟩ = some (.string s) ∧ V.cell? ⟨wr.heap.size, 6, none⟩ = some (.string rid) ∧ V.cell? ⟨wr.heap.size, 7, none⟩ = some (.int .u32 rix) ∧ V.cell? ⟨wr.heap.size, 8, none⟩ = some (.bool od)) → Calls Try.prog 13 #[.pointer (some ⟨w.heap.size + 1, 0, none⟩), .agg #[.string pi, .int .u32 px], .agg #[.int .i64 v, .string cs, .int .i64 t]] V fun e w' => e = .returned (.int .i64 pe) ∧
              Hid (SetIs w' (w.heap.size + 1) w.heap.size pl ∧ Below w.heap.size w w' ∧ Ents w' w1.heap.size W3.heap.size (.slice EA l.length ec) l ∧ W3.heap.size ≤ w'.heap.size) ∧ (w'.cell? ⟨w3.heap.size, 0, none⟩ = some (.string pi) ∧ w'.cell? ⟨w3.heap.size, 1, none⟩ = some (.int .u32 px) ∧ w'.cell? ⟨wr.heap.size, 0, none⟩ = some (.int .u8 d) ∧ w'.cell? ⟨wr.heap.size, 1, none⟩ = some (.int .u8 i8) ∧ w'.cell? ⟨wr.heap.size, 2, none⟩ = some (.int .u8 x8) ∧ w'.cell? ⟨wr.heap.size, 3, none⟩ = some (.int .i64 v) ∧ w'.cell? ⟨wr.heap.size, 4, none⟩ = some (.int .i64 t) ∧ w'.cell? ⟨wr.heap.size, 5, none⟩ = some (.string s) ∧ w'.cell? ⟨wr.heap.size, 6, none⟩ = some (.string rid) ∧ w'.cell? ⟨wr.heap.size, 7, none⟩ = some (.int .u32 rix) ∧ w'.cell? ⟨wr.heap.size, 8, none⟩ = some (.bool od)) from fun V hV hC =>
            (CQ.out V (S3.out.below hV.out (by omega) (by omega))).mono fun e w' ⟨he, hs, hk⟩ => by
              have hsz := hV.out.size
              have hks := hk.size
              have f1 := fun o => World.cell?_of_block (w := V) (a := ⟨wr.heap.size, o, none⟩) (hk.block wr.heap.size (by omega) (by omega) (by omega))
              have f2 := fun o => World.cell?_of_block (w := V) (a := ⟨w3.heap.size, o, none⟩) (hk.block w3.heap.size (by omega) (by omega) (by omega))
              simp only [f1, f2]
              exact ⟨he, Lib.hid ⟨hs, But2.below (B3.out.trans (hV.out.mono (by omega))) hk (by omega) (Nat.le_refl _) (by omega), (E3.out.keep (Kept.of_below hV.out (Nat.le_refl _))).keep (hk.kept (by omega) (by omega) hsz), by omega⟩, hC⟩)
          go_wp2_with fail
          go_region_held3 (fun w' => w'.cell? ⟨w3.heap.size, 0, none⟩ = some (.string pi) ∧ w'.cell? ⟨w3.heap.size, 1, none⟩ = some (.int .u32 px) ∧ w'.cell? ⟨wr.heap.size, 0, none⟩ = some (.int .u8 d) ∧ w'.cell? ⟨wr.heap.size, 1, none⟩ = some (.int .u8 i8) ∧ w'.cell? ⟨wr.heap.size, 2, none⟩ = some (.int .u8 x8) ∧ w'.cell? ⟨wr.heap.size, 3, none⟩ = some (.int .i64 v) ∧ w'.cell? ⟨wr.heap.size, 4, none⟩ = some (.int .i64 t) ∧ w'.cell? ⟨wr.heap.size, 5, none⟩ = some (.string s) ∧ w'.cell? ⟨wr.heap.size, 6, none⟩ = some (.string rid) ∧ w'.cell? ⟨wr.heap.size, 7, none⟩ = some (.int .u32 rix) ∧ w'.cell? ⟨wr.heap.size, 8, none⟩ = some (.bool od))
            (go_keep)
            (first
              | (go_at_call 14; refine CC8.out.mono ?_; rintro e w4 ⟨rfl, hb4, y0, y1, b0, b1, b2, b3, b4, b5, b6, b7, b8⟩)
              | (go_at_call 13; refine (CQ8.out _ hb4 ⟨y0, y1, b0, b1, b2, b3, b4, b5, b6, b7, b8⟩).mono ?_; rintro e w5 ⟨rfl, h5, x0, x1, d0, d1, d2, d3, d4, d5, d6, d7, d8⟩))
          clear CC8 CQ8 CQ hb4 y0 y1 b0 b1 b2 b3 b4 b5 b6 b7 b8 p0 p1 a0 a1 a2 a3 a4 a5 a6 a7 a8
          have z5 := h5.out.2.2.2
          have CC9 := Lib.hid (show Calls Try.prog 14 #[.agg #[.int .u8 d, .int .u8 i8, .int .u8 x8, .int .i64 v, .int .i64 t, .string s, .string rid, .int .u32 rix, .bool od]] w5.drew fun e w' => e = .returned (.agg #[.int .i64 v, .string cs, .int .i64 t]) ∧ Hid (Below w5.heap.size w5 w') ∧ (w'.cell? ⟨w3.heap.size, 0, none⟩ = some (.string pi) ∧ w'.cell? ⟨w3.heap.size, 1, none⟩ = some (.int .u32 px) ∧ w'.cell? ⟨wr.heap.size, 0, none⟩ = some (.int .u8 d) ∧ w'.cell? ⟨wr.heap.size, 1, none⟩ = some (.int .u8 i8) ∧ w'.cell? ⟨wr.heap.size, 2, none⟩ = some (.int .u8 x8) ∧ w'.cell? ⟨wr.heap.size, 3, none⟩ = some (.int .i64 v) ∧ w'.cell? ⟨wr.heap.size, 4, none⟩ = some (.int .i64 t) ∧ w'.cell? ⟨wr.heap.size, 5, none⟩ = some (.string s) ∧ w'.cell? ⟨wr.heap.size, 6, none⟩ = some (.string rid) ∧ w'.cell? ⟨wr.heap.size, 7, none⟩ = some (.int .u32 rix) ∧ w'.cell? ⟨wr.heap.size, 8, none⟩ = some (.bool od)) from
            (CC.out _).mono fun e w' ⟨he, hb⟩ => by
              have hb' : Below w5.heap.size w5 w' := ⟨hb.os, hb.tape, hb.output, hb.size, hb.block⟩
              have f1 := fun o => World.cell?_of_block (w := w5) (a := ⟨wr.heap.size, o, none⟩) (hb'.block wr.heap.size (by omega))
              have f2 := fun o => World.cell?_of_block (w := w5) (a := ⟨w3.heap.size, o, none⟩) (hb'.block w3.heap.size (by omega))
              simp only [f1, f2]
              exact ⟨he, Lib.hid hb', x0, x1, d0, d1, d2, d3, d4, d5, d6, d7, d8⟩)
          have CR9 := Lib.hid (show ∀ V, Hid (Below w5.heap.size w5 V) → (V.cell? ⟨w3.heap.size, 0, none⟩ = some (.string pi) ∧ V.cell? ⟨w3.heap.size, 1, none⟩ = some (.int .u32 px) ∧ V.cell? ⟨wr.heap.size, 0, none⟩ = some (.int .u8 d) ∧ V.cell? ⟨wr.heap.size, 1, none⟩ = some (.int .u8 i8) ∧ V.cell? ⟨wr.heap.size, 2, none⟩ = some (.int .u8 x8) ∧ V.cell? ⟨wr.heap.size, 3, none⟩ = some (.int .i64 v) ∧ V.cell? ⟨wr.heap.size, 4, none⟩ = some (.int .i64 t) ∧ V.cell? ⟨wr.heap.size, 5, none⟩ = some (.string s) ∧ V.cell? ⟨wr.heap.size, 6, none⟩ = some (.string rid) ∧ V.cell? ⟨wr.heap.size, 7, none⟩ = some (.int .u32 rix) ∧ V.cell? ⟨wr.heap.size, 8, none⟩ = some (.bool od)) → Calls Try.prog 15 #[.slice EA l.length ec, .agg #[.string pi, .int .u32 px], .agg #[.int .i64 v, .string cs, .int .i64 t]] V fun e w' => (∃ EB ed, e = .returned (.tuple #[.slice EB pl.length ed, .int .i64 pe]) ∧
              Hid (Below w5.heap.size w5 w' ∧ Ents w' w1.heap.size w'.heap.size (.slice EB pl.length ed) pl)) ∧ (w'.cell? ⟨w3.heap.size, 0, none⟩ = some (.string pi) ∧ w'.cell? ⟨w3.heap.size, 1, none⟩ = some (.int .u32 px) ∧ w'.cell? ⟨wr.heap.size, 0, none⟩ = some (.int .u8 d) ∧ w'.cell? ⟨wr.heap.size, 1, none⟩ = some (.int .u8 i8) ∧ w'.cell? ⟨wr.heap.size, 2, none⟩ = some (.int .u8 x8) ∧ w'.cell? ⟨wr.heap.size, 3, none⟩ = some (.int .i64 v) ∧ w'.cell? ⟨wr.heap.size, 4, none⟩ = some (.int .i64 t) ∧ w'.cell? ⟨wr.heap.size, 5, none⟩ = some (.string s) ∧ w'.cell? ⟨wr.heap.size, 6, none⟩ = some (.string rid) ∧ w'.cell? ⟨wr.heap.size, 7, none⟩ = some (.int .u32 rix) ∧ w'.cell? ⟨wr.heap.size, 8, none⟩ = some (.bool od)) from fun V hV hC =>
            (CR.out V W3.heap.size (h5.out.2.2.1.keep (Kept.of_below hV.out (by omega))) (by have := hV.out.size; omega) (by have := hV.out.size; omega)).mono fun e w' ⟨v', he, hen, hb⟩ => by
              have hsz := hV.out.size
              obtain ⟨EB, ed, hev⟩ := hen.form
              subst hev
              have f1 := fun o => World.cell?_of_block (w := V) (a := ⟨wr.heap.size, o, none⟩) (hb.block wr.heap.size (by omega))
              have f2 := fun o => World.cell?_of_block (w := V) (a := ⟨w3.heap.size, o, none⟩) (hb.block w3.heap.size (by omega))
              simp only [f1, f2]
              exact ⟨⟨EB, ed, he, Lib.hid ⟨hV.out.trans (hb.mono hsz), hen⟩⟩, hC⟩)
          go_wp2_with fail
          go_region_held3 (fun w' => w'.cell? ⟨w3.heap.size, 0, none⟩ = some (.string pi) ∧ w'.cell? ⟨w3.heap.size, 1, none⟩ = some (.int .u32 px) ∧ w'.cell? ⟨wr.heap.size, 0, none⟩ = some (.int .u8 d) ∧ w'.cell? ⟨wr.heap.size, 1, none⟩ = some (.int .u8 i8) ∧ w'.cell? ⟨wr.heap.size, 2, none⟩ = some (.int .u8 x8) ∧ w'.cell? ⟨wr.heap.size, 3, none⟩ = some (.int .i64 v) ∧ w'.cell? ⟨wr.heap.size, 4, none⟩ = some (.int .i64 t) ∧ w'.cell? ⟨wr.heap.size, 5, none⟩ = some (.string s) ∧ w'.cell? ⟨wr.heap.size, 6, none⟩ = some (.string rid) ∧ w'.cell? ⟨wr.heap.size, 7, none⟩ = some (.int .u32 rix) ∧ w'.cell? ⟨wr.heap.size, 8, none⟩ = some (.bool od))
            (go_keep)
            (first
              | (go_at_call 14; refine CC9.out.mono ?_; rintro e w6 ⟨rfl, hb6, y0, y1, b0, b1, b2, b3, b4, b5, b6, b7, b8⟩)
              | (go_at_call 15; refine (CR9.out _ hb6 ⟨y0, y1, b0, b1, b2, b3, b4, b5, b6, b7, b8⟩).mono ?_; rintro e w7 ⟨⟨EB, ed, rfl, h7⟩, g0, g1, g2, g3, g4, g5, g6, g7, g8, g9, g10⟩))
          clear CC9 CR9 CR hb6 y0 y1 b0 b1 b2 b3 b4 b5 b6 b7 b8 x0 x1 d0 d1 d2 d3 d4 d5 d6 d7 d8 g0 g1 g2 g3 g4 g5 g6 g7 g8 g9 g10
          have SZ := Lib.hid (h5.out.1.below h7.out.1 (by omega) (by omega))
          have EZ := Lib.hid h7.out.2
          have BZ := Lib.hid (h5.out.2.1.trans (h7.out.1.mono (by omega)))
          have z7 := h7.out.1.size
          go_upto_region 24 with (fail)
          have CS := Lib.hid (same_any _ _ _ EB pl.length ed w7 w1.heap.size w7.heap.size SZ.out EZ.out (Nat.le_refl _) (by omega))
          go_wp2_with fail
          refine CS.out.mono ?_
          rintro e w9 ⟨rfl, hb9⟩
          have z9 := hb9.size
          go_wp2_with fail
          go_roundg (n - (kk + 1))
          case measure => omega
          case rel => exact ⟨kk + 1, pl, by omega, by omega, by go_num, by omega, by omega, Lib.hid (SZ.out.below hb9 SZ.out.lta SZ.out.ltb), Lib.hid ((EZ.out.keep (Kept.of_below hb9 (Nat.le_refl _))).wide (Nat.le_refl _) z9), Lib.hid (BZ.out.trans (hb9.mono (by omega)))⟩
    · have k1 : ¬ (kk : Int) < (n : Int) := by omega
      have k2 : decide (kk < n) = false := decide_eq_false hlt
      have CW := Lib.hid (wakes_any wr)
      clear HX HO
      go_wp2_with fail
      refine CW.out.mono ?_
      rintro e w5 ⟨rfl, hb5⟩
      go_wp2_with fail
      go_ret
      exact ⟨rfl, HB.out.trans (hb5.mono HB.out.size)⟩

end Go.Proofs.Ytdchbeomlfancaa
