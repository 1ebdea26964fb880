/-
  The statement CoinsOrder, walked.
-/
import Derived.Test.YtdchbeomlfancaaWk
import Derived.Test.YtdchbeomlfancaaPnt
import Derived.Test.YtdchbeomlfancaaEqs
import Derived.Test.YtdchbeomlfancaaRfd
import Derived.Deep.RegionHeld3
import Derived.Laws.Closers25b
import Derived.BigQuiet
namespace Go.Proofs.Ytdchbeomlfancaa
open Go.RowKit

theorem has_mem {l : List EnD} {x : EnD} (h : x ∈ l) : hasB l x.id x.ix = true := hasB_iff.2 ⟨x, h, rfl, rfl⟩

theorem co_bits (p : ByteArray) (i a b c d : Int) : CoOk ⟨p, i, bits .and .i64 a b, ⟨#[]⟩, bits .and .i64 c d⟩ := by
  have h1 := bits_lo_i64 .and a b
  have h2 := bits_hi_i64 .and a b
  have h3 := bits_lo_i64 .and c d
  have h4 := bits_hi_i64 .and c d
  unfold CoOk
  generalize bits .and .i64 a b = x at h1 h2 ⊢
  generalize bits .and .i64 c d = y at h3 h4 ⊢
  exact ⟨h1, h2, Nat.zero_le 64, h3, h4⟩

/-- An act's point asked for, beside an act in a box. -/
theorem point_beside {a : AcD} (ok : a.Ok) {q : Nat} {W V : World} (hV : Below W.heap.size W V) (hA : AcAt W q 0 a) (hq : q < W.heap.size) :
    Calls Try.prog 8 #[.agg (acL a)] V fun e w' => e = .returned (.agg #[.string (ptI a), .int .u32 (ptX a)]) ∧ Hid (Below W.heap.size W w') ∧ W.heap.size ≤ w'.heap.size ∧ AcAt w' q 0 a :=
  (point_any a V ok).mono fun e w' ⟨he, hb⟩ => by
    have h := hV.trans (hb.mono hV.size)
    exact ⟨he, Lib.hid h, h.size, hA.block (h.block q hq)⟩

set_option maxHeartbeats 4000000 in
set_option maxRecDepth 100000 in
theorem order_law (xs : List AcD) (u : Value) (w : World) (hx : Acts w 0 w.heap.size u xs) (ok : ∀ x ∈ xs, x.Ok) (hl : xs.length ≤ maxLen) :
    Calls Try.prog 6 #[u] w fun e w' => e = .returned (.bool true) ∧ Below w.heap.size w w' := by
  obtain ⟨A, c, rfl⟩ := hx.form
  have hcap := hx.cap
  obtain ⟨n, hn⟩ : ∃ n, min xs.length 25 = n := ⟨_, rfl⟩
  have hmn : ∀ w, (Builtin.min_ #[3, 3] 3 #[.int .i64 (xs.length : Int), .int .i64 25]).run Try.prog w = .ok (.int .i64 (n : Nat)) w := by rw [← hn]; exact fun w => run_min_nat 25 #[3, 3] 3 xs.length w
  have n1 : n ≤ c := by omega
  have n2 : (n : Int) ≤ (c : Int) := by omega
  have n3 : (0 : Int) ≤ (n : Int) := by omega
  have n4 : n ≤ 25 := by omega
  have hl' : xs.length ≤ 9223372036854775807 := by unfold maxLen at hl; omega
  obtain ⟨ys, hys⟩ : ∃ ys, xs.take n = ys := ⟨_, rfl⟩
  have hyl : ys.length = n := by rw [← hys, List.length_take]; omega
  have HX := Lib.hid (show Acts w 0 w.heap.size (.slice A n c) ys from by rw [← hys]; exact hx.take (by omega))
  have HO := Lib.hid (show ∀ x ∈ ys, x.Ok from by rw [← hys]; exact fun x hx => ok x (List.mem_of_mem_take hx))
  have CN := Lib.hid (new_any w)
  clear hx ok hl hcap hn hys
  go_enter Try.func6, Try.ntmps6
  go_wp2_with fail
  refine CN.out.mono ?_
  rintro e w1 ⟨rfl, hs1, hb1, hz1⟩
  have S1 := Lib.hid hs1
  have B1 := Lib.hid hb1
  clear hs1 hb1 CN
  go_wp2_with fail
  go_loopg [19] n (fun gg s wr => ∃ (kk : Nat) (l : List EnD), kk ≤ n ∧ n - kk ≤ gg ∧ s = .int .i64 kk ∧ l.length ≤ kk ∧ w1.heap.size ≤ wr.heap.size ∧ Hid (SetIs wr (w.heap.size + 1) w.heap.size l) ∧ Hid (Below w.heap.size w wr))
  case atStart => exact ⟨0, [], Nat.zero_le _, by omega, rfl, Nat.le_refl _, Nat.le_refl _, S1, B1⟩
  case round =>
    clear hmn
    obtain ⟨kk, l, hkk, hgg, rfl, hll, hzr, HS, HB⟩ := hrel
    by_cases hlt : kk < n
    · have k1 : (kk : Int) < (n : Int) := by omega
      have k2 : decide (kk < n) = true := decide_eq_true hlt
      obtain ⟨x, hxk⟩ : ∃ x, ys[kk]? = some x := ⟨_, List.getElem?_eq_getElem (by omega)⟩
      obtain ⟨b, off, rfl, h1, h2, hat⟩ := (HX.out.keep (Kept.of_below HB.out (Nat.le_refl _))).at hxk
      have hok := HO.out x (List.mem_of_getElem? hxk)
      have HOK := Lib.hid hok
      obtain ⟨W, hW⟩ : ∃ W, W = wr.alloc (.cells (acL x) 30) := ⟨_, rfl⟩
      have hz : W.heap.size = wr.heap.size + 1 := by rw [hW]; simp
      have hbW : Below wr.heap.size wr W := by rw [hW]; exact (Below.refl _ _).alloc (Nat.le_refl _) _
      have la := HS.out.lta
      have lb := HS.out.ltb
      have SW := Lib.hid (HS.out.below hbW la lb)
      have BW := Lib.hid (HB.out.trans (hbW.mono (by omega)))
      have AW := Lib.hid (show AcAt W wr.heap.size 0 x from by rw [hW]; exact AcAt.new wr x)
      have CP := Lib.hid (fun V (hV : Below W.heap.size W V) => point_beside hok hV AW.out (by omega))
      have hpk := pt_ok x hok
      have HW := Lib.hid hW
      have HPK := Lib.hid hpk
      obtain ⟨pi, hpi⟩ : ∃ p, p = ptI x := ⟨_, rfl⟩
      obtain ⟨px, hpx⟩ : ∃ p, p = ptX x := ⟨_, rfl⟩
      rw [← hpi, ← hpx] at CP HPK
      have m0 := hok.1
      have m1 := hok.2.1
      obtain ⟨a0, a1, a2, a3, a4, a5, a6, a7, a8⟩ := hat
      obtain ⟨d, i8, x8, v, t, s, rid, rix, od⟩ := x
      simp only [acL] at HW CP m0 m1 a0 a1 a2 a3 a4 a5 a6 a7 a8
      have q4 : ¬ (4 : Int) = 0 := by decide
      have q5 : d.tmod 4 = d % 4 := Int.tmod_eq_emod_of_nonneg m0
      have q6 : IntKind.u8.wrap (d % 4) = d % 4 := IntWalk.u8_in _ (by omega)
      clear hW hbW hpi hpx hpk hok hxk HX HO
      go_upto_region 5 with (fail)
      rw [show World.alloc wr _ = W from HW.out.symm]
      clear a0 a1 a2 a3 a4 a5 a6 a7 a8
      obtain ⟨a0, a1, a2, a3, a4, a5, a6, a7, a8⟩ := AW.out
      simp only [Nat.zero_add] at a0 a1 a2 a3 a4 a5 a6 a7 a8
      by_cases hd : d % 4 = 2
      · have hd1 : (d % 4 == 2) = true := by simp [hd]
        clear hd
        go_wp2_with fail
        refine (CP.out W (Below.refl _ _)).mono ?_
        rintro e w3 ⟨rfl, hb3, hz3, _⟩
        have S3 := Lib.hid (SW.out.below hb3.out (by omega) (by omega))
        have CT := Lib.hid (take_any _ _ l pi px w3 S3.out HPK.out)
        go_wp2_with fail
        refine CT.out.mono ?_
        rintro e w4 ⟨rfl, hs4, hk4⟩
        have S4 := Lib.hid hs4
        have B4 := Lib.hid (But2.below (BW.out.trans (hb3.out.mono (by omega))) hk4 (by omega) (Nat.le_refl _) (by omega))
        have z4 := hk4.size
        have hdl := del_len l pi px
        clear hs4 hk4 CT CP
        go_wp2_with fail
        go_roundg (n - (kk + 1))
        case measure => omega
        case rel => exact ⟨kk + 1, delL l pi px, by omega, by omega, by go_num, by omega, by omega, S4, B4⟩
      · have hd1 : (d % 4 == 2) = false := by simp [hd]
        clear hd
        have D0 := Lib.hid (show Below W.heap.size W W.drew from (Below.refl _ _).drew)
        have CP' := Lib.hid (show Calls Try.prog 8 #[.agg #[.int .u8 d, .int .u8 i8, .int .u8 x8, .int .i64 v, .int .i64 t, .string s, .string rid, .int .u32 rix, .bool od]] W.drew fun e w' => e = .returned (.agg #[.string pi, .int .u32 px]) ∧ Hid (Below W.heap.size W w') ∧ (w'.cell? ⟨wr.heap.size, 0, none⟩ = some (.int .u8 d) ∧ w'.cell? ⟨wr.heap.size, 1, none⟩ = some (.int .u8 i8) ∧ w'.cell? ⟨wr.heap.size, 2, none⟩ = some (.int .u8 x8) ∧ w'.cell? ⟨wr.heap.size, 3, none⟩ = some (.int .i64 v) ∧ w'.cell? ⟨wr.heap.size, 4, none⟩ = some (.int .i64 t) ∧ w'.cell? ⟨wr.heap.size, 5, none⟩ = some (.string s) ∧ w'.cell? ⟨wr.heap.size, 6, none⟩ = some (.string rid) ∧ w'.cell? ⟨wr.heap.size, 7, none⟩ = some (.int .u32 rix) ∧ w'.cell? ⟨wr.heap.size, 8, none⟩ = some (.bool od)) from
          (CP.out _ D0.out).mono fun e w' ⟨he, hb, _, hA⟩ => ⟨he, hb, hA⟩)
        have CQ := Lib.hid (fun (V : World) (hV : SetIs V (w.heap.size + 1) w.heap.size l) => put_any _ _ l ⟨pi, px, bits .and .i64 v 16777215, ⟨#[]⟩, bits .and .i64 t 4095⟩ V hV ⟨HPK.out, co_bits pi px v 16777215 t 4095⟩)
        simp only at CQ
        have CQ' := Lib.hid (show ∀ V, Hid (Below W.heap.size W V) → (V.cell? ⟨wr.heap.size, 0, none⟩ = some (.int .u8 d) ∧ V.cell? ⟨wr.heap.size, 1, none⟩ = some (.int .u8 i8) ∧ V.cell? ⟨wr.heap.size, 2, none⟩ = some (.int .u8 x8) ∧ V.cell? ⟨wr.heap.size, 3, none⟩ = some (.int .i64 v) ∧ V.cell? ⟨wr.heap.size, 4, none⟩ = some (.int .i64 t) ∧ V.cell? ⟨wr.heap.size, 5, none⟩ = some (.string s) ∧ V.cell? ⟨wr.heap.size, 6, none⟩ = some (.string rid) ∧ V.cell? ⟨wr.heap.size, 7, none⟩ = some (.int .u32 rix) ∧ V.cell? ⟨wr.heap.size, 8, none⟩ = some (.bool od)) → Calls Try.prog 13 #[.pointer (some ⟨w.heap.size + 1, 0, none⟩), .agg #[.string pi, .int .u32 px], .agg #[.int .i64 (bits .and .i64 v 16777215), .string ⟨#[]⟩, .int .i64 (bits .and .i64 t 4095)]] V fun e w' => (∃ r : Int, e = .returned (.int .i64 r)) ∧ Hid (SetIs w' (w.heap.size + 1) w.heap.size (putL l ⟨pi, px, bits .and .i64 v 16777215, ⟨#[]⟩, bits .and .i64 t 4095⟩) ∧ Below w.heap.size w w' ∧ w1.heap.size ≤ w'.heap.size) ∧ (w'.cell? ⟨wr.heap.size, 0, none⟩ = some (.int .u8 d) ∧ w'.cell? ⟨wr.heap.size, 1, none⟩ = some (.int .u8 i8) ∧ w'.cell? ⟨wr.heap.size, 2, none⟩ = some (.int .u8 x8) ∧ w'.cell? ⟨wr.heap.size, 3, none⟩ = some (.int .i64 v) ∧ w'.cell? ⟨wr.heap.size, 4, none⟩ = some (.int .i64 t) ∧ w'.cell? ⟨wr.heap.size, 5, none⟩ = some (.string s) ∧ w'.cell? ⟨wr.heap.size, 6, none⟩ = some (.string rid) ∧ w'.cell? ⟨wr.heap.size, 7, none⟩ = some (.int .u32 rix) ∧ w'.cell? ⟨wr.heap.size, 8, none⟩ = some (.bool od)) from fun V hV hC =>
          (CQ.out V (SW.out.below hV.out (by omega) (by omega))).mono fun e w' ⟨he, hs, hk⟩ => by
            have hsz := hV.out.size
            have hks := hk.size
            have e' := fun o => World.cell?_of_block (w := V) (a := ⟨wr.heap.size, o, none⟩) (hk.block wr.heap.size (by omega) (by omega) (by omega))
            simp only [e']
            exact ⟨⟨_, he⟩, Lib.hid ⟨hs, But2.below (BW.out.trans (hV.out.mono (by omega))) hk (by omega) (Nat.le_refl _) (by omega), by omega⟩, hC⟩)
        have hpl := putL_len l ⟨pi, px, bits .and .i64 v 16777215, ⟨#[]⟩, bits .and .i64 t 4095⟩
        obtain ⟨l', hl'⟩ : ∃ l', l' = putL l ⟨pi, px, bits .and .i64 v 16777215, ⟨#[]⟩, bits .and .i64 t 4095⟩ := ⟨_, rfl⟩
        rw [← hl'] at hpl CQ'
        clear CP CQ hl'
        go_wp2_with fail
        go_region_held3 (fun w' => w'.cell? ⟨wr.heap.size, 0, none⟩ = some (.int .u8 d) ∧ w'.cell? ⟨wr.heap.size, 1, none⟩ = some (.int .u8 i8) ∧ w'.cell? ⟨wr.heap.size, 2, none⟩ = some (.int .u8 x8) ∧ w'.cell? ⟨wr.heap.size, 3, none⟩ = some (.int .i64 v) ∧ w'.cell? ⟨wr.heap.size, 4, none⟩ = some (.int .i64 t) ∧ w'.cell? ⟨wr.heap.size, 5, none⟩ = some (.string s) ∧ w'.cell? ⟨wr.heap.size, 6, none⟩ = some (.string rid) ∧ w'.cell? ⟨wr.heap.size, 7, none⟩ = some (.int .u32 rix) ∧ w'.cell? ⟨wr.heap.size, 8, none⟩ = some (.bool od))
          (go_keep)
          (first
            | (go_at_call 8; refine CP'.out.mono ?_; rintro e w3 ⟨rfl, hb3, b0, b1, b2, b3, b4, b5, b6, b7, b8⟩)
            | (go_at_call 13; refine (CQ'.out _ hb3 ⟨b0, b1, b2, b3, b4, b5, b6, b7, b8⟩).mono ?_; rintro e w4 ⟨⟨r, rfl⟩, h4, d0, d1, d2, d3, d4, d5, d6, d7, d8⟩))
        go_wp2_with fail
        go_roundg (n - (kk + 1))
        case measure => omega
        case rel => exact ⟨kk + 1, l', by omega, by omega, by go_num, by omega, h4.out.2.2, Lib.hid h4.out.1, Lib.hid h4.out.2.1⟩
    · have k1 : ¬ (kk : Int) < (n : Int) := by omega
      have k2 : decide (kk < n) = false := decide_eq_false hlt
      have la := HS.out.lta
      have lb := HS.out.ltb
      have CA := Lib.hid (all_any _ _ l wr HS.out (by omega))
      clear HX HO
      go_wp2_with fail
      refine CA.out.mono ?_
      rintro e w5 ⟨u, rfl, hen, hb5⟩
      obtain ⟨A5, c5, rfl⟩ := hen.form
      have HE := Lib.hid hen
      have S5 := Lib.hid (HS.out.below hb5 la lb)
      have B5 := Lib.hid (HB.out.trans (hb5.mono (by omega)))
      have z5 := hb5.size
      obtain ⟨m, hm⟩ : ∃ m, m = l.length := ⟨_, rfl⟩
      have HM := Lib.hid hm
      have hm25 : m ≤ 25 := by omega
      rw [← hm] at HE ⊢
      clear hen hb5 CA hm
      go_wp2_with fail
      go_loopg [7, 48] m (fun gg s7 s48 wr => ∃ (jj : Nat), jj ≤ m ∧ m - jj ≤ gg ∧ s48 = .int .i64 jj ∧ s7 = .int .i64 (tot (l.take jj)) ∧ w5.heap.size ≤ wr.heap.size ∧ Hid (Below w5.heap.size w5 wr))
      case atStart => exact ⟨0, Nat.zero_le _, by omega, rfl, by simp [tot], Nat.le_refl _, Below.refl _ _⟩
      case round =>
        obtain ⟨jj, hjj, hgg2, rfl, rfl, hzr2, HB2⟩ := hrel
        have SR := Lib.hid (S5.out.below HB2.out (by omega) (by omega))
        by_cases hlt2 : jj < m
        · have k3 : (jj : Int) < (m : Int) := by omega
          have k4 : decide (jj < m) = true := decide_eq_true hlt2
          obtain ⟨x, hxk⟩ : ∃ x, l[jj]? = some x := ⟨_, List.getElem?_eq_getElem (by have := HM.out; omega)⟩
          have hmem := List.mem_of_getElem? hxk
          have hg := SR.out.good
          have ho := hg.ok x hmem
          have hAt : atE l x.id x.ix = x := atE_some hg.srt.apart hmem
          have hHas : hasB l x.id x.ix = true := has_mem hmem
          have hts : tot (l.take (jj + 1)) = tot (l.take jj) + x.val := by
            rw [List.take_add_one, hxk, tot_append]
            simp [tot]
          have htb := tot_take hg.pos (jj + 1)
          have hmost := hg.most
          have hwr : IntKind.i64.wrap (tot (l.take jj) + x.val) = tot (l.take (jj + 1)) := by
            rw [← hts]
            exact IntWalk.i64_in _ (by omega)
          have hprev : ∀ p, 0 < jj → l[jj - 1]? = some p → lessB p.id p.ix x.id x.ix = true := fun p hp hpk => by
            obtain ⟨g1, g2⟩ := List.getElem?_eq_some_iff.1 hxk
            obtain ⟨g3, g4⟩ := List.getElem?_eq_some_iff.1 hpk
            have := List.pairwise_iff_getElem.1 hg.srt (jj - 1) jj g3 g1 (by omega)
            rw [g2, g4] at this
            exact this
          obtain ⟨b2, off2, rfl, g1, g2, c0, c1, c2, c3, c4⟩ := (HE.out.keep (Kept.of_below HB2.out (Nat.le_refl _))).at hxk
          obtain ⟨W, hW⟩ : ∃ W, W = wr.alloc (.cells #[.string x.id, .int .u32 x.ix, .int .i64 x.val, .string x.scr, .int .i64 x.ht] 55) := ⟨_, rfl⟩
          have hz : W.heap.size = wr.heap.size + 1 := by rw [hW]; simp
          have hbW : Below wr.heap.size wr W := by rw [hW]; exact (Below.refl _ _).alloc (Nat.le_refl _) _
          have h55 : W.heap[wr.heap.size]? = some (.cells #[.string x.id, .int .u32 x.ix, .int .i64 x.val, .string x.scr, .int .i64 x.ht] 55) := by rw [hW]; exact heap_alloc_new _ _
          have SW := Lib.hid (SR.out.below hbW SR.out.lta SR.out.ltb)
          have BW := Lib.hid (HB2.out.trans (hbW.mono (by omega)))
          have CG := Lib.hid (get_any _ _ l x.id x.ix W SW.out ho.1)
          rw [hAt, hHas] at CG
          have HW := Lib.hid hW
          have H55 := Lib.hid h55
          have HP := Lib.hid hprev
          have e1 := run_neq_co
          have e2 := co_guard
          have e3 : coB x.val x.scr x.ht x.val x.scr x.ht = true := coB_refl _ _ _
          obtain ⟨t0, ht0⟩ : ∃ t0, t0 = tot (l.take jj) := ⟨_, rfl⟩
          obtain ⟨t1, ht1⟩ : ∃ t1, t1 = tot (l.take (jj + 1)) := ⟨_, rfl⟩
          rw [← ht0] at hwr ⊢
          rw [← ht1] at hwr
          have HT1 := Lib.hid ht1
          have p0 := cell_in (o := 0) (v := .string x.id) h55 rfl
          have p1 := cell_in (o := 1) (v := .int .u32 x.ix) h55 rfl
          clear hW hbW hprev hmem hg ho hAt hHas hts htb hmost ht0 ht1 h55
          go_upto_region 14 with (fail)
          rw [show World.alloc wr _ = W from HW.out.symm]
          clear c0 c1 c2 c3 c4
          go_wp2_with fail
          refine CG.out.mono ?_
          rintro e w7 ⟨rfl, hb7⟩
          have z7 := hb7.size
          obtain ⟨w8, hw8⟩ : ∃ w8, w8 = w7.alloc (.cells #[.int .i64 x.val, .string x.scr, .int .i64 x.ht] 35) := ⟨_, rfl⟩
          have z8 : w8.heap.size = w7.heap.size + 1 := by rw [hw8]; simp
          have hb8 : Below w7.heap.size w7 w8 := by rw [hw8]; exact (Below.refl _ _).alloc (Nat.le_refl _) _
          have h35 : w8.heap[w7.heap.size]? = some (.cells #[.int .i64 x.val, .string x.scr, .int .i64 x.ht] 35) := by rw [hw8]; exact heap_alloc_new _ _
          have h55 := ((hb8.block wr.heap.size (by omega)).trans (hb7.block wr.heap.size (by omega))).trans H55.out
          have B8 := Lib.hid (BW.out.trans ((hb7.trans (hb8.mono (by omega))).mono (by omega)))
          have HW8 := Lib.hid hw8
          have l0 : wr.heap.size < w8.heap.size := by omega
          have l1 : w7.heap.size < w8.heap.size := by omega
          have lbb : b2 < w8.heap.size := by omega
          have H35 := Lib.hid h35
          clear hw8 hb8 hb7 CG p0 p1
          go_upto_region 15 with (fail)
          rw [show World.alloc w7 _ = w8 from HW8.out.symm]
          have q0 : ∀ y : After w8, y.val.cell? ⟨wr.heap.size, 0, none⟩ = some (.string x.id) := fun y => cell_in (o := 0) ((y.ok.block _ l0).trans h55) rfl
          have q1 : ∀ y : After w8, y.val.cell? ⟨wr.heap.size, 1, none⟩ = some (.int .u32 x.ix) := fun y => cell_in (o := 1) ((y.ok.block _ l0).trans h55) rfl
          have q2 : ∀ y : After w8, y.val.cell? ⟨wr.heap.size, 2, none⟩ = some (.int .i64 x.val) := fun y => cell_in (o := 2) ((y.ok.block _ l0).trans h55) rfl
          have q3 : ∀ y : After w8, y.val.cell? ⟨wr.heap.size, 3, none⟩ = some (.string x.scr) := fun y => cell_in (o := 3) ((y.ok.block _ l0).trans h55) rfl
          have q4 : ∀ y : After w8, y.val.cell? ⟨wr.heap.size, 4, none⟩ = some (.int .i64 x.ht) := fun y => cell_in (o := 4) ((y.ok.block _ l0).trans h55) rfl
          have r0 : ∀ y : After w8, y.val.cell? ⟨w7.heap.size, 0, none⟩ = some (.int .i64 x.val) := fun y => cell_in (o := 0) ((y.ok.block _ l1).trans h35) rfl
          have r1 : ∀ y : After w8, y.val.cell? ⟨w7.heap.size, 1, none⟩ = some (.string x.scr) := fun y => cell_in (o := 1) ((y.ok.block _ l1).trans h35) rfl
          have r2 : ∀ y : After w8, y.val.cell? ⟨w7.heap.size, 2, none⟩ = some (.int .i64 x.ht) := fun y => cell_in (o := 2) ((y.ok.block _ l1).trans h35) rfl
          have HN : Nonempty (After w8) := ⟨⟨w8, Below.refl _ _⟩⟩
          clear h35 h55
          rcases Nat.eq_zero_or_pos jj with h0 | h0
          · have k5 : decide (0 < jj) = false := decide_eq_false (by omega)
            have k6 : ¬ (0 : Int) < (jj : Int) := by omega
            refine wp_region_after (by kernel_rfl) (by kernel_rfl) ?_
            repeat (go_big_quiet_step (fail))
            refine wpQuiet_nil ?_
            rintro _ ⟨y, rfl⟩
            have hy := y.ok
            have c0 := r0 y
            clear q0 q1 q2 q3 q4 r0 r1 r2
            go_wp2_with fail
            go_roundg (m - (jj + 1))
            case measure => omega
            case rel => exact ⟨jj + 1, by omega, by omega, by go_num, by rw [HT1.out], by have := hy.size; omega, Lib.hid (B8.out.trans (hy.mono (by omega)))⟩
          · obtain ⟨i, rfl⟩ : ∃ i, jj = i + 1 := ⟨jj - 1, by omega⟩
            have k5 : decide (0 < i + 1) = true := decide_eq_true (by omega)
            have k6 : (0 : Int) < ((i + 1 : Nat) : Int) := by omega
            obtain ⟨p, hpk⟩ : ∃ p, l[i]? = some p := ⟨_, List.getElem?_eq_getElem (by have := HM.out; omega)⟩
            have hless := HP.out p (by omega) hpk
            obtain ⟨b3, off3, hA3, g3, g4, d0, d1, _, _, _⟩ := HE.out.at hpk
            injection hA3 with hA3
            injection hA3 with e5 e6
            subst e5 e6
            have k7 : IntKind.i64.wrap (((i + 1 : Nat) : Int) - 1) = (i : Int) := by rw [IntWalk.i64_in _ (by omega)]; omega
            have k8 : ((i + 1 : Nat) : Int) - 1 = (i : Int) := by omega
            have k9 : (i : Int) < (m : Int) := by omega
            have k10 : (0 : Int) ≤ (i : Int) := by omega
            have lb5 : b2 < w5.heap.size := by omega
            have s0 : ∀ y : After w8, y.val.cell? ⟨b2, off2 + i * 5, none⟩ = some (.string p.id) := fun y => (y.ok.cell (p := ⟨b2, off2 + i * 5, none⟩) lbb).trans ((B8.out.cell (p := ⟨b2, off2 + i * 5, none⟩) lb5).trans d0)
            have s1 : ∀ y : After w8, y.val.cell? ⟨b2, off2 + i * 5 + 1, none⟩ = some (.int .u32 p.ix) := fun y => (y.ok.cell (p := ⟨b2, off2 + i * 5 + 1, none⟩) lbb).trans ((B8.out.cell (p := ⟨b2, off2 + i * 5 + 1, none⟩) lb5).trans d1)
            have CL := Lib.hid (fun y : After w8 => rless_any p.id p.ix x.id x.ix y.val)
            rw [hless] at CL
            clear hless d0 d1 hpk
            refine wp_region_after (by kernel_rfl) (by kernel_rfl) ?_
            repeat (go_big_quiet_step ((go_at_call 22; exact After.call _ (CL.out _))))
            refine wpQuiet_nil ?_
            rintro _ ⟨y, rfl⟩
            have hy := y.ok
            have c0 := r0 y
            clear q0 q1 q2 q3 q4 r0 r1 r2 s0 s1
            go_wp2_with fail
            go_roundg (m - (i + 1 + 1))
            case measure => omega
            case rel => exact ⟨i + 1 + 1, by omega, by omega, by go_num, by rw [HT1.out], by have := hy.size; omega, Lib.hid (B8.out.trans (hy.mono (by omega)))⟩
        · have k3 : ¬ (jj : Int) < (m : Int) := by omega
          have k4 : decide (jj < m) = false := decide_eq_false hlt2
          have hjm : jj = m := by omega
          have hT : tot (l.take jj) = tot l := by rw [hjm, HM.out, List.take_length]
          rw [hT]
          have CW := Lib.hid (wakes_any wr)
          clear hT
          go_wp2_with fail
          refine CW.out.mono ?_
          rintro e w6 ⟨rfl, hb6⟩
          have S6 := SR.out.below hb6 SR.out.lta SR.out.ltb
          have CT := Lib.hid (total_any _ _ l w6 S6)
          have CL := Lib.hid (len_any _ _ l w6 S6)
          rw [← HM.out] at CL
          have HB6 := Lib.hid hb6
          obtain ⟨t0, ht0⟩ : ∃ t0, t0 = tot l := ⟨_, rfl⟩
          rw [← ht0] at CT ⊢
          clear hb6 S6 CW ht0
          go_wp2_with fail
          refine CT.out.mono ?_
          rintro e w7 ⟨rfl, hw⟩
          subst w7
          go_wp2_with fail
          refine CL.out.mono ?_
          rintro e w7 ⟨rfl, hw⟩
          subst w7
          go_wp2_with fail
          go_ret
          exact ⟨rfl, B5.out.trans ((HB2.out.trans (HB6.out.mono (by omega))).mono (by omega))⟩

end Go.Proofs.Ytdchbeomlfancaa
