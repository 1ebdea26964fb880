/-
  The statement CoinsCopy, walked.
-/
import Derived.Test.YtdchbeomlfancaaOwalk
import Derived.Test.YtdchbeomlfancaaEqn
import Derived.Test.YtdchbeomlfancaaCpy
import Derived.Test.YtdchbeomlfancaaSam
namespace Go.Proofs.Ytdchbeomlfancaa
open Go.RowKit

theorem co_seven (p : ByteArray) (i : Int) : CoOk ⟨p, i, 7, ⟨#[]⟩, 0⟩ := by
  unfold CoOk
  exact ⟨show (-9223372036854775808 : Int) ≤ 7 from by decide, show (7 : Int) ≤ 9223372036854775807 from by decide, Nat.zero_le 64, show (-9223372036854775808 : Int) ≤ 0 from by decide, show (0 : Int) ≤ 9223372036854775807 from by decide⟩

theorem co_bits0 (p : ByteArray) (i a b : Int) : CoOk ⟨p, i, bits .and .i64 a b, ⟨#[]⟩, 0⟩ := by
  have h1 := bits_lo_i64 .and a b
  have h2 := bits_hi_i64 .and a b
  unfold CoOk
  generalize bits .and .i64 a b = x at h1 h2 ⊢
  exact ⟨h1, h2, Nat.zero_le 64, show (-9223372036854775808 : Int) ≤ 0 from by decide, show (0 : Int) ≤ 9223372036854775807 from by decide⟩

set_option maxHeartbeats 4000000 in
set_option maxRecDepth 100000 in
theorem copy_law (xs zs : List AcD) (u u2 : Value) (w : World) (hx : Acts w 0 w.heap.size u xs) (hx2 : Acts w 0 w.heap.size u2 zs) (ok : ∀ x ∈ xs, x.Ok) (ok2 : ∀ x ∈ zs, x.Ok) (hl : xs.length ≤ maxLen) (hl2 : zs.length ≤ maxLen) :
    Calls Try.prog 4 #[u, u2] w fun e w' => e = .returned (.bool true) ∧ Below w.heap.size w w' := by
  obtain ⟨A, c, rfl⟩ := hx.form
  obtain ⟨A2, c2, rfl⟩ := hx2.form
  have hcap := hx.cap
  have hcap2 := hx2.cap
  obtain ⟨n, hn⟩ : ∃ n, min xs.length 12 = n := ⟨_, rfl⟩
  obtain ⟨n', hn'⟩ : ∃ n, min zs.length 12 = n := ⟨_, rfl⟩
  have hmn : ∀ w, (Builtin.min_ #[3, 3] 3 #[.int .i64 (xs.length : Int), .int .i64 12]).run Try.prog w = .ok (.int .i64 (n : Nat)) w := by rw [← hn]; exact fun w => run_min_nat 12 #[3, 3] 3 xs.length w
  have hmm : ∀ w, (Builtin.min_ #[3, 3] 3 #[.int .i64 (zs.length : Int), .int .i64 12]).run Try.prog w = .ok (.int .i64 (n' : Nat)) w := by rw [← hn']; exact fun w => run_min_nat 12 #[3, 3] 3 zs.length w
  have n1 : n ≤ c := by omega
  have n2 : (n : Int) ≤ (c : Int) := by omega
  have n3 : (0 : Int) ≤ (n : Int) := by omega
  have n4 : n ≤ 12 := by omega
  have m1 : n' ≤ c2 := by omega
  have m2 : (n' : Int) ≤ (c2 : Int) := by omega
  have m3 : (0 : Int) ≤ (n' : Int) := by omega
  have m4 : n' ≤ 12 := by omega
  have hl' : xs.length ≤ 9223372036854775807 := by unfold maxLen at hl; omega
  have hl2' : zs.length ≤ 9223372036854775807 := by unfold maxLen at hl2; omega
  obtain ⟨ys, hys⟩ : ∃ ys, xs.take n = ys := ⟨_, rfl⟩
  obtain ⟨ys2, hys2⟩ : ∃ ys, zs.take n' = ys := ⟨_, rfl⟩
  have hyl : ys.length = n := by rw [← hys, List.length_take]; omega
  have hyl2 : ys2.length = n' := by rw [← hys2, List.length_take]; omega
  have HX := Lib.hid (show Acts w 0 w.heap.size (.slice A n c) ys from by rw [← hys]; exact hx.take (by omega))
  have HX2 := Lib.hid (show Acts w 0 w.heap.size (.slice A2 n' c2) ys2 from by rw [← hys2]; exact hx2.take (by omega))
  have HO := Lib.hid (show ∀ x ∈ ys, x.Ok from by rw [← hys]; exact fun x hx => ok x (List.mem_of_mem_take hx))
  have HO2 := Lib.hid (show ∀ x ∈ ys2, x.Ok from by rw [← hys2]; exact fun x hx => ok2 x (List.mem_of_mem_take hx))
  have CN := Lib.hid (new_any w)
  clear hx ok hl hcap hn hys hx2 ok2 hl2 hcap2 hn' hys2
  go_enter Try.func4, Try.ntmps4
  go_wp2_with fail
  refine CN.out.mono ?_
  rintro e w0 ⟨rfl, hs0, hb0, hz0⟩
  have CN2 := Lib.hid (new_any w0)
  have S0 := Lib.hid hs0
  have B0 := Lib.hid hb0
  clear hs0 hb0 CN
  go_wp2_with fail
  refine CN2.out.mono ?_
  rintro e w1 ⟨rfl, hs1, hb1, hz1⟩
  rw [hz0] at hs1 ⊢
  have K1 := Lib.hid hs1
  have S1 := Lib.hid (S0.out.below hb1 (by omega) (by omega))
  have B1 := Lib.hid (B0.out.trans (hb1.mono (by omega)))
  have hz1' : w1.heap.size = w.heap.size + 4 := by omega
  clear hs1 hb1 CN2
  go_upto_region 2 with (fail)
  go_quiet (fail)
  clear hmn hmm
  obtain ⟨wq, hwq⟩ : ∃ wq, wq = w1.drewN nq := ⟨_, rfl⟩
  have hzq : wq.heap.size = w.heap.size + 4 := by rw [hwq]; exact hz1'
  have Kq := Lib.hid (show SetIs wq (w.heap.size + 2 + 1) (w.heap.size + 2) [] from K1.out.keep (by rw [hwq]; rfl) (by rw [hwq]; rfl))
  have Sq := Lib.hid (show SetIs wq (w.heap.size + 1) w.heap.size [] from S1.out.keep (by rw [hwq]; rfl) (by rw [hwq]; rfl))
  have Bq := Lib.hid (show Below w.heap.size w wq from by rw [hwq]; exact below_drewN B1.out nq)
  rw [← hwq]
  clear hwq
  go_wp2_with fail
  go_loopg [33] n (fun gg s33 wr => ∃ (kk : Nat) (l : List EnD), kk ≤ n ∧ n - kk ≤ gg ∧ s33 = .int .i64 kk ∧ l.length ≤ kk ∧ wq.heap.size ≤ wr.heap.size ∧ Hid (SetIs wr (w.heap.size + 1) w.heap.size l) ∧ Hid (SetIs wr (w.heap.size + 2 + 1) (w.heap.size + 2) []) ∧ Hid (Below w.heap.size w wr) ∧ Hid (∀ x ∈ l, argB x = true))
  case atStart => exact ⟨0, [], Nat.zero_le _, by omega, rfl, Nat.le_refl _, Nat.le_refl _, Sq, Kq, Bq, Lib.hid (by simp)⟩
  case round =>
    obtain ⟨kk, l, hkk, hgg, rfl, hll, hzr, HS, HK, HB, HA⟩ := hrel
    by_cases hlt : kk < n
    · have k1 : (kk : Int) < (n : Int) := by omega
      have k2 : decide (kk < n) = true := decide_eq_true hlt
      obtain ⟨x, hxk⟩ : ∃ x, ys[kk]? = some x := ⟨_, List.getElem?_eq_getElem (by omega)⟩
      obtain ⟨b, off, rfl, h1, h2, hat⟩ := (HX.out.keep (Kept.of_below HB.out (Nat.le_refl _))).at hxk
      have hok := HO.out x (List.mem_of_getElem? hxk)
      obtain ⟨W, hW⟩ : ∃ W, W = wr.alloc (.cells (acL x) 30) := ⟨_, rfl⟩
      have hz : W.heap.size = wr.heap.size + 1 := by rw [hW]; simp
      have hbW : Below wr.heap.size wr W := by rw [hW]; exact (Below.refl _ _).alloc (Nat.le_refl _) _
      have SW := Lib.hid (HS.out.below hbW HS.out.lta HS.out.ltb)
      have KW := Lib.hid (HK.out.below hbW HK.out.lta HK.out.ltb)
      have BW := Lib.hid (HB.out.trans (hbW.mono (by omega)))
      have AW := Lib.hid (show AcAt W wr.heap.size 0 x from by rw [hW]; exact AcAt.new wr x)
      have D0 := Lib.hid (show Below W.heap.size W W.drew from (Below.refl _ _).drew)
      have CP := Lib.hid (point_beside hok D0.out AW.out (by omega))
      have hpk := pt_ok x hok
      have HW := Lib.hid hW
      have HPK := Lib.hid hpk
      obtain ⟨pi, hpi⟩ : ∃ p, p = ptI x := ⟨_, rfl⟩
      obtain ⟨px, hpx⟩ : ∃ p, p = ptX x := ⟨_, rfl⟩
      rw [← hpi, ← hpx] at CP HPK
      obtain ⟨a0, a1, a2, a3, a4, a5, a6, a7, a8⟩ := hat
      obtain ⟨d, i8, x8, v, t, s, rid, rix, od⟩ := x
      simp only [acL] at HW CP a0 a1 a2 a3 a4 a5 a6 a7 a8
      clear hW hbW hpi hpx hpk hok hxk HX HO HX2 HO2
      go_upto_region 6 with (fail)
      rw [show World.alloc wr _ = W from HW.out.symm]
      clear a0 a1 a2 a3 a4 a5 a6 a7 a8
      obtain ⟨a0, a1, a2, a3, a4, a5, a6, a7, a8⟩ := AW.out
      simp only [Nat.zero_add] at a0 a1 a2 a3 a4 a5 a6 a7 a8
      have CP' := Lib.hid (show Calls Try.prog 8 #[.agg #[.int .u8 d, .int .u8 i8, .int .u8 x8, .int .i64 v, .int .i64 t, .string s, .string rid, .int .u32 rix, .bool od]] W.drew fun e w' => e = .returned (.agg #[.string pi, .int .u32 px]) ∧ Hid (Below W.heap.size W w') ∧ (w'.cell? ⟨wr.heap.size, 0, none⟩ = some (.int .u8 d) ∧ w'.cell? ⟨wr.heap.size, 1, none⟩ = some (.int .u8 i8) ∧ w'.cell? ⟨wr.heap.size, 2, none⟩ = some (.int .u8 x8) ∧ w'.cell? ⟨wr.heap.size, 3, none⟩ = some (.int .i64 v) ∧ w'.cell? ⟨wr.heap.size, 4, none⟩ = some (.int .i64 t) ∧ w'.cell? ⟨wr.heap.size, 5, none⟩ = some (.string s) ∧ w'.cell? ⟨wr.heap.size, 6, none⟩ = some (.string rid) ∧ w'.cell? ⟨wr.heap.size, 7, none⟩ = some (.int .u32 rix) ∧ w'.cell? ⟨wr.heap.size, 8, none⟩ = some (.bool od)) from
        CP.out.mono fun e w' ⟨he, hb, _, hA⟩ => ⟨he, hb, hA⟩)
      have CQ := Lib.hid (fun (V : World) (hV : SetIs V (w.heap.size + 1) w.heap.size l) => put_any _ _ l ⟨pi, px, bits .and .i64 v 65535, ⟨#[]⟩, 0⟩ V hV ⟨HPK.out, co_bits0 pi px v 65535⟩)
      simp only at CQ
      have hpl := putL_len l ⟨pi, px, bits .and .i64 v 65535, ⟨#[]⟩, 0⟩
      have hpa := arg_put HA.out ⟨pi, px, bits .and .i64 v 65535, ⟨#[]⟩, 0⟩
      obtain ⟨l', hl'⟩ : ∃ l', l' = putL l ⟨pi, px, bits .and .i64 v 65535, ⟨#[]⟩, 0⟩ := ⟨_, rfl⟩
      rw [← hl'] at hpl CQ hpa
      have HPA := Lib.hid hpa
      have CQ' := Lib.hid (show ∀ V, Hid (Below W.heap.size W V) → (V.cell? ⟨wr.heap.size, 0, none⟩ = some (.int .u8 d) ∧ V.cell? ⟨wr.heap.size, 1, none⟩ = some (.int .u8 i8) ∧ V.cell? ⟨wr.heap.size, 2, none⟩ = some (.int .u8 x8) ∧ V.cell? ⟨wr.heap.size, 3, none⟩ = some (.int .i64 v) ∧ V.cell? ⟨wr.heap.size, 4, none⟩ = some (.int .i64 t) ∧ V.cell? ⟨wr.heap.size, 5, none⟩ = some (.string s) ∧ V.cell? ⟨wr.heap.size, 6, none⟩ = some (.string rid) ∧ V.cell? ⟨wr.heap.size, 7, none⟩ = some (.int .u32 rix) ∧ V.cell? ⟨wr.heap.size, 8, none⟩ = some (.bool od)) → Calls Try.prog 13 #[.pointer (some ⟨w.heap.size + 1, 0, none⟩), .agg #[.string pi, .int .u32 px], .agg #[.int .i64 (bits .and .i64 v 65535), .string ⟨#[]⟩, .int .i64 0]] V fun e w' => (∃ r : Int, e = .returned (.int .i64 r)) ∧ Hid (SetIs w' (w.heap.size + 1) w.heap.size l' ∧ SetIs w' (w.heap.size + 2 + 1) (w.heap.size + 2) [] ∧ Below w.heap.size w w' ∧ wq.heap.size ≤ w'.heap.size) ∧ (w'.cell? ⟨wr.heap.size, 0, none⟩ = some (.int .u8 d) ∧ w'.cell? ⟨wr.heap.size, 1, none⟩ = some (.int .u8 i8) ∧ w'.cell? ⟨wr.heap.size, 2, none⟩ = some (.int .u8 x8) ∧ w'.cell? ⟨wr.heap.size, 3, none⟩ = some (.int .i64 v) ∧ w'.cell? ⟨wr.heap.size, 4, none⟩ = some (.int .i64 t) ∧ w'.cell? ⟨wr.heap.size, 5, none⟩ = some (.string s) ∧ w'.cell? ⟨wr.heap.size, 6, none⟩ = some (.string rid) ∧ w'.cell? ⟨wr.heap.size, 7, none⟩ = some (.int .u32 rix) ∧ w'.cell? ⟨wr.heap.size, 8, none⟩ = some (.bool od)) from fun V hV hC =>
        (CQ.out V (SW.out.below hV.out (by omega) (by omega))).mono fun e w' ⟨he, hs, hk⟩ => by
          have hsz := hV.out.size
          have hks := hk.size
          have e' := fun o => World.cell?_of_block (w := V) (a := ⟨wr.heap.size, o, none⟩) (hk.block wr.heap.size (by omega) (by omega) (by omega))
          simp only [e']
          exact ⟨⟨_, he⟩, Lib.hid ⟨hs, (KW.out.below hV.out (by omega) (by omega)).aside hk (by omega) (by omega) (by omega) (by omega), But2.below (BW.out.trans (hV.out.mono (by omega))) hk (by omega) (Nat.le_refl _) (by omega), by omega⟩, hC⟩)
      clear CP CQ hl' hpa
      go_region_held3 (fun w' => w'.cell? ⟨wr.heap.size, 0, none⟩ = some (.int .u8 d) ∧ w'.cell? ⟨wr.heap.size, 1, none⟩ = some (.int .u8 i8) ∧ w'.cell? ⟨wr.heap.size, 2, none⟩ = some (.int .u8 x8) ∧ w'.cell? ⟨wr.heap.size, 3, none⟩ = some (.int .i64 v) ∧ w'.cell? ⟨wr.heap.size, 4, none⟩ = some (.int .i64 t) ∧ w'.cell? ⟨wr.heap.size, 5, none⟩ = some (.string s) ∧ w'.cell? ⟨wr.heap.size, 6, none⟩ = some (.string rid) ∧ w'.cell? ⟨wr.heap.size, 7, none⟩ = some (.int .u32 rix) ∧ w'.cell? ⟨wr.heap.size, 8, none⟩ = some (.bool od))
        (go_keep)
        (first
          | (go_at_call 8; refine CP'.out.mono ?_; rintro e w3 ⟨rfl, hb3, b0, b1, b2, b3, b4, b5, b6, b7, b8⟩)
          | (go_at_call 13; refine (CQ'.out _ hb3 ⟨b0, b1, b2, b3, b4, b5, b6, b7, b8⟩).mono ?_; rintro e w4 ⟨⟨r, rfl⟩, h4, d0, d1, d2, d3, d4, d5, d6, d7, d8⟩))
      go_wp2_with fail
      go_roundg (n - (kk + 1))
      case measure => omega
      case rel => exact ⟨kk + 1, l', by omega, by omega, by go_num, by omega, h4.out.2.2.2, Lib.hid h4.out.1, Lib.hid h4.out.2.1, Lib.hid h4.out.2.2.1, HPA⟩
    · have k1 : ¬ (kk : Int) < (n : Int) := by omega
      have k2 : decide (kk < n) = false := decide_eq_false hlt
      have hl12 : l.length ≤ 12 := by omega
      have CA := Lib.hid (fun V (hV : SetIs V (w.heap.size + 1) w.heap.size l) => all_any _ _ l V hV (by omega))
      have CL := Lib.hid (fun V (hV : SetIs V (w.heap.size + 1) w.heap.size l) => len_any _ _ l V hV)
      have HG := Lib.hid HS.out.good
      clear HX HO
      go_wp2_with fail
      refine (CA.out _ HS.out).mono ?_
      rintro e w5 ⟨v5, rfl, hen, hb5⟩
      obtain ⟨A5, c5, rfl⟩ := hen.form
      have z5 := hb5.size
      have S5 := Lib.hid (HS.out.below hb5 HS.out.lta HS.out.ltb)
      have K5 := Lib.hid (HK.out.below hb5 HK.out.lta HK.out.ltb)
      have B5 := Lib.hid (HB.out.trans (hb5.mono (by omega)))
      clear hen hb5
      go_wp2_with fail
      go_loopg [50] l.length (fun gg s50 wr => ∃ (jj : Nat), jj ≤ l.length ∧ l.length - jj ≤ gg ∧ s50 = .int .i64 jj ∧ w5.heap.size ≤ wr.heap.size ∧ Hid (SetIs wr (w.heap.size + 1) w.heap.size l) ∧ Hid (SetIs wr (w.heap.size + 2 + 1) (w.heap.size + 2) (l.drop (l.length - jj))) ∧ Hid (Below w.heap.size w wr))
      case atStart => exact ⟨0, Nat.zero_le _, by omega, rfl, Nat.le_refl _, S5, by rw [Nat.sub_zero, List.drop_length]; exact K5, B5⟩
      case round =>
        obtain ⟨jj, hjj, hgg2, rfl, hzr2, HS2, HK2, HB2⟩ := hrel
        by_cases hlt2 : jj < l.length
        · have k3 : (jj : Int) < (l.length : Int) := by omega
          have k4 : decide (jj < l.length) = true := decide_eq_true hlt2
          obtain ⟨i, hi⟩ : ∃ i, i = l.length - 1 - jj := ⟨_, rfl⟩
          have i1 : l.length - jj = i + 1 := by omega
          have i2 : l.length - (jj + 1) = i := by omega
          have i3 : i < l.length := by omega
          obtain ⟨x, hxk⟩ : ∃ x, l[i]? = some x := ⟨_, List.getElem?_eq_getElem i3⟩
          have hpb := put_back HG.out HA.out hxk
          have ho := HG.out.ok x (List.mem_of_getElem? hxk)
          have w1' : IntKind.i64.wrap ((l.length : Int) - 1) = (l.length : Int) - 1 := IntWalk.i64_in _ (by omega)
          have w2' : IntKind.i64.wrap ((l.length : Int) - 1 - (jj : Int)) = (i : Int) := by rw [IntWalk.i64_in _ (by omega)]; omega
          have i4 : (i : Int) < (l.length : Int) := by omega
          have i5 : (0 : Int) ≤ (i : Int) := by omega
          rw [i1] at HK2
          have HXK := Lib.hid hxk
          have HPB := Lib.hid hpb
          have HI2 := Lib.hid i2
          have HOK := Lib.hid ho
          clear hi i1 i2 hpb ho
          go_wp2_with fail
          refine (CA.out _ HS2.out).mono ?_
          rintro e w6 ⟨v6, rfl, hen, hb6⟩
          obtain ⟨A6, c6, rfl⟩ := hen.form
          have z6 := hb6.size
          have S6 := Lib.hid (HS2.out.below hb6 HS2.out.lta HS2.out.ltb)
          have K6 := Lib.hid (HK2.out.below hb6 HK2.out.lta HK2.out.ltb)
          have B6 := Lib.hid (HB2.out.trans (hb6.mono (by omega)))
          obtain ⟨b6, off6, rfl, g1, g2, c0, c1, c2', c3, c4⟩ := hen.at HXK.out
          clear hen hb6
          go_wp2_with fail
          refine (CL.out _ S6.out).mono ?_
          rintro e w7 ⟨rfl, hw⟩
          subst w7
          obtain ⟨W, hW⟩ : ∃ W, W = w6.alloc (.cells #[.string x.id, .int .u32 x.ix, .int .i64 x.val, .string x.scr, .int .i64 x.ht] 55) := ⟨_, rfl⟩
          have hz : W.heap.size = w6.heap.size + 1 := by rw [hW]; simp
          have hbW : Below w6.heap.size w6 W := by rw [hW]; exact (Below.refl _ _).alloc (Nat.le_refl _) _
          have h55 : W.heap[w6.heap.size]? = some (.cells #[.string x.id, .int .u32 x.ix, .int .i64 x.val, .string x.scr, .int .i64 x.ht] 55) := by rw [hW]; exact heap_alloc_new _ _
          have SW := Lib.hid (S6.out.below hbW S6.out.lta S6.out.ltb)
          have KW := Lib.hid (K6.out.below hbW K6.out.lta K6.out.ltb)
          have BW := Lib.hid (B6.out.trans (hbW.mono (by omega)))
          have p0 := cell_in (o := 0) (v := .string x.id) h55 rfl
          have p1 := cell_in (o := 1) (v := .int .u32 x.ix) h55 rfl
          have p2 := cell_in (o := 2) (v := .int .i64 x.val) h55 rfl
          have p3 := cell_in (o := 3) (v := .string x.scr) h55 rfl
          have p4 := cell_in (o := 4) (v := .int .i64 x.ht) h55 rfl
          have CQ := Lib.hid (put_any _ _ _ x W KW.out HOK.out)
          rw [HPB.out] at CQ
          have HW := Lib.hid hW
          clear hW hbW h55
          go_upto_region 12 with (fail)
          rw [show World.alloc w6 _ = W from HW.out.symm]
          clear c0 c1 c2' c3 c4
          go_wp2_with fail
          refine CQ.out.mono ?_
          rintro e w8 ⟨rfl, hs8, hk8⟩
          have S8 := Lib.hid (SW.out.aside hk8 (by omega) (by omega) (by omega) (by omega))
          have K8 := Lib.hid hs8
          have B8 := Lib.hid (But2.below BW.out hk8 (by omega) (by omega) (by omega))
          have z8 := hk8.size
          clear hs8 hk8 CQ p0 p1 p2 p3 p4
          go_wp2_with fail
          go_roundg (l.length - (jj + 1))
          case measure => omega
          case rel => exact ⟨jj + 1, by omega, by omega, by go_num, by omega, S8, by rw [HI2.out]; exact K8, B8⟩
        · have k3 : ¬ (jj : Int) < (l.length : Int) := by omega
          have k4 : decide (jj < l.length) = false := decide_eq_false hlt2
          rename World => wb
          have hjl : jj = l.length := by omega
          rw [hjl, Nat.sub_self, List.drop_zero] at HK2
          have CC := Lib.hid (copy_any _ _ l wb HS2.out)
          have zb := HB2.out.size
          clear CL HA HS HK HB S5 K5 B5 Kq Sq Bq K1 S1 B1 B0 S0
          go_wp2_with fail
          refine CC.out.mono ?_
          rintro e w6 ⟨rfl, hs6, hb6⟩
          have z6 := hb6.size
          have lz6 := hs6.lta
          have S6 := Lib.hid (HS2.out.below hb6 HS2.out.lta HS2.out.ltb)
          have K6 := Lib.hid (HK2.out.below hb6 HK2.out.lta HK2.out.ltb)
          have B6 := Lib.hid (HB2.out.trans (hb6.mono (by omega)))
          have C6 := Lib.hid hs6
          have CA6 := Lib.hid (CA.out _ S6.out)
          clear hs6 hb6 CC
          go_wp2_with fail
          refine CA6.out.mono ?_
          rintro e w7 ⟨v7, rfl, hen7, hb7⟩
          obtain ⟨A7, c7, rfl⟩ := hen7.form
          have z7 := hb7.size
          have S7 := Lib.hid (S6.out.below hb7 S6.out.lta S6.out.ltb)
          have K7 := Lib.hid (K6.out.below hb7 K6.out.lta K6.out.ltb)
          have C7 := Lib.hid (C6.out.below hb7 C6.out.lta C6.out.ltb)
          have B7 := Lib.hid (B6.out.trans (hb7.mono (by omega)))
          have E7 := Lib.hid hen7
          clear hen7 hb7 CA6 S6 K6 C6 B6 HS2 HK2 HB2
          go_wp2_with fail
          go_loopg [75] n' (fun gg s75 wr => ∃ (j3 : Nat) (lc : List EnD), j3 ≤ n' ∧ n' - j3 ≤ gg ∧ s75 = .int .i64 j3 ∧ w7.heap.size ≤ wr.heap.size ∧ Hid (SetIs wr (w.heap.size + 1) w.heap.size l) ∧ Hid (SetIs wr (w.heap.size + 2 + 1) (w.heap.size + 2) l) ∧ Hid (SetIs wr (wb.heap.size + 1) wb.heap.size lc) ∧ Hid (Below w.heap.size w wr) ∧ Hid (Ents wr w6.heap.size w7.heap.size (.slice A7 l.length c7) l))
          case atStart => exact ⟨0, l, Nat.zero_le _, by omega, rfl, Nat.le_refl _, S7, K7, C7, B7, E7⟩
          case round =>
            obtain ⟨j3, lc, hj3, hg3, rfl, hz3, HS3, HK3, HC3, HB3, HE3⟩ := hrel
            clear S7 K7 C7 B7 E7
            by_cases hlt3 : j3 < n'
            · have k1 : (j3 : Int) < (n' : Int) := by omega
              have k2 : decide (j3 < n') = true := decide_eq_true hlt3
              obtain ⟨x, hxk⟩ : ∃ x, ys2[j3]? = some x := ⟨_, List.getElem?_eq_getElem (by omega)⟩
              obtain ⟨b, off, rfl, h1, h2, hat⟩ := (HX2.out.keep (Kept.of_below HB3.out (Nat.le_refl _))).at hxk
              have hok := HO2.out x (List.mem_of_getElem? hxk)
              obtain ⟨W, hW⟩ : ∃ W, W = wr.alloc (.cells (acL x) 30) := ⟨_, rfl⟩
              have hz : W.heap.size = wr.heap.size + 1 := by rw [hW]; simp
              have hbW : Below wr.heap.size wr W := by rw [hW]; exact (Below.refl _ _).alloc (Nat.le_refl _) _
              have SW := Lib.hid (HS3.out.below hbW HS3.out.lta HS3.out.ltb)
              have KW := Lib.hid (HK3.out.below hbW HK3.out.lta HK3.out.ltb)
              have CW := Lib.hid (HC3.out.below hbW HC3.out.lta HC3.out.ltb)
              have BW := Lib.hid (HB3.out.trans (hbW.mono (by omega)))
              have EW := Lib.hid (HE3.out.keep (Kept.of_below hbW (by omega)))
              have AW := Lib.hid (show AcAt W wr.heap.size 0 x from by rw [hW]; exact AcAt.new wr x)
              have CP := Lib.hid (point_beside hok (Below.refl W.heap.size W) AW.out (by omega))
              have hpk := pt_ok x hok
              have HW := Lib.hid hW
              have HPK := Lib.hid hpk
              obtain ⟨pi, hpi⟩ : ∃ p, p = ptI x := ⟨_, rfl⟩
              obtain ⟨px, hpx⟩ : ∃ p, p = ptX x := ⟨_, rfl⟩
              rw [← hpi, ← hpx] at CP HPK
              obtain ⟨a0, a1, a2, a3, a4, a5, a6, a7, a8⟩ := hat
              obtain ⟨d, i8, x8, v, t, s, rid, rix, od⟩ := x
              simp only [acL] at HW CP a0 a1 a2 a3 a4 a5 a6 a7 a8
              clear hW hbW hpi hpx hpk hok hxk HX2 HO2 HS3 HK3 HC3 HB3 HE3 CA
              go_upto_region 19 with (fail)
              rw [show World.alloc wr _ = W from HW.out.symm]
              clear a0 a1 a2 a3 a4 a5 a6 a7 a8
              obtain ⟨a0, a1, a2, a3, a4, a5, a6, a7, a8⟩ := AW.out
              simp only [Nat.zero_add] at a0 a1 a2 a3 a4 a5 a6 a7 a8
              cases hd : (bits .and .u8 d 1 == 1) with
              | true =>
                go_wp2_with fail
                refine CP.out.mono ?_
                rintro e w8 ⟨rfl, hb8, hz8, _⟩
                have C8 := Lib.hid (CW.out.below hb8.out (by omega) (by omega))
                have CT := Lib.hid (take_any _ _ lc pi px w8 C8.out HPK.out)
                go_wp2_with fail
                refine CT.out.mono ?_
                rintro e w9 ⟨rfl, hs9, hk9⟩
                have S9 := Lib.hid ((SW.out.below hb8.out (by omega) (by omega)).aside hk9 (by omega) (by omega) (by omega) (by omega))
                have K9 := Lib.hid ((KW.out.below hb8.out (by omega) (by omega)).aside hk9 (by omega) (by omega) (by omega) (by omega))
                have B9 := Lib.hid (But2.below (BW.out.trans (hb8.out.mono (by omega))) hk9 (by omega) (by omega) (by omega))
                have E9 := Lib.hid ((EW.out.keep (Kept.of_below hb8.out (by omega))).keep (hk9.kept (by omega) (by omega) (by omega)))
                have C9 := Lib.hid hs9
                have z9 := hk9.size
                clear hs9 hk9 CT CP
                go_wp2_with fail
                go_roundg (n' - (j3 + 1))
                case measure => omega
                case rel => exact ⟨j3 + 1, delL lc pi px, by omega, by omega, by go_num, by omega, S9, K9, C9, B9, E9⟩
              | false =>
                go_wp2_with fail
                refine CP.out.mono ?_
                rintro e w8 ⟨rfl, hb8, hz8, _⟩
                have C8 := Lib.hid (CW.out.below hb8.out (by omega) (by omega))
                have CT := Lib.hid (put_any _ _ lc ⟨pi, px, 7, ⟨#[]⟩, 0⟩ w8 C8.out ⟨HPK.out, co_seven pi px⟩)
                simp only at CT
                go_wp2_with fail
                refine CT.out.mono ?_
                rintro e w9 ⟨rfl, hs9, hk9⟩
                have S9 := Lib.hid ((SW.out.below hb8.out (by omega) (by omega)).aside hk9 (by omega) (by omega) (by omega) (by omega))
                have K9 := Lib.hid ((KW.out.below hb8.out (by omega) (by omega)).aside hk9 (by omega) (by omega) (by omega) (by omega))
                have B9 := Lib.hid (But2.below (BW.out.trans (hb8.out.mono (by omega))) hk9 (by omega) (by omega) (by omega))
                have E9 := Lib.hid ((EW.out.keep (Kept.of_below hb8.out (by omega))).keep (hk9.kept (by omega) (by omega) (by omega)))
                have C9 := Lib.hid hs9
                have z9 := hk9.size
                clear hs9 hk9 CT CP
                go_wp2_with fail
                go_roundg (n' - (j3 + 1))
                case measure => omega
                case rel => exact ⟨j3 + 1, _, by omega, by omega, by go_num, by omega, S9, K9, C9, B9, E9⟩
            · have k1 : ¬ (j3 : Int) < (n' : Int) := by omega
              have k2 : decide (j3 < n') = false := decide_eq_false hlt3
              have CA3 := Lib.hid (CA.out _ HS3.out)
              clear HX2 HO2 HC3
              go_wp2_with fail
              refine CA3.out.mono ?_
              rintro e w8 ⟨v8, rfl, hen8, hb8⟩
              obtain ⟨A8, c8, rfl⟩ := hen8.form
              have z8 := hb8.size
              have S8 := Lib.hid (HS3.out.below hb8 HS3.out.lta HS3.out.ltb)
              have K8 := Lib.hid (HK3.out.below hb8 HK3.out.lta HK3.out.ltb)
              have B8 := Lib.hid (HB3.out.trans (hb8.mono (by omega)))
              have E8 := Lib.hid (HE3.out.keep (Kept.of_below hb8 (by omega)))
              have F8 := Lib.hid hen8
              have CA4 := Lib.hid (all_any _ _ l w8 K8.out (by omega))
              clear hen8 hb8 CA3 HS3 HK3 HB3 HE3 CA
              go_wp2_with fail
              refine CA4.out.mono ?_
              rintro e w9 ⟨v9, rfl, hen9, hb9⟩
              obtain ⟨A9, c9, rfl⟩ := hen9.form
              have z9 := hb9.size
              have S9 := Lib.hid (S8.out.below hb9 S8.out.lta S8.out.ltb)
              have B9 := Lib.hid (B8.out.trans (hb9.mono (by omega)))
              have E9 := Lib.hid (E8.out.keep (Kept.of_below hb9 (by omega)))
              have F9 := Lib.hid (F8.out.keep (Kept.of_below hb9 (by omega)))
              have G9 := Lib.hid hen9
              have CK := Lib.hid (wakes_any w9)
              clear hen9 hb9 CA4 S8 K8 B8 E8 F8
              obtain ⟨m, hm⟩ : ∃ m, m = l.length := ⟨_, rfl⟩
              have HM := Lib.hid hm
              rw [← hm] at E9 F9 G9 ⊢
              have e1 : ((m : Int) != (m : Int)) = false := by simp
              have hm12 : m ≤ 12 := by omega
              clear hm
              go_wp2_with fail
              refine CK.out.mono ?_
              rintro e w10 ⟨rfl, hb10⟩
              have z10 := hb10.size
              have S10 := Lib.hid (S9.out.below hb10 S9.out.lta S9.out.ltb)
              have B10 := Lib.hid (B9.out.trans (hb10.mono (by omega)))
              have E10 := Lib.hid (E9.out.keep (Kept.of_below hb10 (by omega)))
              have F10 := Lib.hid (F9.out.keep (Kept.of_below hb10 (by omega)))
              have G10 := Lib.hid (G9.out.keep (Kept.of_below hb10 (by omega)))
              clear hb10 CK S9 B9 E9 F9 G9
              go_wp2_with fail
              go_loopg [17, 116] m (fun gg s17 s116 wr => ∃ (j4 : Nat), j4 ≤ m ∧ m - j4 ≤ gg ∧ s116 = .int .i64 j4 ∧ s17 = .int .i64 (tot (l.take j4)) ∧ w10.heap.size ≤ wr.heap.size ∧ Hid (Below w10.heap.size w10 wr))
              case atStart => exact ⟨0, Nat.zero_le _, by omega, rfl, by simp [tot], Nat.le_refl _, Below.refl _ _⟩
              case round =>
                obtain ⟨j4, hj4, hg4, rfl, rfl, hz4, HB4⟩ := hrel
                by_cases hlt4 : j4 < m
                · have k5 : (j4 : Int) < (m : Int) := by omega
                  have k6 : decide (j4 < m) = true := decide_eq_true hlt4
                  obtain ⟨x, hxk⟩ : ∃ x, l[j4]? = some x := ⟨_, List.getElem?_eq_getElem (by have := HM.out; omega)⟩
                  have hmem := List.mem_of_getElem? hxk
                  have hts : tot (l.take (j4 + 1)) = tot (l.take j4) + x.val := by
                    rw [List.take_add_one, hxk, tot_append]
                    simp [tot]
                  have htb := tot_take HG.out.pos (j4 + 1)
                  have hmost := HG.out.most
                  have hwr : IntKind.i64.wrap (tot (l.take j4) + x.val) = tot (l.take (j4 + 1)) := by
                    rw [← hts]
                    exact IntWalk.i64_in _ (by omega)
                  obtain ⟨b7, off7, rfl, g1, g2, c0, c1, c2', c3, c4⟩ := (E10.out.keep (Kept.of_below HB4.out (by omega))).at hxk
                  obtain ⟨b8, off8, rfl, g3, g4, d0, d1, d2, d3, d4⟩ := (F10.out.keep (Kept.of_below HB4.out (by omega))).at hxk
                  obtain ⟨b9, off9, rfl, g5, g6, f0, f1, f2, f3, f4⟩ := (G10.out.keep (Kept.of_below HB4.out (by omega))).at hxk
                  have n1 := run_neq_en
                  have n2 := en_guard
                  have n5 : ptB x.id x.ix x.id x.ix = true := ptB_refl _ _
                  have n6 : coB x.val x.scr x.ht x.val x.scr x.ht = true := coB_refl _ _ _
                  obtain ⟨t0, ht0⟩ : ∃ t0, t0 = tot (l.take j4) := ⟨_, rfl⟩
                  obtain ⟨t1, ht1⟩ : ∃ t1, t1 = tot (l.take (j4 + 1)) := ⟨_, rfl⟩
                  rw [← ht0] at hwr ⊢
                  rw [← ht1] at hwr
                  have HT1 := Lib.hid ht1
                  have cz : ∀ k, (wr.drewN k).cell? ⟨b7, off7 + j4 * 5 + 2, none⟩ = some (.int .i64 x.val) := fun k => c2'
                  clear hmem hts htb hmost ht0 ht1 hxk HG
                  go_upto_region 30 with (fail)
                  go_quiet (fail)
                  clear c0 c1 c2' c3 c4 d0 d1 d2 d3 d4 f0 f1 f2 f3 f4
                  go_wp2_with fail
                  go_roundg (m - (j4 + 1))
                  case measure => omega
                  case rel => exact ⟨j4 + 1, by omega, by omega, by go_num, by rw [HT1.out], by show w10.heap.size ≤ wr.heap.size; omega, Lib.hid (below_drewN HB4.out _)⟩
                · have k5 : ¬ (j4 : Int) < (m : Int) := by omega
                  have k6 : decide (j4 < m) = false := decide_eq_false hlt4
                  have hjm : j4 = m := by omega
                  have hT : tot (l.take j4) = tot l := by rw [hjm, HM.out, List.take_length]
                  rw [hT]
                  have SR := S10.out.below HB4.out (by have := S10.out.lta; omega) (by have := S10.out.ltb; omega)
                  have CT := Lib.hid (total_any _ _ l wr SR)
                  obtain ⟨t0, ht0⟩ : ∃ t0, t0 = tot l := ⟨_, rfl⟩
                  rw [← ht0] at CT ⊢
                  clear hT SR ht0
                  go_wp2_with fail
                  refine CT.out.mono ?_
                  rintro e w11 ⟨rfl, hw⟩
                  subst w11
                  go_wp2_with fail
                  go_ret
                  exact ⟨rfl, B10.out.trans (HB4.out.mono (by omega))⟩

end Go.Proofs.Ytdchbeomlfancaa
