/-
  Coins taken out, coins put in; what a block changed, reverted: the program's takeOut, putIn and Revert.
  What a block changed, reverted: the program's Revert.
-/
import Derived.Test.YtnmfjnfdnjjngaaGreatDoorMWks
import Derived.Test.YtnmfjnfdnjjngaaGreatDoorMEqs
import Derived.Test.YtnmfjnfdnjjngaaGreatDoorMBls

namespace Go.Proofs.YtnmfjnfdnjjngaaGreatDoor
open Go.RowKit
set_option maxRecDepth 100000

theorem ret_i38 {a b : Int} (h : a = b) : Ending.returned (.int .i64 a) = .returned (.int .i64 b) := by rw [h]

set_option maxHeartbeats 1000000 in
theorem takeout_any (a b : Nat) (l xs : List Co.EnD) (A : Option Addr) (cp : Nat) (w : World) (lo hi : Nat) (hs : Co.SetIs w a b l) (hx : Co.Ents w lo hi (.slice A xs.length cp) xs) (hhi : hi ≤ w.heap.size)
    (hof : ∀ i ∈ [a, b], i < lo ∨ hi ≤ i) (hok : ∀ x ∈ xs, x.Ok) (hl : xs.length ≤ 1000000) :
    Calls Tryz.prog 42 #[.pointer (some ⟨a, 0, none⟩), .slice A xs.length cp] w fun e w' => e = .returned (.tuple #[]) ∧ Co.SetIs w' a b (Co.takesL l xs) ∧ Tn [a, b] w w' := by
  have HX := Lib.hid (fun V (hV : Tn [a, b] w V) => hx.keep (fun i h1 h2 => (hV.kept hof hhi) i h1 h2))
  have HS := Lib.hid hs
  have OK := Lib.hid hok
  have HH := Lib.hid hhi
  obtain ⟨n, hne⟩ : ∃ n, xs.length = n := ⟨_, rfl⟩
  have HNE := Lib.hid hne
  rw [hne] at HX hl ⊢
  clear hs hx hok hne hhi hof
  go_enter Tryz.func42, Tryz.ntmps42
  go_wp2_with fail
  go_loopg [8] n (fun gg s8 wr => ∃ k : Nat, k ≤ n ∧ n - k ≤ gg ∧ s8 = .int .i64 (k : Int) ∧ Hid (Co.SetIs wr a b (Co.takesL l (xs.take k))) ∧ Hid (Tn [a, b] w wr))
  case atStart => exact ⟨0, Nat.zero_le _, by omega, rfl, by rw [List.take_zero]; exact HS, Lib.hid (Tn.refl _ _)⟩
  case round =>
    obtain ⟨k, hk, hgk, rfl, HK, HT⟩ := hrel
    by_cases hlt : k < n
    · have j1 : (k : Int) < (n : Int) := by omega
      have j2 : decide (k < n) = true := decide_eq_true hlt
      have j3 : ¬ (k : Int) < 0 := by omega
      obtain ⟨x, hx⟩ : ∃ x, xs[k]? = some x := ⟨_, List.getElem?_eq_getElem (by rw [HNE.out]; exact hlt)⟩
      obtain ⟨bi, oi, rfl, g1, g2, c0, c1, c2, c3, c4⟩ := (HX.out wr HT.out).at hx
      have XO := Lib.hid (OK.out x (List.mem_of_getElem? hx))
      have ST := Lib.hid (Co.takes_step (l := l) hx)
      have hbw : bi < wr.heap.size := by have := HT.out.size; have := HH.out; omega
      obtain ⟨xi, xx, xv, xs', xt⟩ := x
      simp only at c0 c1 c2 c3 c4
      obtain ⟨w8, hw8⟩ : ∃ w8, w8 = wr.alloc (.cells #[.string xi, .int .u32 xx, .int .i64 xv, .string xs', .int .i64 xt] 66) := ⟨_, rfl⟩
      have hb8 : Below wr.heap.size wr w8 := by rw [hw8]; exact (Below.refl _ _).alloc (Nat.le_refl _) _
      have y0 : w8.cell? ⟨wr.heap.size, 0, none⟩ = some (.string xi) := by rw [hw8]; simp
      have y1 : w8.cell? ⟨wr.heap.size, 1, none⟩ = some (.int .u32 xx) := by rw [hw8]; simp
      have K8 := Lib.hid (HK.out.below hb8 HK.out.lta HK.out.ltb)
      have T8 := Lib.hid (HT.out.next hb8)
      have HW8 := Lib.hid hw8
      have CT := Lib.hid (Co.take_any a b _ xi xx w8 K8.out XO.out.1)
      clear hw8 hb8 hx
      go_upto_region 3 with (fail)
      rw [show World.alloc wr _ = w8 from HW8.out.symm]
      clear c0 c1 c2 c3 c4
      go_wp2_with fail
      refine CT.out.mono ?_
      rintro e w9 ⟨rfl, hs9, hk9⟩
      have K9 := Lib.hid hs9
      have T9 := Lib.hid (T8.out.trans (Tn.of_but2 hk9))
      rw [← ST.out] at K9
      clear hs9 hk9 y0 y1 CT
      go_wp2_with fail
      go_roundg (n - (k + 1))
      case measure => omega
      case rel => exact ⟨k + 1, by omega, by omega, by go_num, K9, T9⟩
    · have k2' : decide (k < n) = false := decide_eq_false hlt
      have k3' : decide ((k : Int) < (n : Int)) = false := decide_eq_false (by omega)
      obtain rfl : k = n := by omega
      have E := Lib.hid (show xs.take k = xs from by rw [← HNE.out, List.take_length])
      go_wp2_with fail
      go_end0
      rw [E.out] at HK
      exact ⟨rfl, HK.out, HT.out⟩

set_option maxHeartbeats 1000000 in
theorem putin_any (a b : Nat) (l xs : List Co.EnD) (A : Option Addr) (cp : Nat) (w : World) (lo hi : Nat) (hs : Co.SetIs w a b l) (hx : Co.Ents w lo hi (.slice A xs.length cp) xs) (hhi : hi ≤ w.heap.size)
    (hof : ∀ i ∈ [a, b], i < lo ∨ hi ≤ i) (hok : ∀ x ∈ xs, x.Ok) (hl : xs.length ≤ 1000000) (hp : ∀ (k : Nat) (x : Co.EnD), xs[k]? = some x → Co.putE (Co.putsL l (xs.take k)) x = 0) :
    Calls Tryz.prog 43 #[.pointer (some ⟨a, 0, none⟩), .slice A xs.length cp] w fun e w' => e = .returned (.int .i64 (xs.length : Int)) ∧ Co.SetIs w' a b (Co.putsL l xs) ∧ Tn [a, b] w w' := by
  have HX := Lib.hid (fun V (hV : Tn [a, b] w V) => hx.keep (fun i h1 h2 => (hV.kept hof hhi) i h1 h2))
  have HS := Lib.hid hs
  have OK := Lib.hid hok
  have HH := Lib.hid hhi
  have HP := Lib.hid hp
  obtain ⟨n, hne⟩ : ∃ n, xs.length = n := ⟨_, rfl⟩
  have HNE := Lib.hid hne
  rw [hne] at HX hl ⊢
  clear hs hx hok hne hhi hof hp
  go_enter Tryz.func43, Tryz.ntmps43
  go_wp2_with fail
  go_loopg [9] n (fun gg s9 wr => ∃ k : Nat, k ≤ n ∧ n - k ≤ gg ∧ s9 = .int .i64 (k : Int) ∧ Hid (Co.SetIs wr a b (Co.putsL l (xs.take k))) ∧ Hid (Tn [a, b] w wr))
  case atStart => exact ⟨0, Nat.zero_le _, by omega, rfl, by rw [List.take_zero]; exact HS, Lib.hid (Tn.refl _ _)⟩
  case round =>
    obtain ⟨k, hk, hgk, rfl, HK, HT⟩ := hrel
    by_cases hlt : k < n
    · have j1 : (k : Int) < (n : Int) := by omega
      have j2 : decide (k < n) = true := decide_eq_true hlt
      have j3 : ¬ (k : Int) < 0 := by omega
      obtain ⟨x, hx⟩ : ∃ x, xs[k]? = some x := ⟨_, List.getElem?_eq_getElem (by rw [HNE.out]; exact hlt)⟩
      obtain ⟨bi, oi, rfl, g1, g2, c0, c1, c2, c3, c4⟩ := (HX.out wr HT.out).at hx
      have XO := Lib.hid (OK.out x (List.mem_of_getElem? hx))
      have ST := Lib.hid (Co.puts_step (l := l) hx)
      have PZ := HP.out k x hx
      have hbw : bi < wr.heap.size := by have := HT.out.size; have := HH.out; omega
      obtain ⟨xi, xx, xv, xs', xt⟩ := x
      simp only at c0 c1 c2 c3 c4
      obtain ⟨w8, hw8⟩ : ∃ w8, w8 = wr.alloc (.cells #[.string xi, .int .u32 xx, .int .i64 xv, .string xs', .int .i64 xt] 66) := ⟨_, rfl⟩
      have hb8 : Below wr.heap.size wr w8 := by rw [hw8]; exact (Below.refl _ _).alloc (Nat.le_refl _) _
      have hh8 : w8.heap[wr.heap.size]? = some (.cells #[.string xi, .int .u32 xx, .int .i64 xv, .string xs', .int .i64 xt] 66 (0, 0)) := by rw [hw8]; exact heap_alloc_new _ _
      have y0 : w8.cell? ⟨wr.heap.size, 0, none⟩ = some (.string xi) := Co.cell_in hh8 rfl
      have y1 : w8.cell? ⟨wr.heap.size, 1, none⟩ = some (.int .u32 xx) := Co.cell_in hh8 rfl
      have y2 : w8.cell? ⟨wr.heap.size, 2, none⟩ = some (.int .i64 xv) := Co.cell_in hh8 rfl
      have y3 : w8.cell? ⟨wr.heap.size, 3, none⟩ = some (.string xs') := Co.cell_in hh8 rfl
      have y4 : w8.cell? ⟨wr.heap.size, 4, none⟩ = some (.int .i64 xt) := Co.cell_in hh8 rfl
      have K8 := Lib.hid (HK.out.below hb8 HK.out.lta HK.out.ltb)
      have T8 := Lib.hid (HT.out.next hb8)
      have HW8 := Lib.hid hw8
      have CT := Lib.hid (show Calls Tryz.prog 28 #[.pointer (some ⟨a, 0, none⟩), .agg #[.string xi, .int .u32 xx], .agg #[.int .i64 xv, .string xs', .int .i64 xt]] w8 _ from Co.put_any a b _ ⟨xi, xx, xv, xs', xt⟩ w8 K8.out XO.out)
      rw [PZ] at CT
      clear hw8 hb8 hx hh8 PZ
      go_upto_region 4 with (fail)
      rw [show World.alloc wr _ = w8 from HW8.out.symm]
      clear c0 c1 c2 c3 c4
      go_wp2_with fail
      refine CT.out.mono ?_
      rintro e w9 ⟨rfl, hs9, hk9⟩
      have K9 := Lib.hid hs9
      have T9 := Lib.hid (T8.out.trans (Tn.of_but2 hk9))
      rw [← ST.out] at K9
      clear hs9 hk9 y0 y1 y2 y3 y4 CT
      go_wp2_with fail
      go_roundg (n - (k + 1))
      case measure => omega
      case rel => exact ⟨k + 1, by omega, by omega, by go_num, K9, T9⟩
    · have k2' : decide (k < n) = false := decide_eq_false hlt
      have k3' : decide ((k : Int) < (n : Int)) = false := decide_eq_false (by omega)
      obtain rfl : k = n := by omega
      have E := Lib.hid (show xs.take k = xs from by rw [← HNE.out, List.take_length])
      go_wp2_with fail
      go_ret
      rw [E.out] at HK
      exact ⟨rfl, HK.out, HT.out⟩

end Go.Proofs.YtnmfjnfdnjjngaaGreatDoor

namespace Go.Proofs.YtnmfjnfdnjjngaaGreatDoor
open Go.RowKit
set_option maxRecDepth 100000

set_option maxHeartbeats 4000000 in
theorem revert_any (a b : Nat) (l0 l ss ms : List Co.EnD) (As Am : Option Addr) (cs cm : Nat) (w : World) (lo hi : Nat) (hs : Co.SetIs w a b l) (hxs : Co.Ents w lo hi (.slice As ss.length cs) ss) (hxm : Co.Ents w lo hi (.slice Am ms.length cm) ms) (hhi : hi ≤ w.heap.size)
    (hof : ∀ i ∈ [a, b], i < lo ∨ hi ≤ i) (hos : ∀ x ∈ ss, x.Ok) (hom : ∀ x ∈ ms, x.Ok) (hls : ss.length ≤ 1000000) (hlm : ms.length ≤ 1000000)
    (hh : (∀ x ∈ ms, Co.inB l x = true) → Co.Good l0 ∧ Co.Arg l0 ∧ ss = Co.lessL l0 l ∧ ms = Co.lessL l l0) :
    Calls Tryz.prog 23 #[.pointer (some ⟨a, 0, none⟩), .agg #[.slice As ss.length cs, .slice Am ms.length cm]] w
      fun e w' => ∃ c l', e = .returned (.int .i64 c) ∧ Co.SetIs w' a b l' ∧ Tn [a, b] w w' ∧ ((c = 17 ∧ l' = l ∧ ∃ x ∈ ms, Co.inB l x = false) ∨ (c = 0 ∧ l' = l0 ∧ ∀ x ∈ ms, Co.inB l x = true)) := by
  obtain ⟨w0, hw0⟩ : ∃ w0, w0 = w.alloc (.cells #[.slice As ss.length cs, .slice Am ms.length cm] 31) := ⟨_, rfl⟩
  have z0 : w0.heap.size = w.heap.size + 1 := by rw [hw0]; simp
  have hb0 : Below w.heap.size w w0 := by rw [hw0]; exact (Below.refl _ _).alloc (Nat.le_refl _) _
  have la := hs.lta
  have lb := hs.ltb
  have BX := Lib.hid (show ∀ V, Tn [a, b] w0 V → V.cell? ⟨w.heap.size, 0, none⟩ = some (.slice As ss.length cs) ∧ V.cell? ⟨w.heap.size, 1, none⟩ = some (.slice Am ms.length cm) from fun V hV => by
    have hn : w.heap.size ∉ [a, b] := by simp; omega
    exact ⟨(hV.cell (by omega) hn).trans (by rw [hw0]; simp), (hV.cell (by omega) hn).trans (by rw [hw0]; simp)⟩)
  have XS := Lib.hid (fun V (hV : Tn [a, b] w0 V) => (hxs.keep (Kept.of_below hb0 hhi)).keep (fun i h1 h2 => (hV.kept hof (by omega)) i h1 h2))
  have XM := Lib.hid (fun V (hV : Tn [a, b] w0 V) => (hxm.keep (Kept.of_below hb0 hhi)).keep (fun i h1 h2 => (hV.kept hof (by omega)) i h1 h2))
  have S0 := Lib.hid (hs.below hb0 la lb)
  have HH := Lib.hid hh
  have OS := Lib.hid hos
  have OM := Lib.hid hom
  have HO := Lib.hid hof
  have HI := Lib.hid hhi
  have HW0 := Lib.hid hw0
  have B0 := Lib.hid hb0
  have Z0 := Lib.hid z0
  have LS := Lib.hid hls
  have LM := Lib.hid hlm
  have CO := Lib.hid (fun V (hV : Tn [a, b] w0 V) (m : List Co.EnD) (hm : Co.SetIs V a b m) => takeout_any a b m ms Am cm V lo hi hm (XM.out V hV) (by have := hV.size; omega) HO.out OM.out LM.out)
  have CI := Lib.hid (fun V (hV : Tn [a, b] w0 V) (m : List Co.EnD) (hm : Co.SetIs V a b m) hp => putin_any a b m ss As cs V lo hi hm (XS.out V hV) (by have := hV.size; omega) HO.out OS.out LS.out hp)
  obtain ⟨n, hne⟩ : ∃ n, ms.length = n := ⟨_, rfl⟩
  obtain ⟨q, hqe⟩ : ∃ n, ss.length = n := ⟨_, rfl⟩
  have HNE := Lib.hid hne
  have hn6 : n ≤ 1000000 := by omega
  rw [hne, hqe] at BX HW0
  rw [hne] at XM CO ⊢
  rw [hqe] at XS CI ⊢
  clear hne hqe hs hxs hxm hw0 hb0 hhi hof hos hom hls hlm hh z0 la lb
  obtain ⟨b0, b1⟩ := BX.out w0 (Tn.refl _ _)
  go_enter Tryz.func23, Tryz.ntmps23
  go_upto_region 1 with (fail)
  rw [show World.alloc w _ = w0 from HW0.out.symm]
  go_wp2_with fail
  clear b0 b1
  go_loopg [15] n (fun gg s15 wr => ∃ k : Nat, k ≤ n ∧ n - k ≤ gg ∧ s15 = .int .i64 (k : Int) ∧ Hid (∀ (j : Nat) (x : Co.EnD), j < k → ms[j]? = some x → Co.inB l x = true) ∧ Hid (Below w0.heap.size w0 wr))
  case atStart => exact ⟨0, Nat.zero_le _, by omega, rfl, Lib.hid (fun _ _ h => absurd h (Nat.not_lt_zero _)), Lib.hid (Below.refl _ _)⟩
  case round =>
    obtain ⟨k, hk, hgk, rfl, HK, HB⟩ := hrel
    by_cases hlt : k < n
    · have j1 : (k : Int) < (n : Int) := by omega
      have j2 : decide (k < n) = true := decide_eq_true hlt
      have j3 : ¬ (k : Int) < 0 := by omega
      obtain ⟨x, hx⟩ : ∃ x, ms[k]? = some x := ⟨_, List.getElem?_eq_getElem (by rw [HNE.out]; exact hlt)⟩
      obtain ⟨bi, oi, rfl, g1, g2, c0, c1, c2, c3, c4⟩ := (XM.out wr (Tn.of_below HB.out)).at hx
      have XO := Lib.hid (OM.out x (List.mem_of_getElem? hx))
      have hbw : bi < wr.heap.size := by have := HB.out.size; have := Z0.out; have := HI.out; omega
      have INB := Lib.hid (show Co.inB l x = (Co.hasB l x.id x.ix && Co.coB (Co.atE l x.id x.ix).val (Co.atE l x.id x.ix).scr (Co.atE l x.id x.ix).ht x.val x.scr x.ht) from rfl)
      have HX := Lib.hid hx
      obtain ⟨xi, xx, xv, xs', xt⟩ := x
      simp only at c0 c1 c2 c3 c4 INB
      obtain ⟨w8, hw8⟩ : ∃ w8, w8 = wr.alloc (.cells #[.string xi, .int .u32 xx, .int .i64 xv, .string xs', .int .i64 xt] 66) := ⟨_, rfl⟩
      have hb8 : Below wr.heap.size wr w8 := by rw [hw8]; exact (Below.refl _ _).alloc (Nat.le_refl _) _
      have z8 : w8.heap.size = wr.heap.size + 1 := by rw [hw8]; simp
      have hh8 : w8.heap[wr.heap.size]? = some (.cells #[.string xi, .int .u32 xx, .int .i64 xv, .string xs', .int .i64 xt] 66 (0, 0)) := by rw [hw8]; exact heap_alloc_new _ _
      have y0 : w8.cell? ⟨wr.heap.size, 0, none⟩ = some (.string xi) := Co.cell_in hh8 rfl
      have y1 : w8.cell? ⟨wr.heap.size, 1, none⟩ = some (.int .u32 xx) := Co.cell_in hh8 rfl
      have B8 := Lib.hid (below_next HB.out HB.out.size hb8)
      have HW8 := Lib.hid hw8
      have H8 := Lib.hid hh8
      have S8 := Lib.hid ((S0.out.below HB.out S0.out.lta S0.out.ltb).below hb8 (by have := HB.out.size; have := S0.out.lta; omega) (by have := HB.out.size; have := S0.out.ltb; omega))
      have CG := Lib.hid (Co.get_any a b l xi xx w8 S8.out XO.out.1)
      generalize Co.atE l xi xx = y at CG INB
      obtain ⟨th, hth⟩ : ∃ th, Co.hasB l xi xx = th := ⟨_, rfl⟩
      rw [hth] at CG INB
      obtain ⟨yi, yx, yv, ys, yt⟩ := y
      simp only at CG INB
      clear hw8 hb8 hx hh8 hth
      go_upto_region 6 with (fail)
      rw [show World.alloc wr _ = w8 from HW8.out.symm]
      clear c0 c1 c2 c3 c4
      go_wp2_with fail
      refine CG.out.mono ?_
      rintro e w9 ⟨rfl, hb9⟩
      have hz9 := hb9.size
      have h9 := (hb9.block wr.heap.size (by omega)).trans H8.out
      obtain ⟨wa, hwa⟩ : ∃ wa, wa = w9.alloc (.cells #[.int .i64 yv, .string ys, .int .i64 yt] 64) := ⟨_, rfl⟩
      have hba : Below w9.heap.size w9 wa := by rw [hwa]; exact (Below.refl _ _).alloc (Nat.le_refl _) _
      have ha := (hba.block wr.heap.size (by omega)).trans h9
      have x2 : wa.cell? ⟨wr.heap.size, 2, none⟩ = some (.int .i64 xv) := Co.cell_in ha rfl
      have x3 : wa.cell? ⟨wr.heap.size, 3, none⟩ = some (.string xs') := Co.cell_in ha rfl
      have x4 : wa.cell? ⟨wr.heap.size, 4, none⟩ = some (.int .i64 xt) := Co.cell_in ha rfl
      have o0 : wa.cell? ⟨w9.heap.size, 0, none⟩ = some (.int .i64 yv) := by rw [hwa]; simp
      have o1 : wa.cell? ⟨w9.heap.size, 1, none⟩ = some (.string ys) := by rw [hwa]; simp
      have o2 : wa.cell? ⟨w9.heap.size, 2, none⟩ = some (.int .i64 yt) := by rw [hwa]; simp
      have BA := Lib.hid (below_next (below_next B8.out B8.out.size hb9) (by have := B8.out.size; omega) hba)
      have HWA := Lib.hid hwa
      clear hb9 h9 hwa hba ha y0 y1 CG
      go_upto_region 7 with (fail)
      rw [show World.alloc w9 _ = wa from HWA.out.symm]
      cases th with
      | false =>
        have I := Lib.hid (INB.out.trans (by rfl))
        go_wp2_with fail
        go_ret
        exact ⟨17, l, rfl, (S0.out.below BA.out S0.out.lta S0.out.ltb), (Tn.of_below B0.out).trans (Tn.of_below BA.out), .inl ⟨rfl, rfl, _, List.mem_of_getElem? HX.out, I.out⟩⟩
      | true =>
        have n1 := Co.run_neq_co
        have n2 := Co.co_guard
        cases hc : Co.coB yv ys yt xv xs' xt with
        | false =>
          have I := Lib.hid (INB.out.trans (by rw [hc]))
          go_wp2_with fail
          go_ret
          exact ⟨17, l, rfl, (S0.out.below BA.out S0.out.lta S0.out.ltb), (Tn.of_below B0.out).trans (Tn.of_below BA.out), .inl ⟨rfl, rfl, _, List.mem_of_getElem? HX.out, I.out⟩⟩
        | true =>
          have I := Lib.hid (INB.out.trans (by rw [hc]))
          go_wp2_with fail
          go_roundg (n - (k + 1))
          case measure => omega
          case rel =>
            refine ⟨k + 1, by omega, by omega, by go_num, Lib.hid (fun j x hj hx => ?_), BA⟩
            by_cases hjk : j = k
            · subst hjk
              rw [HX.out] at hx
              injection hx with hx
              rw [← hx]
              exact I.out
            · exact HK.out j x (by omega) hx
    · have k2' : decide (k < n) = false := decide_eq_false hlt
      have k3' : decide ((k : Int) < (n : Int)) = false := decide_eq_false (by omega)
      obtain rfl : k = n := by omega
      have AL := Lib.hid (show ∀ x ∈ ms, Co.inB l x = true from fun x hx => by
        obtain ⟨j, hj, e⟩ := List.mem_iff_getElem.1 hx
        exact HK.out j x (by rw [← HNE.out]; exact hj) (by rw [List.getElem?_eq_getElem hj, e]))
      obtain ⟨hg0, ha0, es, em⟩ := HH.out AL.out
      have S1 := Lib.hid (S0.out.below HB.out S0.out.lta S0.out.ltb)
      have T1 := Lib.hid (Tn.of_below (s := [a, b]) HB.out)
      have CO1 := Lib.hid (CO.out wr T1.out l S1.out)
      have SR := S1.out.good.srt
      have PP := Lib.hid (show ∀ (j : Nat) (x : Co.EnD), ss[j]? = some x → Co.putE (Co.putsL (Co.takesL l ms) (ss.take j)) x = 0 from fun j x hx => by
        rw [es] at hx ⊢
        rw [em]
        exact Co.revert_put hg0 SR ha0 hx)
      have RA := Lib.hid (show Co.putsL (Co.takesL l ms) ss = l0 from by rw [es, em]; exact Co.revert_all hg0 SR ha0)
      clear hg0 ha0 es em SR CO
      obtain ⟨b0, b1⟩ := BX.out wr T1.out
      go_wp2_with fail
      refine CO1.out.mono ?_
      rintro e w2 ⟨rfl, hs2, ht2⟩
      have T2 := Lib.hid (T1.out.trans ht2)
      have CI2 := Lib.hid (CI.out w2 T2.out _ hs2 PP.out)
      rw [RA.out] at CI2
      clear b0 b1 hs2 ht2 CO1 CI
      obtain ⟨b0, b1⟩ := BX.out w2 T2.out
      go_wp2_with fail
      refine CI2.out.mono ?_
      rintro e w3 ⟨rfl, hs3, ht3⟩
      have T3 := Lib.hid (T2.out.trans ht3)
      have S3 := Lib.hid hs3
      have j0 : decide ((q : Int) < (q : Int)) = false := decide_eq_false (by omega)
      clear b0 b1 hs3 ht3 CI2
      obtain ⟨b0, b1⟩ := BX.out w3 T3.out
      go_wp2_with fail
      go_ret
      exact ⟨0, l0, rfl, S3.out, (Tn.of_below B0.out).trans T3.out, .inr ⟨rfl, rfl, AL.out⟩⟩

end Go.Proofs.YtnmfjnfdnjjngaaGreatDoor
