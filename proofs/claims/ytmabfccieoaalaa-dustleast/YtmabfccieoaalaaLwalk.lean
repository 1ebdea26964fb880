/-
  The statement DustLeast, walked.
-/
import Derived.Test.YtmabfccieoaalaaDwalk
namespace Go.Proofs.Ytmabfccieoaalaa
open Go.RowKit

theorem run_max0 (x : Int) (w : World) : (Builtin.max_ #[3, 3] 3 #[.int .i64 0, .int .i64 x]).run Try.prog w = .ok (.int .i64 (if x < 0 then 0 else x)) w := by
  rw [run_max_int2 w #[3, 3] 3 .i64 .i64 0 x]
  by_cases h : x < 0
  · rw [if_pos h]; simp; omega
  · rw [if_neg h]; simp; omega

set_option maxHeartbeats 4000000 in
set_option maxRecDepth 100000 in
theorem least_law (t : TxD) (vi vo : Value) (v : Int) (w : World) (ht : TxAt w 0 w.heap.size vi vo t) (hc : t.Came) :
    Calls Try.prog 3 #[.agg #[.int .u32 t.ver, vi, vo, .int .u32 t.lock], .int .i64 v] w fun e w' => e = .returned (.bool true) ∧ Below w.heap.size w w' := by
  obtain ⟨w0, hw0⟩ : ∃ w0, w0 = w.alloc (.cells #[.int .u32 t.ver, vi, vo, .int .u32 t.lock] 26) := ⟨_, rfl⟩
  have z0 : w0.heap.size = w.heap.size + 1 := by rw [hw0]; simp
  have hb0 : Below w.heap.size w w0 := by rw [hw0]; exact (Below.refl _ _).alloc (Nat.le_refl _) _
  have BX := Lib.hid (show Boxed w0 w.heap.size (.int .u32 t.ver) vi vo (.int .u32 t.lock) from by rw [hw0]; exact Boxed.new _ _ _ _ _ _)
  have CC := Lib.hid (cut_any t 12 vi vo w0 w.heap.size (ht.keep (Kept.of_below hb0 (Nat.le_refl _))) (by omega) (by omega) (came_ins hc) (came_outs hc) (came_wit hc))
  have uok := cut_ok hc (m := 12) (by omega)
  have uv : (cutTx 12 t).ver = t.ver := rfl
  have ul : (cutTx 12 t).lock = t.lock := rfl
  obtain ⟨u, hu⟩ : ∃ u, cutTx 12 t = u := ⟨_, rfl⟩
  rw [hu] at CC uok uv ul
  have B0 := Lib.hid hb0
  have HW0 := Lib.hid hw0
  have UOK := Lib.hid uok
  have hn := uok.2.1
  clear ht hb0 hw0 hu uok hc
  obtain ⟨b0, b1, b2, b3⟩ := BX.out
  go_enter Try.func3, Try.ntmps3
  go_upto_region 1 with (fail)
  rw [show World.alloc w _ = w0 from HW0.out.symm]
  go_wp2_with fail
  refine CC.out.mono ?_
  rintro e w1 ⟨vi', vo', rfl, htx, hb1⟩
  have z1 := hb1.size
  obtain ⟨Ai, ci, rfl⟩ := htx.1.form
  obtain ⟨Ao, co, rfl⟩ := htx.2.form
  obtain ⟨w2, hw2⟩ : ∃ w2, w2 = w1.alloc (.cells #[.int .u32 t.ver, .slice Ai u.ins.length ci, .slice Ao u.outs.length co, .int .u32 t.lock] 26) := ⟨_, rfl⟩
  have z2 : w2.heap.size = w1.heap.size + 1 := by rw [hw2]; simp
  have hb2 : Below w1.heap.size w1 w2 := by rw [hw2]; exact (Below.refl _ _).alloc (Nat.le_refl _) _
  have BU := Lib.hid (show Boxed w2 w1.heap.size (.int .u32 t.ver) (.slice Ai u.ins.length ci) (.slice Ao u.outs.length co) (.int .u32 t.lock) from by rw [hw2]; exact Boxed.new _ _ _ _ _ _)
  have TU := Lib.hid (show TxAt w2 0 w2.heap.size (.slice Ai u.ins.length ci) (.slice Ao u.outs.length co) u from (htx.keep (Kept.of_below hb2 (Nat.le_refl _))).wide (Nat.zero_le _) (by omega))
  have B2 := Lib.hid (B0.out.trans ((below_next hb1 (by omega) hb2).mono (by omega)))
  have HW2 := Lib.hid hw2
  have CF := Lib.hid (fun W (hW : Below w2.heap.size w2 W) => first_any u _ _ W ((TU.out.keep (Kept.of_below hW (Nat.le_refl _))).wide (Nat.le_refl _) hW.size) UOK.out)
  have CG := Lib.hid (fun W (hW : Below w2.heap.size w2 W) => rfirst_any u _ _ W ((TU.out.keep (Kept.of_below hW (Nat.le_refl _))).wide (Nat.le_refl _) hW.size) UOK.out)
  rw [uv, ul] at CF CG
  have HS := Lib.hid (fs_split u.outs)
  generalize fsP u.outs = P at CF HS
  generalize fsB u.outs = Q at CF HS
  generalize fsI u.outs = I at HS CG
  have OK := Lib.hid UOK.out.2.2.2.1
  obtain ⟨xs, hxs⟩ : ∃ xs, u.outs = xs := ⟨_, rfl⟩
  have TO := Lib.hid TU.out.2
  rw [hxs] at hn BU TO OK HS HW2 CF CG
  clear hb1 hw2 hb2 htx b0 b1 b2 b3 BX CC
  obtain ⟨n, hne⟩ : ∃ n, xs.length = n := ⟨_, rfl⟩
  rw [hne] at hn BU HW2 HS CF CG
  have HN := Lib.hid hne
  rw [hxs, hne]
  clear hxs hne
  go_upto_region 2 with (fail)
  rw [show World.alloc w1 _ = w2 from HW2.out.symm]
  obtain ⟨c0, c1, c2, c3⟩ := BU.out
  have hlt : w1.heap.size < w2.heap.size := by omega
  go_wp2_with fail
  go_loopg [24] n (fun gg s wr => ∃ k : Nat, k ≤ n ∧ n - k ≤ gg ∧ s = .int .i64 k ∧ Hid (Below w2.heap.size w2 wr))
  case atStart => exact ⟨0, Nat.zero_le _, by omega, rfl, Lib.hid (Below.refl _ _)⟩
  case round =>
    clear c0 c1 c2 c3
    obtain ⟨k, hk, hg, rfl, HB⟩ := hrel
    by_cases hkn : k < n
    · have l1 : (k : Int) < (n : Int) := by omega
      have l2 : decide (k < n) = true := decide_eq_true hkn
      obtain ⟨x, hx⟩ : ∃ x, xs[k]? = some x := ⟨_, List.getElem?_eq_getElem (by have := HN.out; omega)⟩
      obtain ⟨b, off, rfl, _, hbw, d0, d1⟩ := (TO.out.keep (Kept.of_below HB.out (Nat.le_refl _))).at hx
      have zr := HB.out.size
      have hbr : b < wr.heap.size := by omega
      have xok := (OK.out x (List.mem_of_getElem? hx)).2.2
      have hsz : x.scr.size ≤ maxLen := by unfold maxLen; omega
      have C7 := Lib.hid (fun W => size_any x.val x.scr W hsz)
      have C8 := Lib.hid (fun W => rsize_any x.val x.scr W hsz)
      have C9 := Lib.hid (fun W => least_any x.val x.scr W hsz)
      have C10 := Lib.hid (fun W => rleast_any x.val x.scr W hsz)
      have C11 := Lib.hid (fun W => dust_any v x.scr W hsz)
      have HE := Lib.hid (du_err (v := v) (s := x.scr))
      have HO := Lib.hid (du_ok (v := v) (s := x.scr))
      have h2 := sz_two x.scr
      generalize duB v x.scr = d at C11 HE HO
      generalize lsN x.scr = l at C9 C10 HO
      generalize szN x.scr = m at C7 C8
      generalize szE x.scr = se at C7 C8 C9 C10 HE HO h2
      clear hx xok hsz
      obtain ⟨w3, hw3⟩ : ∃ w3, w3 = wr.alloc (.cells #[.int .i64 x.val, .string x.scr] 29) := ⟨_, rfl⟩
      have hb3 : Below wr.heap.size wr w3 := by rw [hw3]; exact (Below.refl _ _).alloc (Nat.le_refl _) _
      have z3 : w3.heap.size = wr.heap.size + 1 := by rw [hw3]; simp
      have a0 : w3.cell? ⟨wr.heap.size, 0, none⟩ = some (.int .i64 x.val) := by rw [hw3]; simp
      have a1 : w3.cell? ⟨wr.heap.size, 1, none⟩ = some (.string x.scr) := by rw [hw3]; simp
      have f0 : w3.frozen? ⟨wr.heap.size, 0, none⟩ = false := by rw [hw3]; simp
      have L3 := Lib.hid (below_next HB.out zr hb3)
      have HW3 := Lib.hid hw3
      have A0 := Lib.hid a0
      have A1 := Lib.hid a1
      have F0 := Lib.hid f0
      have CE := Lib.hid (fun W (hW : Below w3.heap.size w3 W) => show W.cell? ⟨wr.heap.size, 0, none⟩ = some (.int .i64 x.val) ∧ W.cell? ⟨wr.heap.size, 1, none⟩ = some (.string x.scr) ∧ W.frozen? ⟨wr.heap.size, 0, none⟩ = false from
        ⟨(hW.cell (p := ⟨wr.heap.size, 0, none⟩) (by show wr.heap.size < w3.heap.size; omega)).trans A0.out, (hW.cell (p := ⟨wr.heap.size, 1, none⟩) (by show wr.heap.size < w3.heap.size; omega)).trans A1.out, (World.frozen?_of_block (w := w3) (a := ⟨wr.heap.size, 0, none⟩) (hW.block _ (by show wr.heap.size < w3.heap.size; omega))).trans F0.out⟩)
      clear hw3 hb3 f0
      go_upto_region 5 with (fail)
      rw [show World.alloc wr _ = w3 from HW3.out.symm]
      go_wp2_with fail
      refine (C7.out _).mono ?_
      rintro e w4 ⟨rfl, hb4⟩
      have B4 := Lib.hid hb4
      clear hb4 a0 a1
      obtain ⟨a0, a1, _⟩ := CE.out w4 B4.out
      go_wp2_with fail
      refine (C8.out _).mono ?_
      rintro e w5 ⟨rfl, hb5⟩
      have B5 := Lib.hid (below_next B4.out B4.out.size hb5)
      clear hb5 a0 a1
      obtain ⟨a0, a1, _⟩ := CE.out w5 B5.out
      go_wp2_with fail
      refine (C9.out _).mono ?_
      rintro e w6 ⟨rfl, hb6⟩
      have B6 := Lib.hid (below_next B5.out B5.out.size hb6)
      clear hb6 a0 a1
      obtain ⟨a0, a1, _⟩ := CE.out w6 B6.out
      go_wp2_with fail
      refine (C10.out _).mono ?_
      rintro e w7 ⟨rfl, hb7⟩
      have B7 := Lib.hid (below_next B6.out B6.out.size hb7)
      clear hb7 a0 a1
      obtain ⟨a0, a1, f0⟩ := CE.out w7 B7.out
      have z7 := B7.out.size
      have B8 := Lib.hid (below_next HB.out zr ((show Below wr.heap.size wr (w7.setCell ⟨wr.heap.size, 0, none⟩ (.int .i64 v)) from by
        have h := (by rw [HW3.out]; exact (Below.refl _ _).alloc (Nat.le_refl _) _ : Below wr.heap.size wr w3)
        exact (h.trans (B7.out.mono (by omega))).setCell (p := ⟨wr.heap.size, 0, none⟩) (Nat.le_refl _) _)))
      have hlt7 : wr.heap.size < w7.heap.size := by omega
      go_upto_region 10 with (fail)
      rcases h2 with rfl | rfl
      · have hd := HO.out rfl
        clear HE HO
        go_wp2_with fail
        refine (C11.out _).mono ?_
        rintro e w9 ⟨rfl, hb9⟩
        have B9 := Lib.hid (below_next B8.out (by have := B8.out.size; omega) hb9)
        clear hb9
        go_wp2_with fail
        go_roundg (n - (k + 1))
        case measure => omega
        case rel => exact ⟨k + 1, by omega, by omega, by go_num, B9⟩
      · have hd := HE.out rfl
        clear HE HO
        go_wp2_with fail
        refine (C11.out _).mono ?_
        rintro e w9 ⟨rfl, hb9⟩
        have B9 := Lib.hid (below_next B8.out (by have := B8.out.size; omega) hb9)
        clear hb9
        go_wp2_with fail
        go_roundg (n - (k + 1))
        case measure => omega
        case rel => exact ⟨k + 1, by omega, by omega, by go_num, B9⟩
    · obtain rfl : k = n := by omega
      have l1 : ¬ (k : Int) < (k : Int) := by omega
      obtain ⟨c0, c1, c2, c3⟩ := BU.out.below hlt HB.out
      go_wp2_with fail
      refine (CF.out _ HB.out).mono ?_
      rintro e w4 ⟨rfl, hb4⟩
      have B4 := Lib.hid (below_next HB.out HB.out.size hb4)
      clear hb4 c0 c1 c2 c3
      obtain ⟨c0, c1, c2, c3⟩ := BU.out.below hlt B4.out
      go_wp2_with fail
      refine (CG.out _ B4.out).mono ?_
      rintro e w5 ⟨rfl, hb5⟩
      have B5 := Lib.hid (below_next B4.out B4.out.size hb5)
      clear hb5 c0 c1 c2 c3
      have M := run_max0 I
      have B6 := Lib.hid (fun w6 (hb : Below w5.heap.size w5 w6) => B2.out.trans ((below_next B5.out B5.out.size hb).mono (by have := B2.out.size; omega)))
      rcases HS.out with ⟨_, rfl, rfl, rfl⟩ | ⟨k0, x0, _, _, _, _, rfl, rfl, rfl⟩
      · go_wp2_with fail
        refine (wakes_any _).mono ?_
        rintro e w6 ⟨rfl, hb6⟩
        go_wp2_with fail
        go_ret
        exact ⟨rfl, B6.out _ hb6⟩
      · have M1 : (if (k0 : Int) < 0 then (0 : Int) else (k0 : Int)) = k0 := by rw [if_neg (by omega)]
        rw [M1] at M
        have M2 : (0 : Int) ≤ (k0 : Int) := by omega
        go_wp2_with fail
        refine (wakes_any _).mono ?_
        rintro e w6 ⟨rfl, hb6⟩
        go_wp2_with fail
        go_ret
        exact ⟨rfl, B6.out _ hb6⟩

end Go.Proofs.Ytmabfccieoaalaa
