/-
  Digests: the program's block.
-/
import Derived.Test.YtfobdefncbaooaaDoorHspr
import Derived.Test.YtfobdefncbaooaaDoorHpmath
namespace Go.Proofs.YtfobdefncbaooaaDoor.Sh
open Go.RowKit
attribute [-simp] Tryd.zeroValue119 Tryd.zeroValue86 Tryd.isAgg86 Tryd.sizeOf86 Tryd.isAgg119 Tryd.sizeOf119

/-- A package's table: the block g holds these words. -/
def Tab (w : World) (g : Nat) (l : List Int) : Prop := ∃ t fr, w.heap[g]? = some (.cells (cellsOf l) t fr)
theorem Tab.lt {w : World} {g : Nat} {l : List Int} (h : Tab w g l) : g < w.heap.size := by
  obtain ⟨t, fr, h⟩ := h
  rcases Nat.lt_or_ge g w.heap.size with hlt | hge
  · exact hlt
  · rw [Array.getElem?_eq_none hge] at h; cases h
theorem Tab.cell {w : World} {g : Nat} {l : List Int} (h : Tab w g l) (j : Nat) (hj : j < l.length) : w.cell? ⟨g, j, none⟩ = some (.int .u32 (l.getD j 0)) := by
  obtain ⟨t, fr, h⟩ := h
  exact (cell_of_row w g j _ t fr h).trans (cellsOf_get l j hj)
theorem Tab.below {w w' : World} {g B : Nat} {l : List Int} (h : Tab w g l) (hB : Below B w w') (hg : g < B) : Tab w' g l := by
  obtain ⟨t, fr, h⟩ := h
  exact ⟨t, fr, (hB.block g hg).trans h⟩

theorem turn_int (x m : Int) (w : World) (h0 : 0 < m) (hn : m < 32) :
    Calls Tryd.prog 104 #[.int .u32 x, .int .i64 m] w fun e w' => e = .returned (.int .u32 (rotr x m.toNat)) ∧ w = w' := by
  have h := turn_any x m.toNat w (by omega) (by omega)
  rw [Int.toNat_of_nonneg (by omega)] at h
  exact h

/-- Where the loop over the rounds stands. -/
def AblHead (w : World) (gs : Nat) (iv l : List Int) (va vb vc vd ve vf vg vh i : Value) (wr : World) : Prop :=
  ∃ k : Nat, k ≤ 64 ∧ i = .int .i64 k ∧ (∃ xa xb xc xd xe xf xg xh : Int, va = .int .u32 xa ∧ vb = .int .u32 xb ∧ vc = .int .u32 xc ∧ vd = .int .u32 xd ∧ ve = .int .u32 xe ∧ vf = .int .u32 xf ∧ vg = .int .u32 xg ∧ vh = .int .u32 xh ∧
    rnds (sch l 48) iv k = [xa, xb, xc, xd, xe, xf, xg, xh]) ∧ Arr wr gs 119 (sch l 48) ∧ Arr wr w.heap.size 86 iv ∧ Arr wr (w.heap.size + 1) 86 (List.replicate 8 0) ∧ Below w.heap.size w wr

set_option maxHeartbeats 1000000 in
set_option maxRecDepth 100000 in
theorem addBlock_any (iv : List Int) (s : ByteArray) (w : World) (hh : iv.length = 8) (hs : s.size = 64) (hT : Tab w 1 keys) :
    Calls Tryd.prog 99 #[.agg (cellsOf iv), .string s] w fun e w' => e = .returned (.agg (cellsOf (blk iv (nums s)))) ∧ Below w.heap.size w w' := by
  have hbl := blk_length iv (nums s) hh
  generalize hV : cellsOf (blk iv (nums s)) = V
  have hVs : V.size = 8 := by rw [← hV, cellsOf_size]; exact hbl
  have hVo : V.all (·.oneCell') = true := by rw [← hV]; exact cellsOf_one _
  have hz := zero_64
  have hz8 := zero_8
  obtain ⟨ia, ib, ic, id, ie, jf, ig, ih, eiv⟩ := eight hh
  generalize hH : cellsOf iv = H
  generalize hZ : cellsOf (List.replicate 64 0) = Z at hz
  generalize hY : cellsOf (List.replicate 8 0) = Y at hz8
  have HV := Lib.hid hV
  have HH := Lib.hid hH
  have HZ := Lib.hid hZ
  have HY := Lib.hid hY
  have hZs : Z.size = 64 := by rw [← hZ, cellsOf_size]; rfl
  have hYs : Y.size = 8 := by rw [← hY, cellsOf_size]; rfl
  have hHs : H.size = 8 := by rw [← hH, cellsOf_size]; exact hh
  have hHo : H.all (·.oneCell') = true := by rw [← hH]; exact cellsOf_one _
  have b1 := Arr.new w 86 iv
  have b2 := Arr.new (w.alloc (.cells (cellsOf iv) 86)) 86 (List.replicate 8 0)
  rw [World.size_alloc] at b2
  have b3 := b1.alloc (.cells (cellsOf (List.replicate 8 0)) 86)
  have b4 : Below w.heap.size w ((w.alloc (.cells (cellsOf iv) 86)).alloc (.cells (cellsOf (List.replicate 8 0)) 86)) := ((Below.refl w.heap.size w).alloc (Nat.le_refl _) _).alloc (by rw [World.size_alloc]; omega) _
  rw [hH, hY] at b2 b3 b4
  clear b1 hV hH hZ hY
  go_enter Tryd.func99, Tryd.ntmps99
  go_wp2_with fail
  generalize (w.alloc (.cells H 86)).alloc (.cells Y 86) = w2 at b2 b3 b4 ⊢
  have d0 := b3.cell 0 (by omega)
  have d1 := b3.cell 1 (by omega)
  have d2 := b3.cell 2 (by omega)
  have d3 := b3.cell 3 (by omega)
  simp only [eiv, List.getD_cons_zero, List.getD_cons_succ] at d0 d1 d2 d3
  have B := Lib.hid (And.intro b3 (And.intro b2 b4))
  have EIV := Lib.hid eiv
  clear b2 b3 b4 eiv
  go_quiet (fail)
  have B2 := Lib.hid (And.intro (B.out.1.drewN nq) (And.intro (B.out.2.1.drewN nq) (below_drewN B.out.2.2 nq)))
  clear d0 d1 d2 d3 B
  generalize w2.drewN nq = w3 at B2 ⊢
  have d4 := B2.out.1.cell 4 (by omega)
  have d5 := B2.out.1.cell 5 (by omega)
  have d6 := B2.out.1.cell 6 (by omega)
  have d7 := B2.out.1.cell 7 (by omega)
  simp only [EIV.out, List.getD_cons_zero, List.getD_cons_succ] at d4 d5 d6 d7
  go_wp2_with fail
  go_quiet (fail)
  have B3 := Lib.hid (And.intro (B2.out.1.drewN nq) (And.intro (B2.out.2.1.drewN nq) (below_drewN B2.out.2.2 nq)))
  clear d4 d5 d6 d7 B2
  generalize w3.drewN nq = w4 at B3 ⊢
  go_wp2_with fail
  refine (spread_any s w4 hs).mono ?_
  rintro e w5 ⟨rfl, hB5⟩
  have hSs : (cellsOf (sch (nums s) 48)).size = 64 := by rw [cellsOf_size, sch_length]
  have hSo := cellsOf_one (sch (nums s) 48)
  have a1 : AblHead w w5.heap.size iv (nums s) (.int .u32 ia) (.int .u32 ib) (.int .u32 ic) (.int .u32 id) (.int .u32 ie) (.int .u32 jf) (.int .u32 ig) (.int .u32 ih) (.int .i64 0) (w5.alloc (.cells (cellsOf (sch (nums s) 48)) 119)) :=
    ⟨0, by omega, rfl, ⟨ia, ib, ic, id, ie, jf, ig, ih, rfl, rfl, rfl, rfl, rfl, rfl, rfl, rfl, EIV.out⟩, Arr.new w5 119 _, (B3.out.1.below hB5 B3.out.1.lt).alloc _, (B3.out.2.1.below hB5 B3.out.2.1.lt).alloc _, (B3.out.2.2.trans (hB5.mono B3.out.2.2.size)).alloc (Nat.le_trans B3.out.2.2.size hB5.size) _⟩
  have hw5 : w.heap.size + 1 < w5.heap.size := Nat.lt_of_lt_of_le B3.out.2.1.lt hB5.size
  clear hB5 B3
  generalize cellsOf (sch (nums s) 48) = S at hSs hSo a1 ⊢
  have A1 := Lib.hid a1
  clear a1
  go_wp2_with (first
    | (refine wpList_store_row rfl 119 _ _ rfl w5.heap.size S rfl rfl 119 Z (heap_alloc_last w5 _) (by rw [hSs]; exact info37) (by rw [hSs, hZs]) hSo ?_; rw [World.setRow_alloc_new]))
  go_loopw [5, 6, 7, 8, 9, 10, 11, 12, 35] (fun va vb vc vd ve vf vg vh i wr => AblHead w w5.heap.size iv (nums s) va vb vc vd ve vf vg vh i wr) (fun _ _ _ _ _ _ _ _ i _ => 64 - (intOf i).toNat)
  case atStart => exact A1.out
  case round =>
    obtain ⟨k, hk, rfl, ⟨xa, xb, xc, xd, xe, xf, xg, xh, rfl, rfl, rfl, rfl, rfl, rfl, rfl, rfl, ex⟩, hW, hA, hR, hB⟩ := hrel
    by_cases hlt : k < 64
    · have hkb : decide ((k : Int) < 64) = true := by simp; omega
      have hstep := rnds_more (sch (nums s) 48) iv k
      rw [ex] at hstep
      simp only [step] at hstep
      have cw := hW.cell k (by rw [sch_length]; omega)
      have ck := (hT.below hB hT.lt).cell k (by show k < 64; omega)
      generalize (sch (nums s) 48).getD k 0 = vw at cw hstep
      generalize keys.getD k 0 = vk at ck hstep
      have yk : (k : Int) < 64 := by omega
      have HST := Lib.hid hstep
      have HR := Lib.hid (And.intro hW (And.intro hA (And.intro hR hB)))
      clear hW hA hR hB hstep ex
      go_wp2_with fail
      go_quiet ((go_at_call 104; exact Calls.quiet_of_same ((turn_int xe _ _ (by decide) (by decide)).mono fun _ _ h => ⟨h.1, h.2.symm⟩)))
      have HR2 := Lib.hid (And.intro (HR.out.1.drewN nq) (And.intro (HR.out.2.1.drewN nq) (And.intro (HR.out.2.2.1.drewN nq) (below_drewN HR.out.2.2.2 nq))))
      clear HR cw ck
      generalize wr.drewN nq = wd at HR2 ⊢
      go_wp2_with fail
      refine (turn_any xa 2 _ (by decide) (by decide)).mono ?_
      rintro e w' ⟨rfl, rfl⟩
      go_wp2_with fail
      refine (turn_any xa 13 _ (by decide) (by decide)).mono ?_
      rintro e w' ⟨rfl, rfl⟩
      go_wp2_with fail
      refine (turn_any xa 22 _ (by decide) (by decide)).mono ?_
      rintro e w' ⟨rfl, rfl⟩
      generalize rotr xa 2 = r4 at HST ⊢
      generalize rotr xa 13 = r5 at HST ⊢
      generalize rotr xa 22 = r6 at HST ⊢
      go_wp2_with fail
      go_roundw
      case rel =>
        refine ⟨k + 1, by omega, by go_num, ⟨_, _, _, _, _, _, _, _, rfl, rfl, rfl, rfl, rfl, rfl, rfl, rfl, ?_⟩, HR2.out⟩
        exact HST.out.trans step_is
      case measure => simp [intOf]; omega
    · have hk64 : k = 64 := by omega
      rw [hk64] at ex
      have hkb3 : decide ((k : Int) < 64) = false := by simp; omega
      have d0 := hA.cell 0 (by omega)
      have d1 := hA.cell 1 (by omega)
      have d2 := hA.cell 2 (by omega)
      have d3 := hA.cell 3 (by omega)
      have d4 := hA.cell 4 (by omega)
      have d5 := hA.cell 5 (by omega)
      have d6 := hA.cell 6 (by omega)
      have d7 := hA.cell 7 (by omega)
      simp only [EIV.out, List.getD_cons_zero, List.getD_cons_succ] at d0 d1 d2 d3 d4 d5 d6 d7
      have hres : cellsOf [(ia + xa) % 4294967296, (ib + xb) % 4294967296, (ic + xc) % 4294967296, (id + xd) % 4294967296, (ie + xe) % 4294967296, (jf + xf) % 4294967296, (ig + xg) % 4294967296, (ih + xh) % 4294967296] = V := by
        rw [← HV.out]
        unfold blk
        rw [ex, EIV.out]
        simp only [List.zipWith_cons_cons, List.zipWith_nil_left, ad, Int.add_comm]
      have HRES := Lib.hid hres
      unfold Arr at hR
      have HR := Lib.hid hR
      have HB := Lib.hid hB
      clear hW hA hR hB hk64 hlt hk hres ex
      go_wp2_with (first
        | (refine wpList_build_as rfl 86 _ rfl V (Eq.trans (by kernel_rfl : _ = some (cellsOf [(ia + xa) % 4294967296, (ib + xb) % 4294967296, (ic + xc) % 4294967296, (id + xd) % 4294967296, (ie + xe) % 4294967296, (jf + xf) % 4294967296, (ig + xg) % 4294967296, (ih + xh) % 4294967296])) (by rw [HRES.out])) ?_)
        | (refine wpList_store_row rfl 86 _ _ rfl (w.heap.size + 1) V rfl rfl 86 _ HR.out (by rw [hVs]; exact info29) (by rw [hVs, cellsOf_size]; rfl) hVo ?_))
      refine bodyPost_ret (v := .agg V) ?_ rfl ⟨rfl, below_setRow HB.out (by omega) _⟩
      exact results_cell_row rfl _ _ (w.heap.size + 1) 86 V (0, 0) (.array 8 22) rfl (setRow_heap _ _ _ _ _ _ HR.out) Tryd.underlying86 rfl (by rw [hVs]; exact info29)
end Go.Proofs.YtfobdefncbaooaaDoor.Sh
