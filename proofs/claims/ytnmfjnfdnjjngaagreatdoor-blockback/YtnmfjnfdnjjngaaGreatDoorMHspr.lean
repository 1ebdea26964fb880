/-
  Digests: the program's schedule.
  Digests: the program's block.
-/
import Derived.Test.YtnmfjnfdnjjngaaGreatDoorMHpmath
import Derived.Test.YtnmfjnfdnjjngaaGreatDoorMHarr

namespace Go.Proofs.YtnmfjnfdnjjngaaGreatDoor.Sh
open Go.RowKit
set_option maxRecDepth 100000
attribute [-simp] Tryz.zeroValue232 Tryz.zeroValue217 Tryz.isAgg217 Tryz.sizeOf217 Tryz.isAgg232 Tryz.sizeOf232

/-- Where the loop over the block's words stands. -/
def Spr1 (w : World) (l : List Int) (i : Value) (wr : World) : Prop :=
  ∃ k : Nat, k ≤ 16 ∧ i = .int .i64 k ∧ Arr wr (w.heap.size + 1) 232 (fill (words l k) 64) ∧ Arr wr w.heap.size 232 (List.replicate 64 0) ∧ Below w.heap.size w wr
/-- Where the loop over the further words stands. -/
def Spr2 (w : World) (l : List Int) (i : Value) (wr : World) : Prop :=
  ∃ k : Nat, k ≤ 48 ∧ i = .int .i64 (16 + k : Nat) ∧ Arr wr (w.heap.size + 1) 232 (fill (sch l k) 64) ∧ Arr wr w.heap.size 232 (List.replicate 64 0) ∧ Below w.heap.size w wr
set_option maxRecDepth 100000 in
theorem spr1_start (w : World) (l : List Int) :
    Spr1 w l (.int .i64 0) ((w.alloc (.cells (cellsOf (List.replicate 64 0)) 232)).alloc (.cells (cellsOf (List.replicate 64 0)) 232)) := by
  have b1 := Arr.new w 232 (List.replicate 64 0)
  have b2 := Arr.new (w.alloc (.cells (cellsOf (List.replicate 64 0)) 232)) 232 (List.replicate 64 0)
  rw [World.size_alloc] at b2
  exact ⟨0, by omega, rfl, b2, b1.alloc _, ((Below.refl w.heap.size w).alloc (Nat.le_refl _) _).alloc (by rw [World.size_alloc]; omega) _⟩
set_option maxRecDepth 100000 in
theorem fill_step2 {wr : World} {g k : Nat} {l : List Int} {v : Int} (h : Arr wr g 232 (fill (words l k) 64)) (hk : k < 16) (hv : v = word l k) :
    Arr (wr.setCell ⟨g, k, none⟩ (.int .u32 v)) g 232 (fill (words l (k + 1)) 64) := fill_step (wr := wr) h hk hv

set_option maxHeartbeats 1000000 in
set_option maxRecDepth 100000 in
theorem spread_any (s : ByteArray) (w : World) (hs : s.size = 64) :
    Calls Tryz.prog 170 #[.string s] w fun e w' => e = .returned (.agg (cellsOf (sch (nums s) 48))) ∧ Below w.heap.size w w' := by
  have hSs : (cellsOf (sch (nums s) 48)).size = 64 := by rw [cellsOf_size, sch_length]
  have hSo := cellsOf_one (sch (nums s) 48)
  generalize hS : cellsOf (sch (nums s) 48) = S at hSs hSo
  have HS := Lib.hid hS
  clear hS
  have hz := zero_64
  generalize hZ : cellsOf (List.replicate 64 0) = Z at hz
  have hZs : Z.size = 64 := by rw [← hZ, cellsOf_size]; rfl
  have HZ := Lib.hid hZ
  clear hZ
  go_enter Tryz.func170, Tryz.ntmps170
  go_wp2_with fail
  have a1 := spr1_start w (nums s)
  rw [HZ.out] at a1
  have A1 := Lib.hid a1
  clear a1
  go_loopw [10] (fun i wr => Spr1 w (nums s) i wr) (fun i _ => 16 - (intOf i).toNat)
  case atStart => exact A1.out
  case round =>
    obtain ⟨k, hk, rfl, hW, hR, hB⟩ := hrel
    by_cases hlt : k < 16
    · have hkb : decide ((k : Int) < 16) = true := by simp; omega
      obtain ⟨q, hq⟩ : ∃ q : Nat, 4 * k = q := ⟨_, rfl⟩
      have x0 : IntKind.i64.wrap ((k : Int) * 4) = (q : Int) := by rw [IntWalk.i64_in _ (by omega)]; omega
      have x1 : (k : Int) * 4 = (q : Int) := by omega
      have yk : (k : Int) < 64 := by omega
      have hf : ∀ n, (wr.drewN n).frozen? ⟨w.heap.size + 1, k, none⟩ = false := fun n => (hW.drewN n).frozen k
      have hcl : ∀ n, (wr.drewN n).cell? ⟨w.heap.size + 1, k, none⟩ = _ := fun n => (hW.drewN n).cell k (by rw [fill_length _ _ (by rw [words_length]; omega)]; omega)
      have HR := Lib.hid (And.intro hW (And.intro hR hB))
      clear hW hR hB
      go_wp2_with fail
      refine (at_any s k q wr hq (by omega) (by omega)).mono ?_
      rintro e w2 ⟨rfl, n, rfl⟩
      have hf := hf n
      have hcl := hcl n
      go_wp2_with fail
      go_roundw
      case rel => exact ⟨k + 1, by omega, by go_num, fill_step2 (HR.out.1.drewN n) hlt rfl, (HR.out.2.1.drewN n).other (by omega) _ _, (below_drewN HR.out.2.2 n).setCell (by show w.heap.size ≤ w.heap.size + 1; omega) _⟩
      case measure => simp [intOf]; omega
    · have hk16 : k = 16 := by omega
      rw [hk16] at hW
      obtain ⟨k1, rfl⟩ : ∃ k1, k1 = k := ⟨_, rfl⟩
      obtain ⟨w2, rfl⟩ : ∃ w2, w2 = wr := ⟨_, rfl⟩
      have A2 := Lib.hid (show Spr2 w (nums s) (.int .i64 16) w2 from ⟨0, by omega, rfl, hW, hR, hB⟩)
      clear hW hR hB
      have hkb : decide ((k1 : Int) < 16) = false := by simp; omega
      clear hk16 hlt hk
      go_wp2_with fail
      go_loopw [5] (fun i wr => Spr2 w (nums s) i wr) (fun i _ => 64 - (intOf i).toNat)
      case atStart => exact A2.out
      case round =>
        obtain ⟨k, hk, rfl, hW, hR, hB⟩ := hrel
        by_cases hlt : k < 48
        · obtain ⟨n, hn⟩ : ∃ n : Nat, 16 + k = n := ⟨_, rfl⟩
          rw [hn]
          have hlen := sch_length (nums s) k
          have hsz : (fill (sch (nums s) k) 64).length = 64 := fill_length _ _ (by omega)
          have f16 := fill_get (sch (nums s) k) 64 k (by omega)
          have f15 := fill_get (sch (nums s) k) 64 (k + 1) (by omega)
          have f7 := fill_get (sch (nums s) k) 64 (k + 9) (by omega)
          have f2 := fill_get (sch (nums s) k) 64 (k + 14) (by omega)
          have c16 := hW.cell k (by omega)
          have c15 := hW.cell (k + 1) (by omega)
          have c7 := hW.cell (k + 9) (by omega)
          have c2 := hW.cell (k + 14) (by omega)
          rw [f16] at c16
          rw [f15] at c15
          rw [f7] at c7
          rw [f2] at c2
          have hnx := next_at (sch (nums s) k) k hlen
          generalize (sch (nums s) k).getD k 0 = v16 at c16 hnx
          generalize (sch (nums s) k).getD (k + 1) 0 = v15 at c15 hnx
          generalize (sch (nums s) k).getD (k + 9) 0 = v7 at c7 hnx
          generalize (sch (nums s) k).getD (k + 14) 0 = v2 at c2 hnx
          clear f16 f15 f7 f2
          obtain ⟨j15, hj15⟩ : ∃ j : Nat, k + 1 = j := ⟨_, rfl⟩
          obtain ⟨j7, hj7⟩ : ∃ j : Nat, k + 9 = j := ⟨_, rfl⟩
          obtain ⟨j2, hj2⟩ : ∃ j : Nat, k + 14 = j := ⟨_, rfl⟩
          rw [hj15] at c15
          rw [hj7] at c7
          rw [hj2] at c2
          have hkb2 : decide ((n : Int) < 64) = true := by simp; omega
          have x16 : IntKind.i64.wrap ((n : Int) - 16) = (k : Int) := by rw [IntWalk.i64_in _ (by omega)]; omega
          have x15 : IntKind.i64.wrap ((n : Int) - 15) = (j15 : Int) := by rw [IntWalk.i64_in _ (by omega)]; omega
          have x7 : IntKind.i64.wrap ((n : Int) - 7) = (j7 : Int) := by rw [IntWalk.i64_in _ (by omega)]; omega
          have x2 : IntKind.i64.wrap ((n : Int) - 2) = (j2 : Int) := by rw [IntWalk.i64_in _ (by omega)]; omega
          have z16 : (n : Int) - 16 = (k : Int) := by omega
          have z15 : (n : Int) - 15 = (j15 : Int) := by omega
          have z7 : (n : Int) - 7 = (j7 : Int) := by omega
          have z2 : (n : Int) - 2 = (j2 : Int) := by omega
          have t16 : IntKind.i64.wrap (k : Int) = (k : Int) := IntWalk.i64_in _ (by omega)
          have t15 : IntKind.i64.wrap (j15 : Int) = (j15 : Int) := IntWalk.i64_in _ (by omega)
          have t7 : IntKind.i64.wrap (j7 : Int) = (j7 : Int) := IntWalk.i64_in _ (by omega)
          have t2 : IntKind.i64.wrap (j2 : Int) = (j2 : Int) := IntWalk.i64_in _ (by omega)
          have yn : (n : Int) < 64 := by omega
          have y16 : (k : Int) < 64 := by omega
          have y15 : (j15 : Int) < 64 := by omega
          have y7 : (j7 : Int) < 64 := by omega
          have y2 : (j2 : Int) < 64 := by omega
          have hf := hW.frozen n
          have hcl := hW.cell n (by omega)
          have HNX := Lib.hid hnx
          have HN := Lib.hid hn
          have HR := Lib.hid (And.intro hW (And.intro hR hB))
          have n63 : n < 64 := by omega
          clear hW hR hB hnx hn hlen hsz hj15 hj7 hj2
          go_wp2_with fail
          go_quiet (fail)
          have k16 : (wr.drewN nq).cell? ⟨w.heap.size + 1, k, none⟩ = some (.int .u32 v16) := c16
          have k7 : (wr.drewN nq).cell? ⟨w.heap.size + 1, j7, none⟩ = some (.int .u32 v7) := c7
          have kf : (wr.drewN nq).frozen? ⟨w.heap.size + 1, n, none⟩ = false := hf
          have kcl : (wr.drewN nq).cell? ⟨w.heap.size + 1, n, none⟩ = _ := hcl
          have HR2 := Lib.hid (And.intro (HR.out.1.drewN nq) (And.intro (HR.out.2.1.drewN nq) (below_drewN HR.out.2.2 nq)))
          clear c16 c15 c7 c2 hf hcl HR
          generalize wr.drewN nq = wd at k16 k7 kf kcl HR2 ⊢
          go_wp2_with fail
          refine (turn_any v15 7 _ (by decide) (by decide)).mono ?_
          rintro e w' ⟨rfl, rfl⟩
          go_wp2_with fail
          refine (turn_any v15 18 _ (by decide) (by decide)).mono ?_
          rintro e w' ⟨rfl, rfl⟩
          go_wp2_with fail
          refine (turn_any v2 17 _ (by decide) (by decide)).mono ?_
          rintro e w' ⟨rfl, rfl⟩
          go_wp2_with fail
          refine (turn_any v2 19 _ (by decide) (by decide)).mono ?_
          rintro e w' ⟨rfl, rfl⟩
          generalize rotr v15 7 = r1 at HNX ⊢
          generalize rotr v15 18 = r2 at HNX ⊢
          generalize rotr v2 17 = r3 at HNX ⊢
          generalize rotr v2 19 = r4 at HNX ⊢
          go_wp2_with fail
          go_still_tail 15, (by kernel_rfl)
          change wpList _ _ _ _ _ wd.drew
          go_wp2_with fail
          go_roundw
          case rel =>
            have hn := HN.out
            refine ⟨k + 1, by omega, ?_, sch_step HR2.out.1 hlt HN.out ?_, HR2.out.2.1.other (by omega) _ _, HR2.out.2.2.drew.setCell (by show w.heap.size ≤ w.heap.size + 1; omega) _⟩
            · rw [show 16 + (k + 1) = n + 1 by omega]; go_num
            · rw [← HNX.out]; unfold ad xr; omega
          case measure => simp [intOf]; omega
        · have hk48 : k = 48 := by omega
          rw [hk48] at hW
          obtain ⟨n1, hn1⟩ : ∃ n1 : Nat, 16 + k = n1 := ⟨_, rfl⟩
          rw [hn1]
          have hkb2 : decide ((n1 : Int) < 64) = false := by simp; omega
          have e48 : fill (sch (nums s) 48) 64 = sch (nums s) 48 := by unfold fill; rw [sch_length]; simp
          rw [e48] at hW
          unfold Arr at hW hR
          rw [HZ.out] at hR
          rw [HS.out] at hW
          have HW := Lib.hid hW
          have HR := Lib.hid hR
          have HB := Lib.hid hB
          clear hW hR hB hk48 hlt hk hn1 e48
          go_wp2_with (first
            | (refine wpList_load_row rfl 232 _ rfl (w.heap.size + 1) rfl 232 S (0, 0) (.array 64 47) HW.out Tryz.underlying232 rfl (by rw [hSs]; exact info37) ?_)
            | (refine wpList_store_row rfl 232 _ _ rfl w.heap.size S rfl rfl 232 Z HR.out (by rw [hSs]; exact info37) (by rw [hSs, hZs]) hSo ?_))
          refine bodyPost_ret (v := .agg S) ?_ rfl ⟨rfl, below_setRow HB.out (Nat.le_refl _) _⟩
          exact results_cell_row rfl _ _ w.heap.size 232 S (0, 0) (.array 64 47) rfl (setRow_heap wr _ _ _ _ _ HR.out) Tryz.underlying232 rfl (by rw [hSs]; exact info37)
end Go.Proofs.YtnmfjnfdnjjngaaGreatDoor.Sh

namespace Go.Proofs.YtnmfjnfdnjjngaaGreatDoor.Sh
open Go.RowKit
set_option maxRecDepth 100000
attribute [-simp] Tryz.zeroValue232 Tryz.zeroValue217 Tryz.isAgg217 Tryz.sizeOf217 Tryz.isAgg232 Tryz.sizeOf232

/-- A package's table: the block g holds these words. -/
def Tab (w : World) (g : Nat) (l : List Int) : Prop := ∃ t fr, w.heap[g]? = some (.cells (cellsOf l) t fr)
theorem Tab.lt {w : World} {g : Nat} {l : List Int} (h : Tab w g l) : g < w.heap.size := by
  obtain ⟨t, fr, h⟩ := h
  rcases Nat.lt_or_ge g w.heap.size with hlt | hge
  · exact hlt
  · rw [Array.getElem?_eq_none hge] at h; cases h
theorem Tab.cell {w : World} {g : Nat} {l : List Int} (h : Tab w g l) (j : Nat) (hj : j < l.length) : w.cell? ⟨g, j, none⟩ = some (.int .u32 (l.getD j 0)) := by
  obtain ⟨t, fr, h⟩ := h
  exact (cell_of_row w g j _ t fr h).trans (cellsOf_get l j hj)
theorem Tab.below {w w' : World} {g B : Nat} {l : List Int} (h : Tab w g l) (hB : Below B w w') (hg : g < B) : Tab w' g l := by
  obtain ⟨t, fr, h⟩ := h
  exact ⟨t, fr, (hB.block g hg).trans h⟩

theorem turn_int (x m : Int) (w : World) (h0 : 0 < m) (hn : m < 32) :
    Calls Tryz.prog 171 #[.int .u32 x, .int .i64 m] w fun e w' => e = .returned (.int .u32 (rotr x m.toNat)) ∧ w = w' := by
  have h := turn_any x m.toNat w (by omega) (by omega)
  rw [Int.toNat_of_nonneg (by omega)] at h
  exact h

/-- Where the loop over the rounds stands. -/
def AblHead (w : World) (gs : Nat) (iv l : List Int) (va vb vc vd ve vf vg vh i : Value) (wr : World) : Prop :=
  ∃ k : Nat, k ≤ 64 ∧ i = .int .i64 k ∧ (∃ xa xb xc xd xe xf xg xh : Int, va = .int .u32 xa ∧ vb = .int .u32 xb ∧ vc = .int .u32 xc ∧ vd = .int .u32 xd ∧ ve = .int .u32 xe ∧ vf = .int .u32 xf ∧ vg = .int .u32 xg ∧ vh = .int .u32 xh ∧
    rnds (sch l 48) iv k = [xa, xb, xc, xd, xe, xf, xg, xh]) ∧ Arr wr gs 232 (sch l 48) ∧ Arr wr w.heap.size 217 iv ∧ Arr wr (w.heap.size + 1) 217 (List.replicate 8 0) ∧ Below w.heap.size w wr

set_option maxHeartbeats 1000000 in
set_option maxRecDepth 100000 in
theorem addBlock_any (iv : List Int) (s : ByteArray) (w : World) (hh : iv.length = 8) (hs : s.size = 64) (hT : Tab w 2 keys) :
    Calls Tryz.prog 163 #[.agg (cellsOf iv), .string s] w fun e w' => e = .returned (.agg (cellsOf (blk iv (nums s)))) ∧ Below w.heap.size w w' := by
  have hbl := blk_length iv (nums s) hh
  generalize hV : cellsOf (blk iv (nums s)) = V
  have hVs : V.size = 8 := by rw [← hV, cellsOf_size]; exact hbl
  have hVo : V.all (·.oneCell') = true := by rw [← hV]; exact cellsOf_one _
  have hz := zero_64
  have hz8 := zero_8
  obtain ⟨ia, ib, ic, id, ie, jf, ig, ih, eiv⟩ := eight hh
  generalize hH : cellsOf iv = H
  generalize hZ : cellsOf (List.replicate 64 0) = Z at hz
  generalize hY : cellsOf (List.replicate 8 0) = Y at hz8
  have HV := Lib.hid hV
  have HH := Lib.hid hH
  have HZ := Lib.hid hZ
  have HY := Lib.hid hY
  have hZs : Z.size = 64 := by rw [← hZ, cellsOf_size]; rfl
  have hYs : Y.size = 8 := by rw [← hY, cellsOf_size]; rfl
  have hHs : H.size = 8 := by rw [← hH, cellsOf_size]; exact hh
  have hHo : H.all (·.oneCell') = true := by rw [← hH]; exact cellsOf_one _
  have b1 := Arr.new w 217 iv
  have b2 := Arr.new (w.alloc (.cells (cellsOf iv) 217)) 217 (List.replicate 8 0)
  rw [World.size_alloc] at b2
  have b3 := b1.alloc (.cells (cellsOf (List.replicate 8 0)) 217)
  have b4 : Below w.heap.size w ((w.alloc (.cells (cellsOf iv) 217)).alloc (.cells (cellsOf (List.replicate 8 0)) 217)) := ((Below.refl w.heap.size w).alloc (Nat.le_refl _) _).alloc (by rw [World.size_alloc]; omega) _
  rw [hH, hY] at b2 b3 b4
  clear b1 hV hH hZ hY
  go_enter Tryz.func163, Tryz.ntmps163
  go_wp2_with fail
  generalize (w.alloc (.cells H 217)).alloc (.cells Y 217) = w2 at b2 b3 b4 ⊢
  have d0 := b3.cell 0 (by omega)
  have d1 := b3.cell 1 (by omega)
  have d2 := b3.cell 2 (by omega)
  have d3 := b3.cell 3 (by omega)
  simp only [eiv, List.getD_cons_zero, List.getD_cons_succ] at d0 d1 d2 d3
  have B := Lib.hid (And.intro b3 (And.intro b2 b4))
  have EIV := Lib.hid eiv
  clear b2 b3 b4 eiv
  go_quiet (fail)
  have B2 := Lib.hid (And.intro (B.out.1.drewN nq) (And.intro (B.out.2.1.drewN nq) (below_drewN B.out.2.2 nq)))
  clear d0 d1 d2 d3 B
  generalize w2.drewN nq = w3 at B2 ⊢
  have d4 := B2.out.1.cell 4 (by omega)
  have d5 := B2.out.1.cell 5 (by omega)
  have d6 := B2.out.1.cell 6 (by omega)
  have d7 := B2.out.1.cell 7 (by omega)
  simp only [EIV.out, List.getD_cons_zero, List.getD_cons_succ] at d4 d5 d6 d7
  go_wp2_with fail
  go_quiet (fail)
  have B3 := Lib.hid (And.intro (B2.out.1.drewN nq) (And.intro (B2.out.2.1.drewN nq) (below_drewN B2.out.2.2 nq)))
  clear d4 d5 d6 d7 B2
  generalize w3.drewN nq = w4 at B3 ⊢
  go_wp2_with fail
  refine (spread_any s w4 hs).mono ?_
  rintro e w5 ⟨rfl, hB5⟩
  have hSs : (cellsOf (sch (nums s) 48)).size = 64 := by rw [cellsOf_size, sch_length]
  have hSo := cellsOf_one (sch (nums s) 48)
  have a1 : AblHead w w5.heap.size iv (nums s) (.int .u32 ia) (.int .u32 ib) (.int .u32 ic) (.int .u32 id) (.int .u32 ie) (.int .u32 jf) (.int .u32 ig) (.int .u32 ih) (.int .i64 0) (w5.alloc (.cells (cellsOf (sch (nums s) 48)) 232)) :=
    ⟨0, by omega, rfl, ⟨ia, ib, ic, id, ie, jf, ig, ih, rfl, rfl, rfl, rfl, rfl, rfl, rfl, rfl, EIV.out⟩, Arr.new w5 232 _, (B3.out.1.below hB5 B3.out.1.lt).alloc _, (B3.out.2.1.below hB5 B3.out.2.1.lt).alloc _, (B3.out.2.2.trans (hB5.mono B3.out.2.2.size)).alloc (Nat.le_trans B3.out.2.2.size hB5.size) _⟩
  have hw5 : w.heap.size + 1 < w5.heap.size := Nat.lt_of_lt_of_le B3.out.2.1.lt hB5.size
  clear hB5 B3
  generalize cellsOf (sch (nums s) 48) = S at hSs hSo a1 ⊢
  have A1 := Lib.hid a1
  clear a1
  go_wp2_with (first
    | (refine wpList_store_row rfl 232 _ _ rfl w5.heap.size S rfl rfl 232 Z (heap_alloc_last w5 _) (by rw [hSs]; exact info37) (by rw [hSs, hZs]) hSo ?_; rw [World.setRow_alloc_new]))
  go_loopw [5, 6, 7, 8, 9, 10, 11, 12, 35] (fun va vb vc vd ve vf vg vh i wr => AblHead w w5.heap.size iv (nums s) va vb vc vd ve vf vg vh i wr) (fun _ _ _ _ _ _ _ _ i _ => 64 - (intOf i).toNat)
  case atStart => exact A1.out
  case round =>
    obtain ⟨k, hk, rfl, ⟨xa, xb, xc, xd, xe, xf, xg, xh, rfl, rfl, rfl, rfl, rfl, rfl, rfl, rfl, ex⟩, hW, hA, hR, hB⟩ := hrel
    by_cases hlt : k < 64
    · have hkb : decide ((k : Int) < 64) = true := by simp; omega
      have hstep := rnds_more (sch (nums s) 48) iv k
      rw [ex] at hstep
      simp only [step] at hstep
      have cw := hW.cell k (by rw [sch_length]; omega)
      have ck := (hT.below hB hT.lt).cell k (by show k < 64; omega)
      generalize (sch (nums s) 48).getD k 0 = vw at cw hstep
      generalize keys.getD k 0 = vk at ck hstep
      have yk : (k : Int) < 64 := by omega
      have HST := Lib.hid hstep
      have HR := Lib.hid (And.intro hW (And.intro hA (And.intro hR hB)))
      clear hW hA hR hB hstep ex
      go_wp2_with fail
      go_quiet ((go_at_call 171; exact Calls.quiet_of_same ((turn_int xe _ _ (by decide) (by decide)).mono fun _ _ h => ⟨h.1, h.2.symm⟩)))
      have HR2 := Lib.hid (And.intro (HR.out.1.drewN nq) (And.intro (HR.out.2.1.drewN nq) (And.intro (HR.out.2.2.1.drewN nq) (below_drewN HR.out.2.2.2 nq))))
      clear HR cw ck
      generalize wr.drewN nq = wd at HR2 ⊢
      go_wp2_with fail
      refine (turn_any xa 2 _ (by decide) (by decide)).mono ?_
      rintro e w' ⟨rfl, rfl⟩
      go_wp2_with fail
      refine (turn_any xa 13 _ (by decide) (by decide)).mono ?_
      rintro e w' ⟨rfl, rfl⟩
      go_wp2_with fail
      refine (turn_any xa 22 _ (by decide) (by decide)).mono ?_
      rintro e w' ⟨rfl, rfl⟩
      generalize rotr xa 2 = r4 at HST ⊢
      generalize rotr xa 13 = r5 at HST ⊢
      generalize rotr xa 22 = r6 at HST ⊢
      go_wp2_with fail
      go_roundw
      case rel =>
        refine ⟨k + 1, by omega, by go_num, ⟨_, _, _, _, _, _, _, _, rfl, rfl, rfl, rfl, rfl, rfl, rfl, rfl, ?_⟩, HR2.out⟩
        exact HST.out.trans step_is
      case measure => simp [intOf]; omega
    · have hk64 : k = 64 := by omega
      rw [hk64] at ex
      have hkb3 : decide ((k : Int) < 64) = false := by simp; omega
      have d0 := hA.cell 0 (by omega)
      have d1 := hA.cell 1 (by omega)
      have d2 := hA.cell 2 (by omega)
      have d3 := hA.cell 3 (by omega)
      have d4 := hA.cell 4 (by omega)
      have d5 := hA.cell 5 (by omega)
      have d6 := hA.cell 6 (by omega)
      have d7 := hA.cell 7 (by omega)
      simp only [EIV.out, List.getD_cons_zero, List.getD_cons_succ] at d0 d1 d2 d3 d4 d5 d6 d7
      have hres : cellsOf [(ia + xa) % 4294967296, (ib + xb) % 4294967296, (ic + xc) % 4294967296, (id + xd) % 4294967296, (ie + xe) % 4294967296, (jf + xf) % 4294967296, (ig + xg) % 4294967296, (ih + xh) % 4294967296] = V := by
        rw [← HV.out]
        unfold blk
        rw [ex, EIV.out]
        simp only [List.zipWith_cons_cons, List.zipWith_nil_left, ad, Int.add_comm]
      have HRES := Lib.hid hres
      unfold Arr at hR
      have HR := Lib.hid hR
      have HB := Lib.hid hB
      clear hW hA hR hB hk64 hlt hk hres ex
      go_wp2_with (first
        | (refine wpList_build_as rfl 217 _ rfl V (Eq.trans (by kernel_rfl : _ = some (cellsOf [(ia + xa) % 4294967296, (ib + xb) % 4294967296, (ic + xc) % 4294967296, (id + xd) % 4294967296, (ie + xe) % 4294967296, (jf + xf) % 4294967296, (ig + xg) % 4294967296, (ih + xh) % 4294967296])) (by rw [HRES.out])) ?_)
        | (refine wpList_store_row rfl 217 _ _ rfl (w.heap.size + 1) V rfl rfl 217 _ HR.out (by rw [hVs]; exact info29) (by rw [hVs, cellsOf_size]; rfl) hVo ?_))
      refine bodyPost_ret (v := .agg V) ?_ rfl ⟨rfl, below_setRow HB.out (by omega) _⟩
      exact results_cell_row rfl _ _ (w.heap.size + 1) 217 V (0, 0) (.array 8 47) rfl (setRow_heap _ _ _ _ _ _ HR.out) Tryz.underlying217 rfl (by rw [hVs]; exact info29)
end Go.Proofs.YtnmfjnfdnjjngaaGreatDoor.Sh
