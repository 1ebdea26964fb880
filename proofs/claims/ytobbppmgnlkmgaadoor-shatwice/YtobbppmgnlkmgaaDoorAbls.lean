/-
  Digests: the program's blocks of a text, one behind the other.
-/
import Derived.Test.YtobbppmgnlkmgaaDoorAbl
namespace Go.Proofs.YtobbppmgnlkmgaaDoor
open Go.RowKit
attribute [-simp] Tryd.zeroValue37 Tryd.zeroValue29 Tryd.isAgg37 Tryd.sizeOf37

/-- The words behind j blocks, out of others. -/
def runs (h p : List Int) : Nat → List Int
  | 0 => h
  | j + 1 => blk (runs h p j) ((p.drop (64 * j)).take 64)
theorem runs_length (h p : List Int) (hh : h.length = 8) : ∀ j, (runs h p j).length = 8
  | 0 => hh
  | j + 1 => blk_length _ _ (runs_length h p hh j)
theorem nums_extract (s : ByteArray) (i j : Nat) : nums (s.extract i j) = ((nums s).drop i).take (j - i) := by
  simp [nums, ByteArray.data_extract, List.map_drop, List.map_take]
theorem piece_size (s : ByteArray) (i j : Nat) (h : i + 64 = j) (hj : j ≤ s.size) : (s.extract i j).size = 64 := by
  rw [ByteArray.size_extract]; omega

/-- Where the loop over the blocks stands. -/
def BlsHead (w : World) (iv : List Int) (s : ByteArray) (i : Value) (wr : World) : Prop :=
  ∃ j : Nat, 64 * j ≤ s.size ∧ i = .int .i64 (64 * j : Nat) ∧ Arr wr w.heap.size 29 (runs iv (nums s) j) ∧ Arr wr (w.heap.size + 1) 29 (List.replicate 8 0) ∧ Below w.heap.size w wr

set_option maxHeartbeats 400000 in
theorem addBlocks_any (iv : List Int) (s : ByteArray) (w : World) (hh : iv.length = 8) (hs : s.size ≤ 140737488351400) (h64 : s.size % 64 = 0) (hT : Tab w 1 keys) :
    Calls Tryd.prog 11 #[.agg (cellsOf iv), .string s] w fun e w' => e = .returned (.agg (cellsOf (runs iv (nums s) (s.size / 64)))) ∧ Below w.heap.size w w' := by
  have hz8 := zero_8
  generalize hV : cellsOf (runs iv (nums s) (s.size / 64)) = V
  have hVs : V.size = 8 := by rw [← hV, cellsOf_size]; exact runs_length _ _ hh _
  have hVo : V.all (·.oneCell') = true := by rw [← hV]; exact cellsOf_one _
  generalize hH : cellsOf iv = H
  generalize hY : cellsOf (List.replicate 8 0) = Y at hz8
  have HV := Lib.hid hV
  have HH := Lib.hid hH
  have HY := Lib.hid hY
  have hYs : Y.size = 8 := by rw [← hY, cellsOf_size]; rfl
  have hHs : H.size = 8 := by rw [← hH, cellsOf_size]; exact hh
  have hHo : H.all (·.oneCell') = true := by rw [← hH]; exact cellsOf_one _
  have b1 := Arr.new w 29 iv
  have b2 := Arr.new (w.alloc (.cells (cellsOf iv) 29)) 29 (List.replicate 8 0)
  rw [World.size_alloc] at b2
  have b3 := b1.alloc (.cells (cellsOf (List.replicate 8 0)) 29)
  have b4 : Below w.heap.size w ((w.alloc (.cells (cellsOf iv) 29)).alloc (.cells (cellsOf (List.replicate 8 0)) 29)) := ((Below.refl w.heap.size w).alloc (Nat.le_refl _) _).alloc (by rw [World.size_alloc]; omega) _
  have a1 : BlsHead w iv s (.int .i64 0) ((w.alloc (.cells (cellsOf iv) 29)).alloc (.cells (cellsOf (List.replicate 8 0)) 29)) := ⟨0, by omega, rfl, b3, b2, b4⟩
  rw [hH, hY] at a1
  have A1 := Lib.hid a1
  clear b1 b2 b3 b4 hV hH hY a1
  go_enter Tryd.func11, Tryd.ntmps11
  go_wp2_with fail
  go_loopw [5] (fun i wr => BlsHead w iv s i wr) (fun i _ => s.size - (intOf i).toNat)
  case atStart => exact A1.out
  case round =>
    obtain ⟨j, hj, rfl, hA, hR, hB⟩ := hrel
    obtain ⟨i, hi⟩ : ∃ i, 64 * j = i := ⟨_, rfl⟩
    rw [hi]
    rw [hi] at hj
    by_cases hlt : i < s.size
    · have h8 := runs_length iv (nums s) hh j
      obtain ⟨xa, xb, xc, xd, xe, xf, xg, xh, ex⟩ := eight h8
      have c0 := hA.cell 0 (by omega)
      have c1 := hA.cell 1 (by omega)
      have c2 := hA.cell 2 (by omega)
      have c3 := hA.cell 3 (by omega)
      have c4 := hA.cell 4 (by omega)
      have c5 := hA.cell 5 (by omega)
      have c6 := hA.cell 6 (by omega)
      have c7 := hA.cell 7 (by omega)
      rw [ex] at c0 c1 c2 c3 c4 c5 c6 c7
      simp only [List.getD_cons_zero, List.getD_cons_succ] at c0 c1 c2 c3 c4 c5 c6 c7
      obtain ⟨i2, hi2⟩ : ∃ i2, i + 64 = i2 := ⟨_, rfl⟩
      have x1 : IntKind.i64.wrap ((i : Int) + 64) = (i2 : Int) := by rw [IntWalk.i64_in _ (by omega)]; omega
      have z1 : (i : Int) + 64 = (i2 : Int) := by omega
      have t1 : IntKind.i64.wrap (i2 : Int) = (i2 : Int) := IntWalk.i64_in _ (by omega)
      have y0 : (i : Int) ≤ (i2 : Int) := by omega
      have y1 : (i2 : Int) ≤ (s.size : Int) := by omega
      have y2 : i ≤ i2 := by omega
      have y3 : i2 ≤ s.size := by omega
      have hd : decide (i < s.size) = true := by simp; omega
      have HR := Lib.hid (And.intro hA (And.intro hR hB))
      have HEX := Lib.hid ex
      clear hA hR hB ex h8
      go_wp2_with fail
      go_still_tail 6, (by kernel_rfl)
      change wpList _ _ _ _ _ wr.drew
      go_wp2_with fail
      have hT2 : Tab wr.drew 1 keys := (hT.below HR.out.2.2 hT.lt).below (Below.refl wr.heap.size wr).drew (Nat.lt_of_lt_of_le hT.lt HR.out.2.2.size)
      refine (addBlock_any [xa, xb, xc, xd, xe, xf, xg, xh] (s.extract i i2) wr.drew rfl (piece_size s i i2 hi2 y3) hT2).mono ?_
      rintro e w2 ⟨rfl, hB2⟩
      have hnew : blk [xa, xb, xc, xd, xe, xf, xg, xh] (nums (s.extract i i2)) = runs iv (nums s) (j + 1) := by
        rw [← HEX.out, nums_extract, show i2 - i = 64 by omega, ← hi]
        rfl
      rw [hnew]
      have hA2 := HR.out.1.drew.below hB2 HR.out.1.lt
      have hR2 := HR.out.2.1.drew.below hB2 HR.out.2.1.lt
      have hold : (cellsOf (runs iv (nums s) j)).size = 8 := by rw [cellsOf_size]; exact runs_length _ _ hh j
      unfold Arr at hA2
      generalize cellsOf (runs iv (nums s) j) = O at hA2 hold
      have hV2s : (cellsOf (runs iv (nums s) (j + 1))).size = 8 := by rw [cellsOf_size]; exact runs_length _ _ hh (j + 1)
      have hV2o := cellsOf_one (runs iv (nums s) (j + 1))
      have hfin : BlsHead w iv s (.int .i64 ((64 * (j + 1) : Nat) : Int)) (w2.setRow w.heap.size (cellsOf (runs iv (nums s) (j + 1)))) := by
        refine ⟨j + 1, by omega, rfl, setRow_heap w2 _ _ _ _ _ hA2, ?_, below_setRow (HR.out.2.2.drew.trans (hB2.mono HR.out.2.2.size)) (Nat.le_refl _) _⟩
        exact (setRow_other w2 w.heap.size (w.heap.size + 1) _ (by omega)).trans hR2
      generalize cellsOf (runs iv (nums s) (j + 1)) = V2 at hV2s hV2o hfin ⊢
      have HF := Lib.hid hfin
      have HA2 := Lib.hid hA2
      clear hfin hA2 hnew hR2
      go_wp2_with (first
        | (refine wpList_store_row rfl 29 _ _ rfl w.heap.size V2 rfl rfl 29 O HA2.out (by rw [hV2s]; exact info29) (by rw [hV2s, hold]) hV2o ?_))
      go_roundw
      case rel =>
        have := HF.out
        rw [show 64 * (j + 1) = i2 by omega] at this
        exact this
      case measure => simp [intOf]; omega
    · have hjN : j = s.size / 64 := by omega
      have hd : decide (i < s.size) = false := by simp; omega
      rw [hjN] at hA
      unfold Arr at hA hR
      rw [HV.out] at hA
      have HA := Lib.hid hA
      have HR := Lib.hid hR
      have HB := Lib.hid hB
      clear hA hR hB hjN hi hj hlt
      go_wp2_with (first
        | (refine wpList_load_row rfl 29 _ rfl w.heap.size rfl 29 V (0, 0) (.array 8 28) HA.out Tryd.underlying29 rfl (by rw [hVs]; exact info29) ?_)
        | (refine wpList_store_row rfl 29 _ _ rfl (w.heap.size + 1) V rfl rfl 29 _ HR.out (by rw [hVs]; exact info29) (by rw [hVs, cellsOf_size]; rfl) hVo ?_))
      refine bodyPost_ret (v := .agg V) ?_ rfl ⟨rfl, below_setRow HB.out (by omega) _⟩
      exact results_cell_row rfl _ _ (w.heap.size + 1) 29 V (0, 0) (.array 8 28) rfl (setRow_heap _ _ _ _ _ _ HR.out) Tryd.underlying29 rfl (by rw [hVs]; exact info29)
end Go.Proofs.YtobbppmgnlkmgaaDoor
