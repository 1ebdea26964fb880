/-
  Digests: the document's Sum.
-/
import Derived.Test.YtobbppmgnlkmgaaDoorBlock
import Derived.Test.YtobbppmgnlkmgaaDoorPad
import Derived.Test.YtobbppmgnlkmgaaDoorDmath
import Derived.StillTailTactics
import Derived.BigRegion
namespace Go.Proofs.YtobbppmgnlkmgaaDoor
open Go.RowKit
attribute [-simp] Tryd.zeroValue37 Tryd.zeroValue29 Tryd.isAgg37 Tryd.sizeOf37

/-- Where the loop over the blocks stands. -/
def SumHead (w : World) (p : List Int) (g : Nat) (i : Value) (wr : World) : Prop :=
  ∃ j : Nat, 64 * j ≤ p.length ∧ i = .int .i64 (64 * j : Nat) ∧ Arr wr w.heap.size 29 (hsh p j) ∧ g < wr.heap.size ∧ (∀ k, k < p.length → wr.cell? ⟨g, k, none⟩ = some (.int .u8 (p.getD k 0))) ∧ Below w.heap.size w wr
/-- Where the loop over the words stands. -/
def OutHead (w : World) (h : List Int) (o i : Value) (wr : World) : Prop :=
  ∃ k : Nat, k ≤ 8 ∧ i = .int .i64 k ∧ o = .string (strOfNums (wbytes (h.take k))) ∧ Arr wr w.heap.size 29 h ∧ Below w.heap.size w wr

theorem row_bytes {w : World} {g i : Nat} {p : List Int} (hg : g < w.heap.size) (hc : ∀ k, k < p.length → w.cell? ⟨g, k, none⟩ = some (.int .u8 (p.getD k 0))) (hi : i + 64 ≤ p.length) :
    Bytes w.drew w.drew.heap.size g i ((p.drop i).take 64) := by
  refine ⟨hg, fun j hj => ?_⟩
  have h64 : j < 64 := by simp at hj; omega
  have := hc (i + j) (by omega)
  rw [show ((p.drop i).take 64).getD j 0 = p.getD (i + j) 0 by simp [List.getD_eq_getElem?_getD, h64]]
  exact this

theorem run_four (wx : World) (a b c d : Int) :
    (convert 26 9 (.slice (some ⟨wx.heap.size, 0, none⟩) 4 4)).run Tryd.prog (wx.alloc (.cells #[.int .u8 a, .int .u8 b, .int .u8 c, .int .u8 d] 5)) = .ok (.string (strOfNums [a, b, c, d])) (wx.alloc (.cells #[.int .u8 a, .int .u8 b, .int .u8 c, .int .u8 d] 5)) :=
  run_convert_bytes_arg _ 26 5 Tryd.underlying26 Tryd.underlying5 wx.heap.size 0 4 4 [a, b, c, d] rfl (fun i hi => by
    have : i = 0 ∨ i = 1 ∨ i = 2 ∨ i = 3 := by omega
    rcases this with rfl | rfl | rfl | rfl <;> simp) 9 Tryd.underlying9

theorem run_four_drew (wx : World) (a b c d : Int) :
    (convert 26 9 (.slice (some ⟨wx.heap.size, 0, none⟩) 4 4)).run Tryd.prog (wx.alloc (.cells #[.int .u8 a, .int .u8 b, .int .u8 c, .int .u8 d] 5)).drew = .ok (.string (strOfNums [a, b, c, d])) (wx.alloc (.cells #[.int .u8 a, .int .u8 b, .int .u8 c, .int .u8 d] 5)).drew := run_four wx.drew a b c d

theorem ret_str {a b : ByteArray} (h : a = b) : Ending.returned (.string a) = .returned (.string b) := by rw [h]

set_option maxHeartbeats 400000 in
theorem rsum_any (s : ByteArray) (w : World) (hs : s.size ≤ 140737488351232) : Calls Tryd.prog 8 #[.string s] w fun e w' => e = .returned (.string (digest s)) ∧ Below w.heap.size w w' := by
  have hz8 := zero_8
  generalize hY : cellsOf (List.replicate 8 0) = Y at hz8
  generalize hV : cellsOf start = V
  have hYs : Y.size = 8 := by rw [← hY, cellsOf_size]; rfl
  have hVs : V.size = 8 := by rw [← hV, cellsOf_size]; rfl
  have hVo : V.all (·.oneCell') = true := by rw [← hV]; exact cellsOf_one _
  have HV := Lib.hid hV
  clear hV hY
  go_enter Tryd.func8, Tryd.ntmps8
  go_wp2_with (first
    | (refine wpList_build_as rfl 29 _ rfl V (Eq.trans (by kernel_rfl : _ = some (cellsOf start)) (by rw [HV.out])) ?_)
    | (refine wpList_store_row rfl 29 _ _ rfl w.heap.size V rfl rfl 29 Y (heap_alloc_last w _) (by rw [hVs]; exact info29) (by rw [hVs, hYs]) hVo ?_; rw [World.setRow_alloc_new]))
  refine (pad_any s _ hs).mono ?_
  rintro e w1 ⟨v, rfl, hown, hB1⟩
  rw [← HV.out] at hB1 hown
  obtain ⟨g, cap, rfl, hcap, hbg, hgl, hcell⟩ := hown.open (by intro e; have h9 := padL_length (nums s); rw [e] at h9; simp only [List.length_nil] at h9; omega)
  have hpl := padL_length (nums s)
  have hp64 := padL_64 (nums s)
  have hpb := padL_bd (nums s) (nums_bd s)
  rw [nums_length] at hpl
  generalize hP : padL (nums s) = p at hcap hcell hpl hp64 hpb hown
  have hz64 : zs s.size ≤ 63 := by unfold zs; omega
  rw [World.size_alloc] at hbg hB1
  have A1 : SumHead w p g (.int .i64 0) w1 := ⟨0, by omega, rfl, Arr.below (Arr.new w 29 start) hB1 (by omega), hgl, hcell, ((Below.refl _ _).alloc (Nat.le_refl _) _).trans (hB1.mono (by omega))⟩
  have HA1 := Lib.hid A1
  have HP := Lib.hid hP
  have HPB := Lib.hid hpb
  clear A1 hP hpb hown hcell hgl hB1
  have hpm : p.length ≤ 140737488351400 := by omega
  obtain ⟨N, hN⟩ : ∃ N, p.length = N := ⟨_, rfl⟩
  rw [hN] at hcap hpl hp64 hpm
  have HN := Lib.hid hN
  rw [hN]
  clear hN hpl hz64
  go_wp2_with fail
  go_loopw [5] (fun i wr => SumHead w p g i wr) (fun i _ => N - (intOf i).toNat)
  case atStart => exact HA1.out
  case round =>
    obtain ⟨j, hj, rfl, hA, hg, hcell, hB⟩ := hrel
    obtain ⟨i, hi⟩ : ∃ i, 64 * j = i := ⟨_, rfl⟩
    rw [hi]
    rw [HN.out, hi] at hj
    by_cases hlt : i < N
    · obtain ⟨xa, xb, xc, xd, xe, xf, xg, xh, ex⟩ := eight (hsh_length p j)
      have c0 := hA.cell 0 (by rw [hsh_length]; omega)
      have c1 := hA.cell 1 (by rw [hsh_length]; omega)
      have c2 := hA.cell 2 (by rw [hsh_length]; omega)
      have c3 := hA.cell 3 (by rw [hsh_length]; omega)
      have c4 := hA.cell 4 (by rw [hsh_length]; omega)
      have c5 := hA.cell 5 (by rw [hsh_length]; omega)
      have c6 := hA.cell 6 (by rw [hsh_length]; omega)
      have c7 := hA.cell 7 (by rw [hsh_length]; omega)
      rw [ex] at c0 c1 c2 c3 c4 c5 c6 c7
      simp only [List.getD_cons_zero, List.getD_cons_succ] at c0 c1 c2 c3 c4 c5 c6 c7
      obtain ⟨i2, hi2⟩ : ∃ i2, i + 64 = i2 := ⟨_, rfl⟩
      have x1 : IntKind.i64.wrap ((i : Int) + 64) = (i2 : Int) := by rw [IntWalk.i64_in _ (by omega)]; omega
      have y0 : (i : Int) ≤ (i2 : Int) := by omega
      have y1 : (i2 : Int) ≤ (cap : Int) := by omega
      have hd : decide (i < N) = true := by simp; omega
      have hci : ¬ cap = i := by omega
      have hi64 : i2 - i = 64 := by omega
      have HR := Lib.hid (And.intro hA (And.intro hg (And.intro hcell hB)))
      have HEX := Lib.hid ex
      clear hA hg hcell hB ex
      go_wp2_with fail
      go_still_tail 6, (by kernel_rfl)
      change wpList _ _ _ _ _ wr.drew
      go_wp2_with fail
      refine (block_any [xa, xb, xc, xd, xe, xf, xg, xh] g i (cap - i) ((p.drop i).take 64) wr.drew rfl (by simp [HN.out]; omega) (row_bytes HR.out.2.1 HR.out.2.2.1 (by rw [HN.out]; omega)) (fun x hx => HPB.out x (List.mem_of_mem_drop (List.mem_of_mem_take hx))) (by omega)).mono ?_
      rintro e w2 ⟨rfl, hB2⟩
      have hnew : blk [xa, xb, xc, xd, xe, xf, xg, xh] ((p.drop i).take 64) = hsh p (j + 1) := by rw [← HEX.out, ← hi]; rfl
      rw [hnew]
      have hA2 := HR.out.1.drew.below hB2 HR.out.1.lt
      have hold : (cellsOf (hsh p j)).size = 8 := by rw [cellsOf_size]; exact hsh_length p j
      unfold Arr at hA2
      generalize cellsOf (hsh p j) = O at hA2 hold
      have hV2s : (cellsOf (hsh p (j + 1))).size = 8 := by rw [cellsOf_size]; exact hsh_length p (j + 1)
      have hV2o := cellsOf_one (hsh p (j + 1))
      have hfin : SumHead w p g (.int .i64 ((64 * (j + 1) : Nat) : Int)) (w2.setRow w.heap.size (cellsOf (hsh p (j + 1)))) := by
        refine ⟨j + 1, by rw [HN.out]; omega, rfl, setRow_heap w2 _ _ _ _ _ hA2, ?_, ?_, below_setRow (HR.out.2.2.2.drew.trans (hB2.mono HR.out.2.2.2.size)) (Nat.le_refl _) _⟩
        · rw [size_setRow]; exact Nat.lt_of_lt_of_le HR.out.2.1 hB2.size
        · intro k hk
          rw [cell_setRow_other _ _ _ _ (by show g ≠ w.heap.size; omega)]
          exact (hB2.cell (p := ⟨g, k, none⟩) HR.out.2.1).trans (HR.out.2.2.1 k hk)
      generalize cellsOf (hsh p (j + 1)) = V2 at hV2s hV2o hfin ⊢
      have HF := Lib.hid hfin
      have HA2 := Lib.hid hA2
      clear hfin hA2 hnew
      go_wp2_with (first
        | (refine wpList_store_row rfl 29 _ _ rfl w.heap.size V2 rfl rfl 29 O HA2.out (by rw [hV2s]; exact info29) (by rw [hV2s, hold]) hV2o ?_))
      go_roundw
      case rel =>
        have := HF.out
        rw [show 64 * (j + 1) = i2 by omega] at this
        exact this
      case measure => simp [intOf]; omega
    · have hiN : i = N := by omega
      have hjN : j = N / 64 := by omega
      have hd : decide (i < N) = false := by simp; omega
      rw [hjN] at hA
      have hres : digest s = strOfNums (wbytes (hsh p (N / 64))) := by unfold digest; rw [HP.out, HN.out]
      have h8 := hsh_length p (N / 64)
      generalize hsh p (N / 64) = q at hA hres h8
      have HA := Lib.hid (show OutHead w q (.string ⟨#[]⟩) (.int .i64 0) wr from ⟨0, by omega, rfl, rfl, hA, hB⟩)
      have HRES := Lib.hid hres
      obtain ⟨w3, rfl⟩ : ∃ w3, w3 = wr := ⟨_, rfl⟩
      clear hA hB hg hcell hres hjN hiN hi hj hlt
      go_wp2_with fail
      go_loopw [6, 7] (fun o i wr => OutHead w q o i wr) (fun _ i _ => 8 - (intOf i).toNat)
      case atStart => exact HA.out
      case round =>
        obtain ⟨k, hk, rfl, rfl, hA, hB⟩ := hrel
        by_cases hlt : k < 8
        · have cx := hA.cell k (by omega)
          have hmore := wbytes_more q k (by omega)
          have hsz : (strOfNums (wbytes (q.take k))).size = 4 * k := by rw [strOfNums_size, wbytes_length]; simp; omega
          generalize q.getD k 0 = x at cx hmore
          have hm2 : strOfNums (wbytes (q.take k)) ++ strOfNums (be4 x) = strOfNums (wbytes (q.take (k + 1))) := by rw [hmore, str_append]
          generalize strOfNums (wbytes (q.take k)) = o at hsz hm2
          have HM := Lib.hid hm2
          have HR := Lib.hid (And.intro hA hB)
          have hz4 : ∀ a b c d, (strOfNums [a, b, c, d]).size = 4 := fun a b c d => by rw [strOfNums_size]; rfl
          have hcv := run_four_drew
          have yk : (k : Int) < 8 := by omega
          have hw := hB.size
          have hgl := hA.lt
          clear hA hB hmore hm2
          go_wp2_with fail
          go_region
          go_wp2_with fail
          go_roundw
          case rel => exact ⟨k + 1, by omega, by go_num, by rw [← HM.out]; rfl, HR.out.1.drew.alloc _, HR.out.2.drew.alloc hw _⟩
          case measure => simp [intOf]; omega
        · have hk8 : k = 8 := by omega
          subst hk8
          go_wp2_with fail
          go_ret
          exact ⟨ret_str (by rw [HRES.out, List.take_of_length_le (by omega)]), hB⟩

theorem rtwice_any (s : ByteArray) (w : World) (hs : s.size ≤ 140737488351232) : Calls Tryd.prog 10 #[.string s] w fun e w' => e = .returned (.string (digest (digest s))) ∧ Below w.heap.size w w' := by
  have hd := digest_size s
  go_enter Tryd.func10, Tryd.ntmps10
  go_wp2_with fail
  refine (rsum_any s w hs).mono ?_
  rintro e w1 ⟨rfl, hB1⟩
  go_wp2_with fail
  refine (rsum_any (digest s) w1 (by omega)).mono ?_
  rintro e w2 ⟨rfl, hB2⟩
  go_wp2_with fail
  go_ret
  exact ⟨rfl, hB1.trans (hB2.mono hB1.size)⟩
end Go.Proofs.YtobbppmgnlkmgaaDoor
