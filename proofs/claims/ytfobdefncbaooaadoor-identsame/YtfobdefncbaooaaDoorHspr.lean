/-
  Digests: the program's schedule.
-/
import Derived.Test.YtfobdefncbaooaaDoorHturn
import Derived.Test.YtfobdefncbaooaaDoorHblock
namespace Go.Proofs.YtfobdefncbaooaaDoor.Sh
open Go.RowKit
attribute [-simp] Tryd.zeroValue119 Tryd.zeroValue86 Tryd.isAgg86 Tryd.sizeOf86 Tryd.isAgg119 Tryd.sizeOf119

/-- Where the loop over the block's words stands. -/
def Spr1 (w : World) (l : List Int) (i : Value) (wr : World) : Prop :=
  ∃ k : Nat, k ≤ 16 ∧ i = .int .i64 k ∧ Arr wr (w.heap.size + 1) 119 (fill (words l k) 64) ∧ Arr wr w.heap.size 119 (List.replicate 64 0) ∧ Below w.heap.size w wr
/-- Where the loop over the further words stands. -/
def Spr2 (w : World) (l : List Int) (i : Value) (wr : World) : Prop :=
  ∃ k : Nat, k ≤ 48 ∧ i = .int .i64 (16 + k : Nat) ∧ Arr wr (w.heap.size + 1) 119 (fill (sch l k) 64) ∧ Arr wr w.heap.size 119 (List.replicate 64 0) ∧ Below w.heap.size w wr
set_option maxRecDepth 100000 in
theorem spr1_start (w : World) (l : List Int) :
    Spr1 w l (.int .i64 0) ((w.alloc (.cells (cellsOf (List.replicate 64 0)) 119)).alloc (.cells (cellsOf (List.replicate 64 0)) 119)) := by
  have b1 := Arr.new w 119 (List.replicate 64 0)
  have b2 := Arr.new (w.alloc (.cells (cellsOf (List.replicate 64 0)) 119)) 119 (List.replicate 64 0)
  rw [World.size_alloc] at b2
  exact ⟨0, by omega, rfl, b2, b1.alloc _, ((Below.refl w.heap.size w).alloc (Nat.le_refl _) _).alloc (by rw [World.size_alloc]; omega) _⟩
set_option maxRecDepth 100000 in
theorem fill_step2 {wr : World} {g k : Nat} {l : List Int} {v : Int} (h : Arr wr g 119 (fill (words l k) 64)) (hk : k < 16) (hv : v = word l k) :
    Arr (wr.setCell ⟨g, k, none⟩ (.int .u32 v)) g 119 (fill (words l (k + 1)) 64) := fill_step (wr := wr) h hk hv

set_option maxHeartbeats 1000000 in
set_option maxRecDepth 100000 in
theorem spread_any (s : ByteArray) (w : World) (hs : s.size = 64) :
    Calls Tryd.prog 103 #[.string s] w fun e w' => e = .returned (.agg (cellsOf (sch (nums s) 48))) ∧ Below w.heap.size w w' := by
  have hSs : (cellsOf (sch (nums s) 48)).size = 64 := by rw [cellsOf_size, sch_length]
  have hSo := cellsOf_one (sch (nums s) 48)
  generalize hS : cellsOf (sch (nums s) 48) = S at hSs hSo
  have HS := Lib.hid hS
  clear hS
  have hz := zero_64
  generalize hZ : cellsOf (List.replicate 64 0) = Z at hz
  have hZs : Z.size = 64 := by rw [← hZ, cellsOf_size]; rfl
  have HZ := Lib.hid hZ
  clear hZ
  go_enter Tryd.func103, Tryd.ntmps103
  go_wp2_with fail
  have a1 := spr1_start w (nums s)
  rw [HZ.out] at a1
  have A1 := Lib.hid a1
  clear a1
  go_loopw [10] (fun i wr => Spr1 w (nums s) i wr) (fun i _ => 16 - (intOf i).toNat)
  case atStart => exact A1.out
  case round =>
    obtain ⟨k, hk, rfl, hW, hR, hB⟩ := hrel
    by_cases hlt : k < 16
    · have hkb : decide ((k : Int) < 16) = true := by simp; omega
      obtain ⟨q, hq⟩ : ∃ q : Nat, 4 * k = q := ⟨_, rfl⟩
      have x0 : IntKind.i64.wrap ((k : Int) * 4) = (q : Int) := by rw [IntWalk.i64_in _ (by omega)]; omega
      have x1 : (k : Int) * 4 = (q : Int) := by omega
      have yk : (k : Int) < 64 := by omega
      have hf : ∀ n, (wr.drewN n).frozen? ⟨w.heap.size + 1, k, none⟩ = false := fun n => (hW.drewN n).frozen k
      have hcl : ∀ n, (wr.drewN n).cell? ⟨w.heap.size + 1, k, none⟩ = _ := fun n => (hW.drewN n).cell k (by rw [fill_length _ _ (by rw [words_length]; omega)]; omega)
      have HR := Lib.hid (And.intro hW (And.intro hR hB))
      clear hW hR hB
      go_wp2_with fail
      refine (at_any s k q wr hq (by omega) (by omega)).mono ?_
      rintro e w2 ⟨rfl, n, rfl⟩
      have hf := hf n
      have hcl := hcl n
      go_wp2_with fail
      go_roundw
      case rel => exact ⟨k + 1, by omega, by go_num, fill_step2 (HR.out.1.drewN n) hlt rfl, (HR.out.2.1.drewN n).other (by omega) _ _, (below_drewN HR.out.2.2 n).setCell (by show w.heap.size ≤ w.heap.size + 1; omega) _⟩
      case measure => simp [intOf]; omega
    · have hk16 : k = 16 := by omega
      rw [hk16] at hW
      obtain ⟨k1, rfl⟩ : ∃ k1, k1 = k := ⟨_, rfl⟩
      obtain ⟨w2, rfl⟩ : ∃ w2, w2 = wr := ⟨_, rfl⟩
      have A2 := Lib.hid (show Spr2 w (nums s) (.int .i64 16) w2 from ⟨0, by omega, rfl, hW, hR, hB⟩)
      clear hW hR hB
      have hkb : decide ((k1 : Int) < 16) = false := by simp; omega
      clear hk16 hlt hk
      go_wp2_with fail
      go_loopw [5] (fun i wr => Spr2 w (nums s) i wr) (fun i _ => 64 - (intOf i).toNat)
      case atStart => exact A2.out
      case round =>
        obtain ⟨k, hk, rfl, hW, hR, hB⟩ := hrel
        by_cases hlt : k < 48
        · obtain ⟨n, hn⟩ : ∃ n : Nat, 16 + k = n := ⟨_, rfl⟩
          rw [hn]
          have hlen := sch_length (nums s) k
          have hsz : (fill (sch (nums s) k) 64).length = 64 := fill_length _ _ (by omega)
          have f16 := fill_get (sch (nums s) k) 64 k (by omega)
          have f15 := fill_get (sch (nums s) k) 64 (k + 1) (by omega)
          have f7 := fill_get (sch (nums s) k) 64 (k + 9) (by omega)
          have f2 := fill_get (sch (nums s) k) 64 (k + 14) (by omega)
          have c16 := hW.cell k (by omega)
          have c15 := hW.cell (k + 1) (by omega)
          have c7 := hW.cell (k + 9) (by omega)
          have c2 := hW.cell (k + 14) (by omega)
          rw [f16] at c16
          rw [f15] at c15
          rw [f7] at c7
          rw [f2] at c2
          have hnx := next_at (sch (nums s) k) k hlen
          generalize (sch (nums s) k).getD k 0 = v16 at c16 hnx
          generalize (sch (nums s) k).getD (k + 1) 0 = v15 at c15 hnx
          generalize (sch (nums s) k).getD (k + 9) 0 = v7 at c7 hnx
          generalize (sch (nums s) k).getD (k + 14) 0 = v2 at c2 hnx
          clear f16 f15 f7 f2
          obtain ⟨j15, hj15⟩ : ∃ j : Nat, k + 1 = j := ⟨_, rfl⟩
          obtain ⟨j7, hj7⟩ : ∃ j : Nat, k + 9 = j := ⟨_, rfl⟩
          obtain ⟨j2, hj2⟩ : ∃ j : Nat, k + 14 = j := ⟨_, rfl⟩
          rw [hj15] at c15
          rw [hj7] at c7
          rw [hj2] at c2
          have hkb2 : decide ((n : Int) < 64) = true := by simp; omega
          have x16 : IntKind.i64.wrap ((n : Int) - 16) = (k : Int) := by rw [IntWalk.i64_in _ (by omega)]; omega
          have x15 : IntKind.i64.wrap ((n : Int) - 15) = (j15 : Int) := by rw [IntWalk.i64_in _ (by omega)]; omega
          have x7 : IntKind.i64.wrap ((n : Int) - 7) = (j7 : Int) := by rw [IntWalk.i64_in _ (by omega)]; omega
          have x2 : IntKind.i64.wrap ((n : Int) - 2) = (j2 : Int) := by rw [IntWalk.i64_in _ (by omega)]; omega
          have z16 : (n : Int) - 16 = (k : Int) := by omega
          have z15 : (n : Int) - 15 = (j15 : Int) := by omega
          have z7 : (n : Int) - 7 = (j7 : Int) := by omega
          have z2 : (n : Int) - 2 = (j2 : Int) := by omega
          have t16 : IntKind.i64.wrap (k : Int) = (k : Int) := IntWalk.i64_in _ (by omega)
          have t15 : IntKind.i64.wrap (j15 : Int) = (j15 : Int) := IntWalk.i64_in _ (by omega)
          have t7 : IntKind.i64.wrap (j7 : Int) = (j7 : Int) := IntWalk.i64_in _ (by omega)
          have t2 : IntKind.i64.wrap (j2 : Int) = (j2 : Int) := IntWalk.i64_in _ (by omega)
          have yn : (n : Int) < 64 := by omega
          have y16 : (k : Int) < 64 := by omega
          have y15 : (j15 : Int) < 64 := by omega
          have y7 : (j7 : Int) < 64 := by omega
          have y2 : (j2 : Int) < 64 := by omega
          have hf := hW.frozen n
          have hcl := hW.cell n (by omega)
          have HNX := Lib.hid hnx
          have HN := Lib.hid hn
          have HR := Lib.hid (And.intro hW (And.intro hR hB))
          have n63 : n < 64 := by omega
          clear hW hR hB hnx hn hlen hsz hj15 hj7 hj2
          go_wp2_with fail
          go_quiet (fail)
          have k16 : (wr.drewN nq).cell? ⟨w.heap.size + 1, k, none⟩ = some (.int .u32 v16) := c16
          have k7 : (wr.drewN nq).cell? ⟨w.heap.size + 1, j7, none⟩ = some (.int .u32 v7) := c7
          have kf : (wr.drewN nq).frozen? ⟨w.heap.size + 1, n, none⟩ = false := hf
          have kcl : (wr.drewN nq).cell? ⟨w.heap.size + 1, n, none⟩ = _ := hcl
          have HR2 := Lib.hid (And.intro (HR.out.1.drewN nq) (And.intro (HR.out.2.1.drewN nq) (below_drewN HR.out.2.2 nq)))
          clear c16 c15 c7 c2 hf hcl HR
          generalize wr.drewN nq = wd at k16 k7 kf kcl HR2 ⊢
          go_wp2_with fail
          refine (turn_any v15 7 _ (by decide) (by decide)).mono ?_
          rintro e w' ⟨rfl, rfl⟩
          go_wp2_with fail
          refine (turn_any v15 18 _ (by decide) (by decide)).mono ?_
          rintro e w' ⟨rfl, rfl⟩
          go_wp2_with fail
          refine (turn_any v2 17 _ (by decide) (by decide)).mono ?_
          rintro e w' ⟨rfl, rfl⟩
          go_wp2_with fail
          refine (turn_any v2 19 _ (by decide) (by decide)).mono ?_
          rintro e w' ⟨rfl, rfl⟩
          generalize rotr v15 7 = r1 at HNX ⊢
          generalize rotr v15 18 = r2 at HNX ⊢
          generalize rotr v2 17 = r3 at HNX ⊢
          generalize rotr v2 19 = r4 at HNX ⊢
          go_wp2_with fail
          go_still_tail 15, (by kernel_rfl)
          change wpList _ _ _ _ _ wd.drew
          go_wp2_with fail
          go_roundw
          case rel =>
            have hn := HN.out
            refine ⟨k + 1, by omega, ?_, sch_step HR2.out.1 hlt HN.out ?_, HR2.out.2.1.other (by omega) _ _, HR2.out.2.2.drew.setCell (by show w.heap.size ≤ w.heap.size + 1; omega) _⟩
            · rw [show 16 + (k + 1) = n + 1 by omega]; go_num
            · rw [← HNX.out]; unfold ad xr; omega
          case measure => simp [intOf]; omega
        · have hk48 : k = 48 := by omega
          rw [hk48] at hW
          obtain ⟨n1, hn1⟩ : ∃ n1 : Nat, 16 + k = n1 := ⟨_, rfl⟩
          rw [hn1]
          have hkb2 : decide ((n1 : Int) < 64) = false := by simp; omega
          have e48 : fill (sch (nums s) 48) 64 = sch (nums s) 48 := by unfold fill; rw [sch_length]; simp
          rw [e48] at hW
          unfold Arr at hW hR
          rw [HZ.out] at hR
          rw [HS.out] at hW
          have HW := Lib.hid hW
          have HR := Lib.hid hR
          have HB := Lib.hid hB
          clear hW hR hB hk48 hlt hk hn1 e48
          go_wp2_with (first
            | (refine wpList_load_row rfl 119 _ rfl (w.heap.size + 1) rfl 119 S (0, 0) (.array 64 22) HW.out Tryd.underlying119 rfl (by rw [hSs]; exact info37) ?_)
            | (refine wpList_store_row rfl 119 _ _ rfl w.heap.size S rfl rfl 119 Z HR.out (by rw [hSs]; exact info37) (by rw [hSs, hZs]) hSo ?_))
          refine bodyPost_ret (v := .agg S) ?_ rfl ⟨rfl, below_setRow HB.out (Nat.le_refl _) _⟩
          exact results_cell_row rfl _ _ w.heap.size 119 S (0, 0) (.array 64 22) rfl (setRow_heap wr _ _ _ _ _ HR.out) Tryd.underlying119 rfl (by rw [hSs]; exact info37)
end Go.Proofs.YtfobdefncbaooaaDoor.Sh
