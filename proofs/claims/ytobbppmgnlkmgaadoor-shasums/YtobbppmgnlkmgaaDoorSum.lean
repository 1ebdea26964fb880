/-
  Digests: the program's Sum and Twice.
-/
import Derived.Test.YtobbppmgnlkmgaaDoorRsum
import Derived.Test.YtobbppmgnlkmgaaDoorFmath
import Derived.Test.YtobbppmgnlkmgaaDoorBof
import Derived.Deep.DeepCutAuto
import Derived.Deep.RegionHeld3
import Derived.Deep.RegionWith
namespace Go.Proofs.YtobbppmgnlkmgaaDoor
open Go.RowKit
attribute [-simp] Tryd.zeroValue37 Tryd.isAgg37 Tryd.sizeOf37

theorem Tab.alloc {w : World} {g : Nat} {l : List Int} (h : Tab w g l) (o : Obj) : Tab (w.alloc o) g l := by
  have hlt := h.lt
  obtain ⟨t, fr, h⟩ := h
  exact ⟨t, fr, (Below.heap_alloc w o g hlt).trans h⟩
theorem Tab.drew {w : World} {g : Nat} {l : List Int} (h : Tab w g l) : Tab w.drew g l := h

/-- The package's tables as its text has them. -/
def Tabs (w : World) : Prop := Tab w 0 start ∧ Tab w 1 keys
theorem Tabs.below {w w' : World} (h : Tabs w) (hB : Below w.heap.size w w') : Tabs w' := ⟨h.1.below hB h.1.lt, h.2.below hB h.2.lt⟩

theorem Tabs.alloc {w : World} (h : Tabs w) (o : Obj) : Tabs (w.alloc o) := ⟨h.1.alloc o, h.2.alloc o⟩
theorem Tabs.drew {w : World} (h : Tabs w) : Tabs w.drew := h
theorem Tabs.cells {w : World} (h : Tabs w) : (w.cell? ⟨0, 0, none⟩ = some (.int .u32 1779033703) ∧ w.cell? ⟨0, 1, none⟩ = some (.int .u32 3144134277) ∧ w.cell? ⟨0, 2, none⟩ = some (.int .u32 1013904242) ∧ w.cell? ⟨0, 3, none⟩ = some (.int .u32 2773480762) ∧
    w.cell? ⟨0, 4, none⟩ = some (.int .u32 1359893119) ∧ w.cell? ⟨0, 5, none⟩ = some (.int .u32 2600822924) ∧ w.cell? ⟨0, 6, none⟩ = some (.int .u32 528734635) ∧ w.cell? ⟨0, 7, none⟩ = some (.int .u32 1541459225)) :=
  ⟨h.1.cell 0 (by decide), h.1.cell 1 (by decide), h.1.cell 2 (by decide), h.1.cell 3 (by decide), h.1.cell 4 (by decide), h.1.cell 5 (by decide), h.1.cell 6 (by decide), h.1.cell 7 (by decide)⟩

/-- A row of eight words, cell by cell. -/
theorem Arr.all8 {w : World} {g : Nat} {xa xb xc xd xe xf xg xh : Int} (h : Arr w g 29 [xa, xb, xc, xd, xe, xf, xg, xh]) :
    (w.cell? ⟨g, 0, none⟩ = some (.int .u32 xa) ∧ w.cell? ⟨g, 1, none⟩ = some (.int .u32 xb) ∧ w.cell? ⟨g, 2, none⟩ = some (.int .u32 xc) ∧ w.cell? ⟨g, 3, none⟩ = some (.int .u32 xd) ∧
      w.cell? ⟨g, 4, none⟩ = some (.int .u32 xe) ∧ w.cell? ⟨g, 5, none⟩ = some (.int .u32 xf) ∧ w.cell? ⟨g, 6, none⟩ = some (.int .u32 xg) ∧ w.cell? ⟨g, 7, none⟩ = some (.int .u32 xh)) ∧
    (w.frozen? ⟨g, 0, none⟩ = false ∧ w.frozen? ⟨g, 1, none⟩ = false ∧ w.frozen? ⟨g, 2, none⟩ = false ∧ w.frozen? ⟨g, 3, none⟩ = false ∧
      w.frozen? ⟨g, 4, none⟩ = false ∧ w.frozen? ⟨g, 5, none⟩ = false ∧ w.frozen? ⟨g, 6, none⟩ = false ∧ w.frozen? ⟨g, 7, none⟩ = false) :=
  ⟨⟨h.cell 0 (by simp), h.cell 1 (by simp), h.cell 2 (by simp), h.cell 3 (by simp), h.cell 4 (by simp), h.cell 5 (by simp), h.cell 6 (by simp), h.cell 7 (by simp)⟩,
    ⟨h.frozen 0, h.frozen 1, h.frozen 2, h.frozen 3, h.frozen 4, h.frozen 5, h.frozen 6, h.frozen 7⟩⟩

theorem zeros_kept {w w1 : World} (h : Below (w.alloc (.cells #[.int .u32 0, .int .u32 0, .int .u32 0, .int .u32 0, .int .u32 0, .int .u32 0, .int .u32 0, .int .u32 0] 29)).heap.size (w.alloc (.cells #[.int .u32 0, .int .u32 0, .int .u32 0, .int .u32 0, .int .u32 0, .int .u32 0, .int .u32 0, .int .u32 0] 29)) w1) :
    Arr w1 w.heap.size 29 [0, 0, 0, 0, 0, 0, 0, 0] := Arr.below (Arr.new w 29 [0, 0, 0, 0, 0, 0, 0, 0]) h (by rw [World.size_alloc]; omega)
theorem zeros_kept_drew {w w1 : World} (h : Below (w.alloc (.cells #[.int .u32 0, .int .u32 0, .int .u32 0, .int .u32 0, .int .u32 0, .int .u32 0, .int .u32 0, .int .u32 0] 29)).drew.heap.size (w.alloc (.cells #[.int .u32 0, .int .u32 0, .int .u32 0, .int .u32 0, .int .u32 0, .int .u32 0, .int .u32 0, .int .u32 0] 29)).drew w1) :
    Arr w1 w.heap.size 29 [0, 0, 0, 0, 0, 0, 0, 0] := Arr.below (w := (w.alloc (.cells #[.int .u32 0, .int .u32 0, .int .u32 0, .int .u32 0, .int .u32 0, .int .u32 0, .int .u32 0, .int .u32 0] 29)).drew) (Arr.new w 29 [0, 0, 0, 0, 0, 0, 0, 0]) h (by show w.heap.size < (w.alloc _).heap.size; rw [World.size_alloc]; omega)

/-- Between the whole blocks and the rest: where the words lie. -/
def SumMid (w : World) (r : List Int) (v : Value) (wx : World) : Prop :=
  ∃ g, v = .pointer (some ⟨g, 0, none⟩) ∧ w.heap.size ≤ g ∧ Arr wx g 29 r ∧ Below w.heap.size w wx

/-- Eight words stored, one behind the other. -/
theorem Arr.put8 {w : World} {g : Nat} {a b c d e f i j xa xb xc xd xe xf xg xh : Int} (h : Arr w g 29 [a, b, c, d, e, f, i, j]) :
    Arr ((((((((w.setCell ⟨g, 0, none⟩ (.int .u32 xa)).setCell ⟨g, 1, none⟩ (.int .u32 xb)).setCell ⟨g, 2, none⟩ (.int .u32 xc)).setCell ⟨g, 3, none⟩ (.int .u32 xd)).setCell ⟨g, 4, none⟩ (.int .u32 xe)).setCell ⟨g, 5, none⟩ (.int .u32 xf)).setCell ⟨g, 6, none⟩ (.int .u32 xg)).setCell ⟨g, 7, none⟩ (.int .u32 xh)) g 29 [xa, xb, xc, xd, xe, xf, xg, xh] :=
  (((((((h.set 0 xa).set 1 xb).set 2 xc).set 3 xd).set 4 xe).set 5 xf).set 6 xg).set 7 xh
theorem Below.put8 {w0 w : World} {B g : Nat} {xa xb xc xd xe xf xg xh : Value} (h : Below B w0 w) (hg : B ≤ g) :
    Below B w0 ((((((((w.setCell ⟨g, 0, none⟩ xa).setCell ⟨g, 1, none⟩ xb).setCell ⟨g, 2, none⟩ xc).setCell ⟨g, 3, none⟩ xd).setCell ⟨g, 4, none⟩ xe).setCell ⟨g, 5, none⟩ xf).setCell ⟨g, 6, none⟩ xg).setCell ⟨g, 7, none⟩ xh) :=
  (((((((h.setCell (p := ⟨g, 0, none⟩) hg xa).setCell (p := ⟨g, 1, none⟩) hg xb).setCell (p := ⟨g, 2, none⟩) hg xc).setCell (p := ⟨g, 3, none⟩) hg xd).setCell (p := ⟨g, 4, none⟩) hg xe).setCell (p := ⟨g, 5, none⟩) hg xf).setCell (p := ⟨g, 6, none⟩) hg xg).setCell (p := ⟨g, 7, none⟩) hg xh
theorem mid1 {w w1 : World} {xa xb xc xd xe xf xg xh : Int} (h : Below w.drew.heap.size w.drew w1) :
    SumMid w [xa, xb, xc, xd, xe, xf, xg, xh] (.pointer (some ⟨w1.heap.size, 0, none⟩)) (w1.alloc (.cells #[.int .u32 xa, .int .u32 xb, .int .u32 xc, .int .u32 xd, .int .u32 xe, .int .u32 xf, .int .u32 xg, .int .u32 xh] 29)) :=
  ⟨w1.heap.size, rfl, h.size, Arr.new w1 29 [xa, xb, xc, xd, xe, xf, xg, xh], ((Below.refl w.heap.size w).drew.trans h).alloc h.size _⟩
theorem mid2 {w w1 : World} {xa xb xc xd xe xf xg xh : Int} (h : Below (w.alloc (.cells #[.int .u32 0, .int .u32 0, .int .u32 0, .int .u32 0, .int .u32 0, .int .u32 0, .int .u32 0, .int .u32 0] 29)).drew.heap.size (w.alloc (.cells #[.int .u32 0, .int .u32 0, .int .u32 0, .int .u32 0, .int .u32 0, .int .u32 0, .int .u32 0, .int .u32 0] 29)).drew w1) :
    SumMid w [xa, xb, xc, xd, xe, xf, xg, xh] (.pointer (some ⟨w.heap.size, 0, none⟩)) ((((((((w1.setCell ⟨w.heap.size, 0, none⟩ (.int .u32 xa)).setCell ⟨w.heap.size, 1, none⟩ (.int .u32 xb)).setCell ⟨w.heap.size, 2, none⟩ (.int .u32 xc)).setCell ⟨w.heap.size, 3, none⟩ (.int .u32 xd)).setCell ⟨w.heap.size, 4, none⟩ (.int .u32 xe)).setCell ⟨w.heap.size, 5, none⟩ (.int .u32 xf)).setCell ⟨w.heap.size, 6, none⟩ (.int .u32 xg)).setCell ⟨w.heap.size, 7, none⟩ (.int .u32 xh)) :=
  ⟨w.heap.size, rfl, Nat.le_refl _, (zeros_kept_drew h).put8,
    Below.put8 (((Below.refl w.heap.size w).alloc (Nat.le_refl _) _).drew.trans (h.mono (by show w.heap.size ≤ (w.alloc _).heap.size; rw [World.size_alloc]; omega))) (Nat.le_refl _)⟩

set_option maxHeartbeats 400000 in
theorem sum_any (s : ByteArray) (w : World) (hs : s.size ≤ 140737488351232) (hT : Tabs w) :
    Calls Tryd.prog 7 #[.string s] w fun e w' => e = .returned (.string (digest s)) ∧ Below w.heap.size w w' := by
  obtain ⟨r, hr⟩ : ∃ r, s.size % 64 = r := ⟨_, rfl⟩
  obtain ⟨W, hW⟩ : ∃ W, s.size - r = W := ⟨_, rfl⟩
  have r64 : r < 64 := by omega
  have r1 : (s.size : Int) % 64 = (r : Int) := by omega
  have r2 : (s.size : Int).tmod 64 = (r : Int) := by rw [Int.tmod_eq_emod_of_nonneg (by omega)]; exact r1
  have y1 : (s.size : Int) - (r : Int) = (W : Int) := by omega
  have y2 : IntKind.i64.wrap ((s.size : Int) - (r : Int)) = (W : Int) := by rw [y1]; exact IntWalk.i64_in _ (by omega)
  have y3 : IntKind.i64.wrap (W : Int) = (W : Int) := IntWalk.i64_in _ (by omega)
  have y4 : (W : Int) ≤ (s.size : Int) := by omega
  have y5 : W ≤ s.size := by omega
  obtain ⟨c0, c1, c2, c3, c4, c5, c6, c7⟩ := hT.cells
  have hwn : ¬ w.heap.size = 0 := Nat.ne_of_gt hT.1.lt
  have sx : (s.extract 0 W).size = W := by rw [ByteArray.size_extract]; omega
  obtain ⟨ra, rb, rc, rd, re, rf, rg, rh, er⟩ := eight (runs_length start (nums (s.extract 0 W)) rfl ((s.extract 0 W).size / 64))
  have hc1 : ∀ wx, Tabs wx → Calls Tryd.prog 11 #[.agg #[.int .u32 1779033703, .int .u32 3144134277, .int .u32 1013904242, .int .u32 2773480762, .int .u32 1359893119, .int .u32 2600822924, .int .u32 528734635, .int .u32 1541459225], .string (s.extract 0 W)] wx
      fun e w' => e = .returned (.agg #[.int .u32 ra, .int .u32 rb, .int .u32 rc, .int .u32 rd, .int .u32 re, .int .u32 rf, .int .u32 rg, .int .u32 rh]) ∧ Below wx.heap.size wx w' ∧ Tabs w' := by
    intro wx hx
    have h := addBlocks_any start (s.extract 0 W) wx rfl (by omega) (by omega) hx.2
    rw [er] at h
    exact h.mono fun _ _ h => ⟨h.1, h.2, hx.below h.2⟩
  have HER := Lib.hid er
  clear er
  go_enter Tryd.func7, Tryd.ntmps7
  go_wp2_with fail
  go_cut [4] (fun v wx => SumMid w [ra, rb, rc, rd, re, rf, rg, rh] v wx)
  case first =>
    go_region_held3 (fun w' => w'.cell? ⟨0, 0, none⟩ = some (.int .u32 1779033703) ∧ w'.cell? ⟨0, 1, none⟩ = some (.int .u32 3144134277) ∧ w'.cell? ⟨0, 2, none⟩ = some (.int .u32 1013904242) ∧ w'.cell? ⟨0, 3, none⟩ = some (.int .u32 2773480762) ∧
        w'.cell? ⟨0, 4, none⟩ = some (.int .u32 1359893119) ∧ w'.cell? ⟨0, 5, none⟩ = some (.int .u32 2600822924) ∧ w'.cell? ⟨0, 6, none⟩ = some (.int .u32 528734635) ∧ w'.cell? ⟨0, 7, none⟩ = some (.int .u32 1541459225))
      (go_keep)
      (first | (go_at_call 11; refine (hc1 _ (by first | exact Tabs.drew hT | exact Tabs.alloc (Tabs.drew hT) _ | exact Tabs.drew (Tabs.alloc hT _))).mono ?_; rintro e w1 ⟨rfl, hB1, hT1⟩; obtain ⟨d0, d1, d2, d3, d4, d5, d6, d7⟩ := hT1.cells; have hn1 : ¬ w1.heap.size = 0 := Nat.ne_of_gt hT1.1.lt; first | (have hz := Arr.all8 (zeros_kept hB1); obtain ⟨⟨z0, z1, z2, z3, z4, z5, z6, z7⟩, ⟨f0, f1, f2, f3, f4, f5, f6, f7⟩⟩ := hz) | (have hz := Arr.all8 (zeros_kept_drew hB1); obtain ⟨⟨z0, z1, z2, z3, z4, z5, z6, z7⟩, ⟨f0, f1, f2, f3, f4, f5, f6, f7⟩⟩ := hz) | skip))
    · go_wp2_with fail
      go_meet
      case rel => exact mid1 hB1
    · go_wp2_with fail
      go_meet
      case rel => exact mid2 hB1
  case rest =>
    obtain ⟨g, rfl, hg, hA, hB⟩ := hcut
    clear hc1 c0 c1 c2 c3 c4 c5 c6 c7 hwn
    have sy : (s.extract W s.size).size = r := by rw [ByteArray.size_extract]; omega
    obtain ⟨z, hz⟩ : ∃ z, z = strOfNums (padR (nums (s.extract W s.size)) ((s.size : Int) * 8)) := ⟨_, rfl⟩
    obtain ⟨z64, zle, hdig⟩ := digest_parts s _ _ z W y5 (by omega) rfl rfl hz
    rw [HER.out] at hdig
    obtain ⟨qa, qb, qc, qd, qe, qf, qg, qh, eq⟩ := eight (runs_length [ra, rb, rc, rd, re, rf, rg, rh] (nums z) rfl (z.size / 64))
    rw [eq] at hdig
    have HD := Lib.hid hdig
    have hc2 : ∀ wx, Arr wx g 29 [ra, rb, rc, rd, re, rf, rg, rh] → Tabs wx → Calls Tryd.prog 12 #[.string (s.extract W s.size), .int .i64 (s.size : Int)] wx
        fun e w' => e = .returned (.string z) ∧ Below wx.heap.size wx w' ∧ Tabs w' ∧ Arr w' g 29 [ra, rb, rc, rd, re, rf, rg, rh] := by
      intro wx ha hx
      rw [hz]
      exact (padded_any (s.extract W s.size) s.size wx (by omega) hs).mono fun _ _ h => ⟨h.1, h.2, hx.below h.2, ha.below h.2 ha.lt⟩
    have hc3 : ∀ wx, Arr wx g 29 [ra, rb, rc, rd, re, rf, rg, rh] → Tabs wx → Calls Tryd.prog 11 #[.agg #[.int .u32 ra, .int .u32 rb, .int .u32 rc, .int .u32 rd, .int .u32 re, .int .u32 rf, .int .u32 rg, .int .u32 rh], .string z] wx
        fun e w' => e = .returned (.agg #[.int .u32 qa, .int .u32 qb, .int .u32 qc, .int .u32 qd, .int .u32 qe, .int .u32 qf, .int .u32 qg, .int .u32 qh]) ∧ Below wx.heap.size wx w' ∧ Tabs w' ∧ Arr w' g 29 [ra, rb, rc, rd, re, rf, rg, rh] := by
      intro wx ha hx
      have h := addBlocks_any [ra, rb, rc, rd, re, rf, rg, rh] z wx rfl (by omega) z64 hx.2
      rw [eq] at h
      exact h.mono fun _ _ h => ⟨h.1, h.2, hx.below h.2, ha.below h.2 ha.lt⟩
    have hTc := hT.below hB
    obtain ⟨⟨a0, a1, a2, a3, a4, a5, a6, a7⟩, ⟨b0, b1, b2, b3, b4, b5, b6, b7⟩⟩ := hA.all8
    have HA := Lib.hid (And.intro hA (And.intro hTc hB))
    clear hdig eq hz hA hB hTc hT HER
    go_wp2_with fail
    go_cut [] (fun wx => Arr wx g 29 [qa, qb, qc, qd, qe, qf, qg, qh] ∧ Below w.heap.size w wx)
    case first =>
      go_region_with (first
          | (go_at_call 12; refine (hc2 _ (HA.out.1.drew) (Tabs.drew HA.out.2.1)).mono ?_; rintro e w1 ⟨rfl, hB1, hT1, hA1⟩; obtain ⟨⟨d0, d1, d2, d3, d4, d5, d6, d7⟩, _⟩ := hA1.all8)
          | (go_at_call 11; refine (hc3 _ hA1 hT1).mono ?_; rintro e w2 ⟨rfl, hB2, hT2, hA2⟩; obtain ⟨⟨e0, e1, e2, e3, e4, e5, e6, e7⟩, ⟨f0, f1, f2, f3, f4, f5, f6, f7⟩⟩ := hA2.all8))
      all_goals go_wp2_with fail
      all_goals go_meet
      all_goals exact ⟨hA2.put8, Below.put8 ((HA.out.2.2.drew.trans (hB1.mono HA.out.2.2.size)).trans (hB2.mono (Nat.le_trans HA.out.2.2.size hB1.size))) hg⟩
    case rest =>
      obtain ⟨hA3, hB3⟩ := hcut
      clear a0 a1 a2 a3 a4 a5 a6 a7 b0 b1 b2 b3 b4 b5 b6 b7 HA hc2 hc3
      obtain ⟨⟨a0, a1, a2, a3, a4, a5, a6, a7⟩, _⟩ := hA3.all8
      have HB3 := Lib.hid hB3
      clear hA3 hB3
      go_wp2_with fail
      refine (bytesOf_any [qa, qb, qc, qd, qe, qf, qg, qh] wc rfl).mono ?_
      rintro e w4 ⟨rfl, hB4⟩
      rw [HD.out]
      go_wp2_with fail
      go_ret
      exact ⟨rfl, HB3.out.trans (hB4.mono HB3.out.size)⟩

theorem twice_any (s : ByteArray) (w : World) (hs : s.size ≤ 140737488351232) (hT : Tabs w) :
    Calls Tryd.prog 9 #[.string s] w fun e w' => e = .returned (.string (digest (digest s))) ∧ Below w.heap.size w w' := by
  have hd := digest_size s
  go_enter Tryd.func9, Tryd.ntmps9
  go_wp2_with fail
  refine (sum_any s w hs hT).mono ?_
  rintro e w1 ⟨rfl, hB1⟩
  go_wp2_with fail
  refine (sum_any (digest s) w1 (by omega) (hT.below hB1)).mono ?_
  rintro e w2 ⟨rfl, hB2⟩
  go_wp2_with fail
  go_ret
  exact ⟨rfl, hB1.trans (hB2.mono hB1.size)⟩
end Go.Proofs.YtobbppmgnlkmgaaDoor
