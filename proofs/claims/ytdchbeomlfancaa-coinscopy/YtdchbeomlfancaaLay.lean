/-
  The library's functions, laid at this program: slices.SortFunc at coins, maps.Clone at a map of coins; the order by which the program sorts.
-/
import Derived.Test.YtdchbeomlfancaaLf
import Derived.Shelf.SlGeneric
import Derived.Shelf.SlMaps.Clone
import Derived.Shelf.SlSortCmp.WholeK
namespace Go.Proofs.Ytdchbeomlfancaa
open Go.RowKit Go.Shelf Go.Lib Go.Sort

def cloneL_ren : Go.Shelf.Ren := ⟨fun | 5 => 31 | 7 => 36 | n => n, fun | 23 => 60 | 25 => 28 | 3 => 35 | 4 => 4 | 20 => 20 | n => n, fun | n => n⟩
theorem cloneL : Go.Proofs.SlLaysW.n5 Try.prog cloneL_ren :=
  { mixed := by kernel_rfl, f5 := ⟨Try.f31.name, by decide, Try.func31.trans (congrArg some (by kernel_rfl))⟩, f7 := Try.func36.trans (congrArg some (by kernel_rfl)),
    t4 := Try.underlying4, a4 := Try.isAgg4, z4 := Try.sizeOf4, v4 := Try.zeroValue4, t20 := Try.underlying20, a20 := Try.isAgg20, z20 := Try.sizeOf20, v20 := Try.zeroValue20,
    t23 := Try.underlying60, a23 := Try.isAgg60, z23 := Try.sizeOf60, v23 := Try.zeroValue60 }
def sortL_ren : Go.Shelf.Ren := ⟨fun | 6 => 29 | 15 => 34 | 14 => 33 | 28 => 46 | 29 => 47 | 20 => 38 | 21 => 39 | 22 => 40 | 23 => 41 | 24 => 42 | 25 => 43 | 26 => 44 | 27 => 45 | 46 => 48 | 47 => 49 | 48 => 50 | 49 => 51 | 50 => 52 | 57 => 53 | n => n, fun | 22 => 53 | 24 => 55 | 25 => 70 | 3 => 3 | 39 => 75 | 0 => 0 | 53 => 26 | 55 => 88 | 4 => 4 | 46 => 80 | 45 => 79 | 50 => 84 | 5 => 5 | 9 => 9 | 66 => 89 | 70 => 93 | 76 => 95 | 77 => 96 | n => n, fun | n => n⟩
theorem sortL : Go.Proofs.SlLaysF0.n6 Try.prog sortL_ren :=
  { mixed := by kernel_rfl, f6 := ⟨Try.f29.name, by decide, Try.func29.trans (congrArg some (by kernel_rfl))⟩,
    f14 := ⟨Try.f33.name, by decide, Try.func33.trans (congrArg some (by kernel_rfl))⟩, f15 := Try.func34.trans (congrArg some (by kernel_rfl)),
    f20 := ⟨Try.f38.name, by decide, Try.func38.trans (congrArg some (by kernel_rfl))⟩, f21 := ⟨Try.f39.name, by decide, Try.func39.trans (congrArg some (by kernel_rfl))⟩,
    f22 := ⟨Try.f40.name, by decide, Try.func40.trans (congrArg some (by kernel_rfl))⟩, f23 := ⟨Try.f41.name, by decide, Try.func41.trans (congrArg some (by kernel_rfl))⟩,
    f24 := ⟨Try.f42.name, by decide, Try.func42.trans (congrArg some (by kernel_rfl))⟩, f25 := ⟨Try.f43.name, by decide, Try.func43.trans (congrArg some (by kernel_rfl))⟩,
    f26 := ⟨Try.f44.name, by decide, Try.func44.trans (congrArg some (by kernel_rfl))⟩, f27 := ⟨Try.f45.name, by decide, Try.func45.trans (congrArg some (by kernel_rfl))⟩,
    f28 := Try.func46.trans (congrArg some (by kernel_rfl)), f29 := Try.func47.trans (congrArg some (by kernel_rfl)),
    f46 := ⟨Try.f48.name, by decide, Try.func48.trans (congrArg some (by kernel_rfl))⟩, f47 := Try.func49.trans (congrArg some (by kernel_rfl)),
    f48 := Try.func50.trans (congrArg some (by kernel_rfl)), f49 := ⟨Try.f51.name, by decide, Try.func51.trans (congrArg some (by kernel_rfl))⟩,
    f50 := ⟨Try.f52.name, by decide, Try.func52.trans (congrArg some (by kernel_rfl))⟩, f57 := ⟨Try.f53.name, by decide, Try.func53.trans (congrArg some (by kernel_rfl))⟩,
    t0 := Try.underlying0, a0 := Try.isAgg0, z0 := Try.sizeOf0, v0 := Try.zeroValue0, t3 := Try.underlying3, a3 := Try.isAgg3, z3 := Try.sizeOf3, v3 := Try.zeroValue3,
    t4 := Try.underlying4, a4 := Try.isAgg4, z4 := Try.sizeOf4, v4 := Try.zeroValue4, t5 := Try.underlying5, a5 := Try.isAgg5, z5 := Try.sizeOf5, v5 := Try.zeroValue5,
    t9 := Try.underlying9, a9 := Try.isAgg9, z9 := Try.sizeOf9, v9 := Try.zeroValue9, t22 := Try.underlying53, a22 := Try.isAgg53, z22 := Try.sizeOf53, v22 := Try.zeroValue53,
    t25 := Try.underlying70, a25 := Try.isAgg70, z25 := Try.sizeOf70, v25 := Try.zeroValue70, t39 := Try.underlying75, a39 := Try.isAgg75, z39 := Try.sizeOf75, v39 := Try.zeroValue75,
    t45 := Try.underlying79, a45 := Try.isAgg79, z45 := Try.sizeOf79, v45 := Try.zeroValue79, t46 := Try.underlying80, a46 := Try.isAgg80, z46 := Try.sizeOf80, v46 := Try.zeroValue80,
    t50 := Try.underlying84, a50 := Try.isAgg84, z50 := Try.sizeOf84, v50 := Try.zeroValue84, t53 := Try.underlying26, a53 := Try.isAgg26, z53 := Try.sizeOf26, v53 := Try.zeroValue26,
    t55 := Try.underlying88, a55 := Try.isAgg88, z55 := Try.sizeOf88, v55 := Try.zeroValue88, t66 := Try.underlying89, a66 := Try.isAgg89, z66 := Try.sizeOf89, v66 := Try.zeroValue89,
    t70 := Try.underlying93, a70 := Try.isAgg93, z70 := Try.sizeOf93, v70 := Try.zeroValue93, t76 := Try.underlying95, a76 := Try.isAgg95, z76 := Try.sizeOf95, v76 := Try.zeroValue95,
    t77 := Try.underlying96, a77 := Try.isAgg96, z77 := Try.sizeOf96, v77 := Try.zeroValue96 }

/-! ### The order -/

/-- How two coins compare. -/
def cfE (x y : EnD) : Int := if lt x y = true then -1 else if lt y x = true then 1 else 0
theorem ltOf_cfE (x y : EnD) : ltOf cfE x y = lt x y := by
  unfold ltOf cfE
  cases h : lt x y
  · cases lt y x <;> simp
  · simp
theorem lt_ntrans {x y z : EnD} (h1 : lt x y = false) (h2 : lt y z = false) : lt x z = false := by
  rw [Bool.eq_false_iff]
  intro h
  cases h3 : lt y x with
  | true =>
    have := lt_trans h3 h
    rw [h2] at this
    cases this
  | false =>
    rw [lt_same_left (lt_total h1 h3), h2] at h
    cases h
theorem swoE : SWO (ltOf cfE) where
  irrefl x := by rw [ltOf_cfE]; exact lt_irrefl x
  trans x y z h1 h2 := by rw [ltOf_cfE] at *; exact lt_trans h1 h2
  ntrans x y z h1 h2 := by rw [ltOf_cfE] at *; exact lt_ntrans h1 h2

set_option maxHeartbeats 1000000 in
theorem compare_any (x y : EnD) (W : World) : Calls Try.prog 30 #[.agg (encE x).toArray, .agg (encE y).toArray] W fun e w' => e = .returned (.int .i64 (cfE x y)) ∧ ∃ q os', w' = grow (W.drewN q) os' := by
  obtain ⟨xi, xx, xv, xs, xt⟩ := x
  obtain ⟨yi, yx, yv, ys, yt⟩ := y
  show Calls Try.prog 30 #[.agg #[.string xi, .int .u32 xx, .int .i64 xv, .string xs, .int .i64 xt], .agg #[.string yi, .int .u32 yx, .int .i64 yv, .string ys, .int .i64 yt]] W _
  have L1 := Lib.hid (fun V => less_any xi xx yi yx V)
  have L2 := Lib.hid (fun V => less_any yi yx xi xx V)
  have CF : Hid (cfE ⟨xi, xx, xv, xs, xt⟩ ⟨yi, yx, yv, ys, yt⟩ = if lessB xi xx yi yx = true then -1 else if lessB yi yx xi xx = true then 1 else 0) := Lib.hid rfl
  cases h1 : lessB xi xx yi yx with
  | true =>
    rw [h1] at L1 CF
    clear h1
    go_enter Try.func30, Try.ntmps30
    go_wp2_with fail
    refine (L1.out _).mono ?_
    rintro e w1 ⟨rfl, rfl⟩
    go_wp2_with fail
    go_ret
    exact ⟨ret_int (by rw [CF.out]; rfl), 0, _, by rw [alloc_eq_grow, alloc_eq_grow, alloc_eq_grow, alloc_eq_grow, grow_grow, grow_grow, grow_grow]; rfl⟩
  | false =>
    rw [h1] at L1 CF
    clear h1
    cases h2 : lessB yi yx xi xx with
    | true =>
      rw [h2] at L2 CF
      clear h2
      go_enter Try.func30, Try.ntmps30
      go_wp2_with fail
      refine (L1.out _).mono ?_
      rintro e w1 ⟨rfl, rfl⟩
      go_wp2_with fail
      refine (L2.out _).mono ?_
      rintro e w1 ⟨rfl, rfl⟩
      go_wp2_with fail
      go_ret
      exact ⟨ret_int (by rw [CF.out]; rfl), 0, _, by rw [alloc_eq_grow, alloc_eq_grow, alloc_eq_grow, alloc_eq_grow, alloc_eq_grow, alloc_eq_grow, grow_grow, grow_grow, grow_grow, grow_grow, grow_grow]; rfl⟩
    | false =>
      rw [h2] at L2 CF
      clear h2
      go_enter Try.func30, Try.ntmps30
      go_wp2_with fail
      refine (L1.out _).mono ?_
      rintro e w1 ⟨rfl, rfl⟩
      go_wp2_with fail
      refine (L2.out _).mono ?_
      rintro e w1 ⟨rfl, rfl⟩
      go_wp2_with fail
      go_ret
      exact ⟨ret_int (by rw [CF.out]; rfl), 0, _, by rw [alloc_eq_grow, alloc_eq_grow, alloc_eq_grow, alloc_eq_grow, alloc_eq_grow, alloc_eq_grow, grow_grow, grow_grow, grow_grow, grow_grow, grow_grow]; rfl⟩

theorem cmpLays (blk off size : Nat) (w : World) : CmpLays Try.prog 30 #[] encE 5 cfE blk off size w := fun _ _ _ _ x y => compare_any x y _
theorem eg30 : ∀ args w, (callFunc 30 args).run Try.prog w = .ok (.enter 30 args) w := enters_of Try.func30 (by kernel_rfl) rfl

/-- The sort. -/
theorem sort_any (blk off cap : Nat) (d : Array EnD) (w : World) (hH : HoldsK encE 5 w blk off d) (hblk : blk < w.heap.size) (hsz : d.size < 4611686018427387904) :
    Calls Try.prog 29 #[.slice (some ⟨blk, off, none⟩) d.size cap, .func (.func 30) #[] #[]] w fun e w' => e = .returned (.tuple #[]) ∧ ∃ d' n os, PermIn 0 d.size d d' ∧ SortedIn (ltOf cfE) 0 d.size d' ∧ w' = sortWorldK encE 5 w blk off n d' os :=
  AnyQ.slices_SortFunc sortL 5 Try.isAgg55 Try.sizeOf55 encE encE_len encE_one cfE swoE 30 #[] blk off cap d w eg30 (cmpLays blk off d.size w) hH hblk hsz

/-- A permutation in order is the list in order. -/
theorem sorted_is {d d' : Array EnD} {l : List EnD} (hl : Srt l) (hp : d.toList.Perm l) (h1 : PermIn 0 d.size d d') (h2 : SortedIn (ltOf cfE) 0 d.size d') : d'.toList = l := by
  obtain ⟨hs, _, hq⟩ := h1
  have hq' : d'.toList.Perm d.toList := by
    have e1 : d'.extract 0 d.size = d' := by rw [← hs]; simp
    have e2 : d.extract 0 d.size = d := by simp
    rw [e1, e2] at hq
    exact hq
  have hpl := hq'.trans hp
  refine srt_unique ?_ hl hpl
  have hap := apart_perm hpl.symm hl.apart
  unfold Srt
  rw [List.pairwise_iff_getElem] at hap ⊢
  intro i j hi hj hij
  have hn := h2 i j (Nat.zero_le _) hij (by rw [← hs]; simpa using hj)
  rw [ltOf_cfE] at hn
  have gi : d'[i]! = d'.toList[i] := by simp at hi; simp [hi]
  have gj : d'[j]! = d'.toList[j] := by simp at hj; simp [hj]
  rw [gi, gj] at hn
  cases hc : lt d'.toList[i] d'.toList[j] with
  | true => rfl
  | false =>
    have := lt_total hc hn
    rw [hap i j hi hj hij] at this
    cases this

end Go.Proofs.Ytdchbeomlfancaa
