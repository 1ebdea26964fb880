/-
  The library's functions, laid at this program: slices.SortFunc at coins, maps.Clone at a map of coins; the order by which the program sorts.
  A range over a map of coins, whichever comes next; what the sort leaves of a row of coins.
-/
import Derived.Test.YtnmfjnfdnjjngaaGreatDoorMDat
import Derived.Shelf.SlGeneric
import Derived.Shelf.SlMaps.Clone
import Derived.Shelf.SlSortCmp.WholeK
import Derived.Laws.IdiomRangeMap
import Derived.Maps.RangeRun
import Derived.Laws.MakeOwn

namespace Go.Proofs.YtnmfjnfdnjjngaaGreatDoor.Co
open Go.RowKit Go.Shelf Go.Lib Go.Sort
set_option maxRecDepth 100000

def cloneL_ren : Go.Shelf.Ren := ⟨fun | 5 => 40 | 7 => 69 | n => n, fun | 23 => 76 | 25 => 60 | 3 => 64 | 4 => 4 | 20 => 20 | n => n, fun | n => n⟩
theorem cloneL : Go.Proofs.SlLaysW.n5 Tryz.prog cloneL_ren :=
  { mixed := by kernel_rfl, f5 := ⟨Tryz.f40.name, by decide, Tryz.func40.trans (congrArg some (by kernel_rfl))⟩, f7 := Tryz.func69.trans (congrArg some (by kernel_rfl)),
    t4 := Tryz.underlying4, a4 := Tryz.isAgg4, z4 := Tryz.sizeOf4, v4 := Tryz.zeroValue4, t20 := Tryz.underlying20, a20 := Tryz.isAgg20, z20 := Tryz.sizeOf20, v20 := Tryz.zeroValue20,
    t23 := Tryz.underlying76, a23 := Tryz.isAgg76, z23 := Tryz.sizeOf76, v23 := Tryz.zeroValue76 }
def sortL_ren : Go.Shelf.Ren := ⟨fun | 6 => 45 | 15 => 71 | 14 => 70 | 28 => 98 | 29 => 99 | 20 => 90 | 21 => 91 | 22 => 92 | 23 => 93 | 24 => 94 | 25 => 95 | 26 => 96 | 27 => 97 | 46 => 114 | 47 => 115 | 48 => 116 | 49 => 117 | 50 => 118 | 57 => 137 | n => n, fun | 22 => 29 | 24 => 66 | 25 => 114 | 3 => 3 | 39 => 163 | 0 => 0 | 53 => 47 | 55 => 194 | 4 => 4 | 46 => 186 | 45 => 185 | 50 => 190 | 5 => 5 | 9 => 9 | 66 => 208 | 70 => 212 | 76 => 230 | 77 => 165 | n => n, fun | n => n⟩
theorem sortL : Go.Proofs.SlLaysF0.n6 Tryz.prog sortL_ren :=
  { mixed := by kernel_rfl, f6 := ⟨Tryz.f45.name, by decide, Tryz.func45.trans (congrArg some (by kernel_rfl))⟩,
    f14 := ⟨Tryz.f70.name, by decide, Tryz.func70.trans (congrArg some (by kernel_rfl))⟩, f15 := Tryz.func71.trans (congrArg some (by kernel_rfl)),
    f20 := ⟨Tryz.f90.name, by decide, Tryz.func90.trans (congrArg some (by kernel_rfl))⟩, f21 := ⟨Tryz.f91.name, by decide, Tryz.func91.trans (congrArg some (by kernel_rfl))⟩,
    f22 := ⟨Tryz.f92.name, by decide, Tryz.func92.trans (congrArg some (by kernel_rfl))⟩, f23 := ⟨Tryz.f93.name, by decide, Tryz.func93.trans (congrArg some (by kernel_rfl))⟩,
    f24 := ⟨Tryz.f94.name, by decide, Tryz.func94.trans (congrArg some (by kernel_rfl))⟩, f25 := ⟨Tryz.f95.name, by decide, Tryz.func95.trans (congrArg some (by kernel_rfl))⟩,
    f26 := ⟨Tryz.f96.name, by decide, Tryz.func96.trans (congrArg some (by kernel_rfl))⟩, f27 := ⟨Tryz.f97.name, by decide, Tryz.func97.trans (congrArg some (by kernel_rfl))⟩,
    f28 := Tryz.func98.trans (congrArg some (by kernel_rfl)), f29 := Tryz.func99.trans (congrArg some (by kernel_rfl)),
    f46 := ⟨Tryz.f114.name, by decide, Tryz.func114.trans (congrArg some (by kernel_rfl))⟩, f47 := Tryz.func115.trans (congrArg some (by kernel_rfl)),
    f48 := Tryz.func116.trans (congrArg some (by kernel_rfl)), f49 := ⟨Tryz.f117.name, by decide, Tryz.func117.trans (congrArg some (by kernel_rfl))⟩,
    f50 := ⟨Tryz.f118.name, by decide, Tryz.func118.trans (congrArg some (by kernel_rfl))⟩, f57 := ⟨Tryz.f137.name, by decide, Tryz.func137.trans (congrArg some (by kernel_rfl))⟩,
    t0 := Tryz.underlying0, a0 := Tryz.isAgg0, z0 := Tryz.sizeOf0, v0 := Tryz.zeroValue0, t3 := Tryz.underlying3, a3 := Tryz.isAgg3, z3 := Tryz.sizeOf3, v3 := Tryz.zeroValue3,
    t4 := Tryz.underlying4, a4 := Tryz.isAgg4, z4 := Tryz.sizeOf4, v4 := Tryz.zeroValue4, t5 := Tryz.underlying5, a5 := Tryz.isAgg5, z5 := Tryz.sizeOf5, v5 := Tryz.zeroValue5,
    t9 := Tryz.underlying9, a9 := Tryz.isAgg9, z9 := Tryz.sizeOf9, v9 := Tryz.zeroValue9, t22 := Tryz.underlying29, a22 := Tryz.isAgg29, z22 := Tryz.sizeOf29, v22 := Tryz.zeroValue29,
    t25 := Tryz.underlying114, a25 := Tryz.isAgg114, z25 := Tryz.sizeOf114, v25 := Tryz.zeroValue114, t39 := Tryz.underlying163, a39 := Tryz.isAgg163, z39 := Tryz.sizeOf163, v39 := Tryz.zeroValue163,
    t45 := Tryz.underlying185, a45 := Tryz.isAgg185, z45 := Tryz.sizeOf185, v45 := Tryz.zeroValue185, t46 := Tryz.underlying186, a46 := Tryz.isAgg186, z46 := Tryz.sizeOf186, v46 := Tryz.zeroValue186,
    t50 := Tryz.underlying190, a50 := Tryz.isAgg190, z50 := Tryz.sizeOf190, v50 := Tryz.zeroValue190, t53 := Tryz.underlying47, a53 := Tryz.isAgg47, z53 := Tryz.sizeOf47, v53 := Tryz.zeroValue47,
    t55 := Tryz.underlying194, a55 := Tryz.isAgg194, z55 := Tryz.sizeOf194, v55 := Tryz.zeroValue194, t66 := Tryz.underlying208, a66 := Tryz.isAgg208, z66 := Tryz.sizeOf208, v66 := Tryz.zeroValue208,
    t70 := Tryz.underlying212, a70 := Tryz.isAgg212, z70 := Tryz.sizeOf212, v70 := Tryz.zeroValue212, t76 := Tryz.underlying230, a76 := Tryz.isAgg230, z76 := Tryz.sizeOf230, v76 := Tryz.zeroValue230,
    t77 := Tryz.underlying165, a77 := Tryz.isAgg165, z77 := Tryz.sizeOf165, v77 := Tryz.zeroValue165 }

/-! ### The order -/

/-- How two coins compare. -/
def cfE (x y : EnD) : Int := if lt x y = true then -1 else if lt y x = true then 1 else 0
theorem ltOf_cfE (x y : EnD) : ltOf cfE x y = lt x y := by
  unfold ltOf cfE
  cases h : lt x y
  · cases lt y x <;> simp
  · simp
theorem lt_ntrans {x y z : EnD} (h1 : lt x y = false) (h2 : lt y z = false) : lt x z = false := by
  rw [Bool.eq_false_iff]
  intro h
  cases h3 : lt y x with
  | true =>
    have := lt_trans h3 h
    rw [h2] at this
    cases this
  | false =>
    rw [lt_same_left (lt_total h1 h3), h2] at h
    cases h
theorem swoE : SWO (ltOf cfE) where
  irrefl x := by rw [ltOf_cfE]; exact lt_irrefl x
  trans x y z h1 h2 := by rw [ltOf_cfE] at *; exact lt_trans h1 h2
  ntrans x y z h1 h2 := by rw [ltOf_cfE] at *; exact lt_ntrans h1 h2

set_option maxHeartbeats 1000000 in
theorem compare_any (x y : EnD) (W : World) : Calls Tryz.prog 46 #[.agg (encE x).toArray, .agg (encE y).toArray] W fun e w' => e = .returned (.int .i64 (cfE x y)) ∧ ∃ q os', w' = grow (W.drewN q) os' := by
  obtain ⟨xi, xx, xv, xs, xt⟩ := x
  obtain ⟨yi, yx, yv, ys, yt⟩ := y
  show Calls Tryz.prog 46 #[.agg #[.string xi, .int .u32 xx, .int .i64 xv, .string xs, .int .i64 xt], .agg #[.string yi, .int .u32 yx, .int .i64 yv, .string ys, .int .i64 yt]] W _
  have L1 := Lib.hid (fun V => less_any xi xx yi yx V)
  have L2 := Lib.hid (fun V => less_any yi yx xi xx V)
  have CF : Hid (cfE ⟨xi, xx, xv, xs, xt⟩ ⟨yi, yx, yv, ys, yt⟩ = if lessB xi xx yi yx = true then -1 else if lessB yi yx xi xx = true then 1 else 0) := Lib.hid rfl
  cases h1 : lessB xi xx yi yx with
  | true =>
    rw [h1] at L1 CF
    clear h1
    go_enter Tryz.func46, Tryz.ntmps46
    go_wp2_with fail
    refine (L1.out _).mono ?_
    rintro e w1 ⟨rfl, rfl⟩
    go_wp2_with fail
    go_ret
    exact ⟨ret_int (by rw [CF.out]; rfl), 0, _, by rw [alloc_eq_grow, alloc_eq_grow, alloc_eq_grow, alloc_eq_grow, grow_grow, grow_grow, grow_grow]; rfl⟩
  | false =>
    rw [h1] at L1 CF
    clear h1
    cases h2 : lessB yi yx xi xx with
    | true =>
      rw [h2] at L2 CF
      clear h2
      go_enter Tryz.func46, Tryz.ntmps46
      go_wp2_with fail
      refine (L1.out _).mono ?_
      rintro e w1 ⟨rfl, rfl⟩
      go_wp2_with fail
      refine (L2.out _).mono ?_
      rintro e w1 ⟨rfl, rfl⟩
      go_wp2_with fail
      go_ret
      exact ⟨ret_int (by rw [CF.out]; rfl), 0, _, by rw [alloc_eq_grow, alloc_eq_grow, alloc_eq_grow, alloc_eq_grow, alloc_eq_grow, alloc_eq_grow, grow_grow, grow_grow, grow_grow, grow_grow, grow_grow]; rfl⟩
    | false =>
      rw [h2] at L2 CF
      clear h2
      go_enter Tryz.func46, Tryz.ntmps46
      go_wp2_with fail
      refine (L1.out _).mono ?_
      rintro e w1 ⟨rfl, rfl⟩
      go_wp2_with fail
      refine (L2.out _).mono ?_
      rintro e w1 ⟨rfl, rfl⟩
      go_wp2_with fail
      go_ret
      exact ⟨ret_int (by rw [CF.out]; rfl), 0, _, by rw [alloc_eq_grow, alloc_eq_grow, alloc_eq_grow, alloc_eq_grow, alloc_eq_grow, alloc_eq_grow, grow_grow, grow_grow, grow_grow, grow_grow, grow_grow]; rfl⟩

theorem cmpLays (blk off size : Nat) (w : World) : CmpLays Tryz.prog 46 #[] encE 5 cfE blk off size w := fun _ _ _ _ x y => compare_any x y _
theorem eg30 : ∀ args w, (callFunc 46 args).run Tryz.prog w = .ok (.enter 46 args) w := enters_of Tryz.func46 (by kernel_rfl) rfl

/-- The sort. -/
theorem sort_any (blk off cap : Nat) (d : Array EnD) (w : World) (hH : HoldsK encE 5 w blk off d) (hblk : blk < w.heap.size) (hsz : d.size < 4611686018427387904) :
    Calls Tryz.prog 45 #[.slice (some ⟨blk, off, none⟩) d.size cap, .func (.func 46) #[] #[]] w fun e w' => e = .returned (.tuple #[]) ∧ ∃ d' n os, PermIn 0 d.size d d' ∧ SortedIn (ltOf cfE) 0 d.size d' ∧ w' = sortWorldK encE 5 w blk off n d' os :=
  AnyQ.slices_SortFunc sortL 5 Tryz.isAgg66 Tryz.sizeOf66 encE encE_len encE_one cfE swoE 46 #[] blk off cap d w eg30 (cmpLays blk off d.size w) hH hblk hsz

/-- A permutation in order is the list in order. -/
theorem sorted_is {d d' : Array EnD} {l : List EnD} (hl : Srt l) (hp : d.toList.Perm l) (h1 : PermIn 0 d.size d d') (h2 : SortedIn (ltOf cfE) 0 d.size d') : d'.toList = l := by
  obtain ⟨hs, _, hq⟩ := h1
  have hq' : d'.toList.Perm d.toList := by
    have e1 : d'.extract 0 d.size = d' := by rw [← hs]; simp
    have e2 : d.extract 0 d.size = d := by simp
    rw [e1, e2] at hq
    exact hq
  have hpl := hq'.trans hp
  refine srt_unique ?_ hl hpl
  have hap := apart_perm hpl.symm hl.apart
  unfold Srt
  rw [List.pairwise_iff_getElem] at hap ⊢
  intro i j hi hj hij
  have hn := h2 i j (Nat.zero_le _) hij (by rw [← hs]; simpa using hj)
  rw [ltOf_cfE] at hn
  have gi : d'[i]! = d'.toList[i] := by simp at hi; simp [hi]
  have gj : d'[j]! = d'.toList[j] := by simp at hj; simp [hj]
  rw [gi, gj] at hn
  cases hc : lt d'.toList[i] d'.toList[j] with
  | true => rfl
  | false =>
    have := lt_total hc hn
    rw [hap i j hi hj hij] at this
    cases this

end Go.Proofs.YtnmfjnfdnjjngaaGreatDoor.Co

namespace Go.Proofs.YtnmfjnfdnjjngaaGreatDoor.Co
open Go.RowKit Go.ChangeMaps
set_option maxRecDepth 100000

/-- A coin out of its key and its value. -/
def decE : Value × Value → EnD
  | (.agg #[.string a, .int _ i], .agg #[.int _ v, .string s, .int _ t]) => ⟨a, i, v, s, t⟩
  | _ => e0
theorem decE_enc (x : EnD) : decE (kv x, cv x) = x := rfl
theorem perm_of_pairs {l m : List EnD} (h : (l.map fun x => (kv x, cv x)).Perm (m.map fun x => (kv x, cv x))) : l.Perm m := by
  have := h.map decE
  simpa [List.map_map, Function.comp_def, decE_enc] using this

/-- The range over the map in block b, by the iterator in block r, has handed out xs; cnt are still to come. -/
def Rng (w : World) (b r : Nat) (l xs : List EnD) (cnt : Nat) : Prop :=
  ∃ es clock seen, w.heap[b]? = some (.map es clock) ∧ w.heap[r]? = some (.mapIter (some b) clock seen clock) ∧ (∀ e ∈ es.toList, e.born < clock) ∧ (es.toList.map (·.born)).Nodup ∧
    (es.toList.map fun e => (e.key, e.val)).Perm (l.map fun x => (kv x, cv x)) ∧ (leftOf es seen).size = cnt ∧
    ((xs.map fun x => (kv x, cv x)) ++ ((leftOf es seen).toList.map fun e => (e.key, e.val))).Perm (l.map fun x => (kv x, cv x))

theorem Rng.ltr {w : World} {b r : Nat} {l xs : List EnD} {cnt : Nat} (h : Rng w b r l xs cnt) : r < w.heap.size := by
  obtain ⟨es, clock, seen, _, hr, _⟩ := h
  exact lt_of_heap hr
theorem Rng.keep {w w' : World} {b r : Nat} {l xs : List EnD} {cnt : Nat} (h : Rng w b r l xs cnt) (h1 : w'.heap[b]? = w.heap[b]?) (h2 : w'.heap[r]? = w.heap[r]?) : Rng w' b r l xs cnt := by
  obtain ⟨es, clock, seen, hb, hr, q⟩ := h
  exact ⟨es, clock, seen, h1.trans hb, h2.trans hr, q⟩
theorem Rng.far {w : World} {b r : Nat} {l xs : List EnD} {cnt base n size : Nat} {e : TypeId} {v : Value} {cs : List Value} (h : Rng w b r l xs cnt) (hown : w.ownsRow base e size v n cs) : some r ≠ v.ownBlock := by
  obtain ⟨es, clock, seen, _, hr, _⟩ := h
  intro hh
  rcases hown.2 with ⟨rfl, _⟩ | ⟨g, cap, cur, rfl, _, hg, _⟩
  · simp [Value.ownBlock] at hh
  · simp [Value.ownBlock] at hh
    subst hh
    rw [hr] at hg
    cases hg
theorem MapIs.range {w : World} {b : Nat} {l : List EnD} (h : MapIs w b l) :
    ∃ w', (Instr.range 76 (.map (some b))).run Tryz.prog w = .ok (.pointer (some ⟨w.heap.size, 0, none⟩)) w' ∧ Rng w' b w.heap.size l [] l.length ∧ Below w.heap.size w w' ∧ w'.heap.size = w.heap.size + 1 := by
  have hlt := h.lt
  obtain ⟨es, clock, hb, h1, h2, hp⟩ := h
  have e1 : leftOf es #[] = es := by simp [leftOf]
  refine ⟨_, run_range_map w 76 60 64 b es clock Tryz.underlying76 hb, ⟨es, clock, #[], (Below.heap_alloc _ _ _ hlt).trans hb, heap_alloc_new _ _, h1, h2, hp, ?_, ?_⟩, (Below.refl _ _).alloc (Nat.le_refl _) _, by simp⟩
  · rw [e1]
    have := hp.length_eq
    simpa using this
  · rw [e1]
    simpa using hp

theorem left_push {es : Array MapEntry} {seen : Array Nat} {e : MapEntry} (hn : (es.toList.map (·.born)).Nodup) (he : e ∈ (leftOf es seen).toList) : (leftOf es seen).toList.Perm (e :: (leftOf es (seen.push e.born)).toList) := by
  have e1 : (leftOf es (seen.push e.born)).toList = (leftOf es seen).toList.filter fun x => !(x.born == e.born) := by
    simp only [leftOf, Array.toList_filter, List.filter_filter]
    congr 1
    funext x
    rw [contains_push]
    cases seen.contains x.born <;> cases (x.born == e.born) <;> rfl
  rw [e1]
  have hn2 : ((leftOf es seen).toList.map (·.born)).Nodup := by
    simp only [leftOf, Array.toList_filter]
    exact (List.filter_sublist.map _).nodup hn
  generalize (leftOf es seen).toList = m at he hn2
  induction m with
  | nil => cases he
  | cons y r ih =>
    simp only [List.map_cons, List.nodup_cons] at hn2
    by_cases hy : y.born = e.born
    · have hye : y = e := by
        rcases List.mem_cons.1 he with h | h
        · exact h.symm
        · exact absurd (List.mem_map.2 ⟨e, h, hy.symm⟩) hn2.1
      subst hye
      rw [List.filter_cons_of_neg (by simp)]
      have : r.filter (fun x => !(x.born == y.born)) = r := by
        rw [List.filter_eq_self]
        intro z hz
        have : z.born ≠ y.born := fun h => hn2.1 (List.mem_map.2 ⟨z, hz, h⟩)
        simp [this]
      rw [this]
    · have hne : e ∈ r := by
        rcases List.mem_cons.1 he with h | h
        · exact absurd (by rw [h]) hy
        · exact h
      rw [List.filter_cons_of_pos (by simp [hy])]
      exact ((ih hne hn2.2).cons y).trans (List.Perm.swap e y _)

/-- The next one, or none. -/
theorem Rng.next {w : World} {b r : Nat} {l xs : List EnD} {cnt : Nat} (h : Rng w b r l xs cnt) :
    ((Instr.next (.pointer (some ⟨r, 0, none⟩)) false 0).run Tryz.prog w = .ok (.tuple #[.bool false]) w ∧ xs.Perm l) ∨
      ∃ x w' cnt', (Instr.next (.pointer (some ⟨r, 0, none⟩)) false 0).run Tryz.prog w = .ok (.tuple #[.bool true, .agg #[.string x.id, .int .u32 x.ix], .agg #[.int .i64 x.val, .string x.scr, .int .i64 x.ht]]) w' ∧
        (Instr.entry (.pointer (some ⟨r, 0, none⟩))).run Tryz.prog w' = .ok (.tuple #[.agg #[.string x.id, .int .u32 x.ix], .agg #[.int .i64 x.val, .string x.scr, .int .i64 x.ht]]) w' ∧
        Rng w' b r l (xs ++ [x]) cnt' ∧ cnt' < cnt ∧ w.grownBy w' (some r) ∧ w'.heap.size = w.heap.size := by
  obtain ⟨es, clock, seen, hb, hr, h1, h2, hp, hc, hq⟩ := h
  have hne : r ≠ b := by
    rintro rfl
    rw [hr] at hb
    cases hb
  rcases run_next_at (P := Tryz.prog) w 0 r b clock clock seen es clock hr hb h1 (Nat.le_refl _) with ⟨g0, hrun⟩ | ⟨e, he, w1, hal, hrun⟩
  · refine .inl ⟨hrun, perm_of_pairs ?_⟩
    have : (leftOf es seen).toList = [] := by
      have := Array.eq_empty_of_size_eq_zero g0
      rw [this]
    rw [this] at hq
    simpa using hq
  · right
    obtain ⟨x, hx, hk, hv⟩ := entry_of hp (mem_left he).1
    have hr1 : w1.heap[r]? = some (.mapIter (some b) clock seen clock) := by rcases hal with rfl | rfl <;> exact hr
    have hb1 : w1.heap[b]? = some (.map es clock) := by rcases hal with rfl | rfl <;> exact hb
    have hs1 : w1.heap.size = w.heap.size := by rcases hal with rfl | rfl <;> rfl
    have hrw : (setBlock w1 r (.mapIter (some b) clock (seen.push e.born) clock)).heap[r]? = some (.mapIter (some b) clock (seen.push e.born) clock) := set_heap_at _ (lt_of_heap hr1)
    have hbw : (setBlock w1 r (.mapIter (some b) clock (seen.push e.born) clock)).heap[b]? = some (.map es clock) := (set_heap_other _ (fun e => hne e.symm)).trans hb1
    have hen := run_entry_at (P := Tryz.prog) _ r b clock seen es clock e hrw hbw (mem_left he).1 h2
    rw [hk, hv] at hrun hen
    have hlp := left_push h2 he
    refine ⟨x, _, (leftOf es (seen.push e.born)).size, hrun, hen, ⟨es, clock, seen.push e.born, hbw, hrw, h1, h2, hp, rfl, ?_⟩, by rw [← hc]; exact left_shrinks es seen e he, ?_, by rw [set_size]; exact hs1⟩
    · refine List.Perm.trans ?_ hq
      rw [List.map_append, List.append_assoc]
      refine List.Perm.append_left _ ?_
      have := (hlp.map fun e => (e.key, e.val)).symm
      rw [List.map_cons, hk, hv] at this
      exact this
    · rcases hal with rfl | rfl <;> exact ⟨rfl, rfl, rfl, by simp [setBlock], fun i _ hi => set_heap_other _ (fun e1 => hi (by rw [e1]))⟩

theorem xs_len {w : World} {b r : Nat} {l xs : List EnD} {cnt : Nat} (h : Rng w b r l xs cnt) : xs.length + cnt = l.length := by
  obtain ⟨es, clock, seen, hb, hr, h1, h2, hp, hc, hq⟩ := h
  have := hq.length_eq
  simp at this
  omega

/-! ### Behind the sort -/
open Go.Sort Go.Lib

/-- A row of coins of the call's own, as the sort has it. -/
theorem own_holds {w : World} {base cap g : Nat} {e : TypeId} {xs : List EnD} (h : w.ownsRow base e 5 (.slice (some ⟨g, 0, none⟩) xs.length cap) xs.length (cellsE xs)) : HoldsK encE 5 w g 0 xs.toArray := by
  intro j hj
  simp at hj
  rw [get_flatK _ _ _ _ (by simpa using hj)]
  have hk : j / 5 < xs.length := by omega
  have hx : xs[j / 5]? = some xs[j / 5] := List.getElem?_eq_getElem hk
  have hc := cellsE_get hx (i := j % 5) (Nat.mod_lt _ (by omega))
  have e1 : (encE xs[j / 5])[j % 5]? = some (encE xs[j / 5])[j % 5]! := by
    have : j % 5 < (encE xs[j / 5]).length := Nat.mod_lt _ (by show 0 < 5; omega)
    rw [List.getElem?_eq_getElem this]
    simp [this]
  rw [show j / 5 * 5 + j % 5 = j from by omega, e1] at hc
  have h2 := h.cells (g := g) rfl j _ hc
  simp only [Addr.add_lit] at h2
  constructor
  · simpa [hk] using h2
  · rcases h.2 with ⟨h0, _⟩ | ⟨g', cap', cur, hv, _, hg, _⟩
    · cases h0
    · cases hv
      exact Lib.frozen_of_heap hg _
theorem holds_at {w : World} {g : Nat} {d : Array EnD} (h : HoldsK encE 5 w g 0 d) {k : Nat} {x : EnD} (hx : d.toList[k]? = some x) : EntAt w g (0 + k * 5) x := by
  have hk : k < d.size := by have := (List.getElem?_eq_some_iff.1 hx).1; simpa using this
  have hd : d[k]! = x := by
    have := (List.getElem?_eq_some_iff.1 hx).2
    simp [hk]
    simpa using this
  have q : ∀ i, i < 5 → w.cell? ⟨g, k * 5 + i, none⟩ = some (encE x)[i]! := fun i hi => by
    have := (h (k * 5 + i) (by rw [size_flatK]; omega)).1
    rw [get_flatK _ _ _ _ (by omega), show (k * 5 + i) / 5 = k from by omega, show (k * 5 + i) % 5 = i from by omega, hd] at this
    simpa using this
  unfold EntAt
  rw [Nat.zero_add]
  exact ⟨q 0 (by omega), q 1 (by omega), q 2 (by omega), q 3 (by omega), q 4 (by omega)⟩
theorem sort_below {w : World} {B g n : Nat} {d : Array EnD} {os : Array Obj} (hg : B ≤ g) (hB : B ≤ w.heap.size) : Below B w (sortWorldK encE 5 w g 0 n d os) := by
  refine ⟨rfl, rfl, rfl, ?_, fun k hk => ?_⟩
  · exact size_sortWorldK_c encE 5 w g 0 n d os
  · unfold sortWorldK putRowK
    rw [heap_grow_old _ _ (by simp [Sort.ahead]; omega)]
    have : g ≠ k := by omega
    simp [putRow, mapBlock, Sort.ahead, Array.getElem?_modify, this]

end Go.Proofs.YtnmfjnfdnjjngaaGreatDoor.Co
