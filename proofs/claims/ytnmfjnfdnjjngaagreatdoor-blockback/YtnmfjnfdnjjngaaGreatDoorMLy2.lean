/-
  The sort by the order of layer 12's entries.
  The sort of no entries.
  What was changed, gathered spot by spot: the lists behind the program's changed.
  What a block changed so far: the program's changed.
-/
import Derived.Test.YtnmfjnfdnjjngaaGreatDoorMLay
import Derived.Test.YtnmfjnfdnjjngaaGreatDoorMAll
import Derived.Test.YtnmfjnfdnjjngaaGreatDoorMWks

namespace Go.Proofs.YtnmfjnfdnjjngaaGreatDoor.Co
open Go.RowKit Go.Shelf Go.Lib Go.Sort
set_option maxRecDepth 100000

set_option maxHeartbeats 1000000 in
theorem compare2_any (x y : EnD) (W : World) : Calls Tryz.prog 62 #[.agg (encE x).toArray, .agg (encE y).toArray] W fun e w' => e = .returned (.int .i64 (cfE x y)) ∧ ∃ q os', w' = grow (W.drewN q) os' := by
  obtain ⟨xi, xx, xv, xs, xt⟩ := x
  obtain ⟨yi, yx, yv, ys, yt⟩ := y
  show Calls Tryz.prog 62 #[.agg #[.string xi, .int .u32 xx, .int .i64 xv, .string xs, .int .i64 xt], .agg #[.string yi, .int .u32 yx, .int .i64 yv, .string ys, .int .i64 yt]] W _
  have L1 := Lib.hid (fun V => less_any xi xx yi yx V)
  have L2 := Lib.hid (fun V => less_any yi yx xi xx V)
  have CF : Hid (cfE ⟨xi, xx, xv, xs, xt⟩ ⟨yi, yx, yv, ys, yt⟩ = if lessB xi xx yi yx = true then -1 else if lessB yi yx xi xx = true then 1 else 0) := Lib.hid rfl
  cases h1 : lessB xi xx yi yx with
  | true =>
    rw [h1] at L1 CF
    clear h1
    go_enter Tryz.func62, Tryz.ntmps62
    go_wp2_with fail
    refine (L1.out _).mono ?_
    rintro e w1 ⟨rfl, rfl⟩
    go_wp2_with fail
    go_ret
    exact ⟨ret_int (by rw [CF.out]; rfl), 0, _, by rw [alloc_eq_grow, alloc_eq_grow, alloc_eq_grow, alloc_eq_grow, grow_grow, grow_grow, grow_grow]; rfl⟩
  | false =>
    rw [h1] at L1 CF
    clear h1
    cases h2 : lessB yi yx xi xx with
    | true =>
      rw [h2] at L2 CF
      clear h2
      go_enter Tryz.func62, Tryz.ntmps62
      go_wp2_with fail
      refine (L1.out _).mono ?_
      rintro e w1 ⟨rfl, rfl⟩
      go_wp2_with fail
      refine (L2.out _).mono ?_
      rintro e w1 ⟨rfl, rfl⟩
      go_wp2_with fail
      go_ret
      exact ⟨ret_int (by rw [CF.out]; rfl), 0, _, by rw [alloc_eq_grow, alloc_eq_grow, alloc_eq_grow, alloc_eq_grow, alloc_eq_grow, alloc_eq_grow, grow_grow, grow_grow, grow_grow, grow_grow, grow_grow]; rfl⟩
    | false =>
      rw [h2] at L2 CF
      clear h2
      go_enter Tryz.func62, Tryz.ntmps62
      go_wp2_with fail
      refine (L1.out _).mono ?_
      rintro e w1 ⟨rfl, rfl⟩
      go_wp2_with fail
      refine (L2.out _).mono ?_
      rintro e w1 ⟨rfl, rfl⟩
      go_wp2_with fail
      go_ret
      exact ⟨ret_int (by rw [CF.out]; rfl), 0, _, by rw [alloc_eq_grow, alloc_eq_grow, alloc_eq_grow, alloc_eq_grow, alloc_eq_grow, alloc_eq_grow, grow_grow, grow_grow, grow_grow, grow_grow, grow_grow]; rfl⟩

theorem cmpLays2 (blk off size : Nat) (w : World) : CmpLays Tryz.prog 62 #[] encE 5 cfE blk off size w := fun _ _ _ _ x y => compare2_any x y _
theorem eg62 : ∀ args w, (callFunc 62 args).run Tryz.prog w = .ok (.enter 62 args) w := enters_of Tryz.func62 (by kernel_rfl) rfl

/-- The sort. -/
theorem sort2_any (blk off cap : Nat) (d : Array EnD) (w : World) (hH : HoldsK encE 5 w blk off d) (hblk : blk < w.heap.size) (hsz : d.size < 4611686018427387904) :
    Calls Tryz.prog 45 #[.slice (some ⟨blk, off, none⟩) d.size cap, .func (.func 62) #[] #[]] w fun e w' => e = .returned (.tuple #[]) ∧ ∃ d' n os, PermIn 0 d.size d d' ∧ SortedIn (ltOf cfE) 0 d.size d' ∧ w' = sortWorldK encE 5 w blk off n d' os :=
  AnyQ.slices_SortFunc sortL 5 Tryz.isAgg66 Tryz.sizeOf66 encE encE_len encE_one cfE swoE 62 #[] blk off cap d w eg62 (cmpLays2 blk off d.size w) hH hblk hsz

end Go.Proofs.YtnmfjnfdnjjngaaGreatDoor.Co

namespace Go.Proofs.YtnmfjnfdnjjngaaGreatDoor.Co
open Go.RowKit Go.Shelf Go.Lib Go.Sort
set_option maxRecDepth 100000

theorem len_nil (w : World) : Calls Tryz.prog 71 #[.int .u64 0] w fun e w' => e = .returned (.int .i64 0) ∧ w' = w := by
  have h := Any.bits_Len (SlLaysF0.n15.bits (P := Tryz.prog) (ρ := sortL_ren) { sortL with }) 0 w (by omega) (by omega)
  exact h
theorem eg90 : ∀ args w, (callFunc 90 args).run Tryz.prog w = .ok (.enter 90 args) w := enters_of Tryz.func90 (by kernel_rfl) rfl
theorem eg70 : ∀ args w, (callFunc 70 args).run Tryz.prog w = .ok (.enter 70 args) w := enters_of Tryz.func70 (by kernel_rfl) rfl
theorem eg71 : ∀ args w, (callFunc 71 args).run Tryz.prog w = .ok (.enter 71 args) w := enters_of Tryz.func71 (by kernel_rfl) rfl
theorem ins_nil (w : World) : Calls Tryz.prog 90 #[.slice none 0 0, .int .i64 0, .int .i64 0, .func (.func 62) #[] #[]] w fun e w' => e = .returned (.tuple #[]) ∧ w' = w := by
  go_enter Tryz.func90, Tryz.ntmps90
  go_wp2
  refine wp_loop_rounds 1 ?_
  rw [rounds_succ]
  go_wp2
  go_end0
  exact ⟨rfl, rfl⟩
set_option maxHeartbeats 1000000 in
theorem pdq_nil (w : World) : Calls Tryz.prog 70 #[.slice none 0 0, .int .i64 0, .int .i64 0, .int .i64 0, .func (.func 62) #[] #[]] w fun e w' => e = .returned (.tuple #[]) ∧ w' = w := by
  go_enter Tryz.func70, Tryz.ntmps70
  go_wp2_with fail
  refine wp_loop_rounds 1 ?_
  rw [rounds_succ]
  go_wp2_with fail
  refine (ins_nil w).mono ?_
  rintro e w' ⟨rfl, rfl⟩
  go_wp2_with fail
  (try simp only [Exit.inBlock, Exit.then])
  refine bodyPost_ret (results_none rfl _ _ _) rfl ?_
  exact ⟨rfl, rfl⟩
theorem sort_nil (w : World) : Calls Tryz.prog 45 #[.slice none 0 0, .func (.func 62) #[] #[]] w fun e w' => e = .returned (.tuple #[]) ∧ w' = w := by
  go_enter Tryz.func45, Tryz.ntmps45
  go_wp2_with fail
  refine (len_nil w).mono ?_
  rintro e w' ⟨rfl, rfl⟩
  go_wp2_with fail
  refine (pdq_nil _).mono ?_
  rintro e w' ⟨rfl, rfl⟩
  go_wp2_with fail
  go_end0
  exact ⟨rfl, rfl⟩

end Go.Proofs.YtnmfjnfdnjjngaaGreatDoor.Co

namespace Go.Proofs.YtnmfjnfdnjjngaaGreatDoor
open Go.RowKit
set_option maxRecDepth 100000

namespace Co
def toP (s : SpotD) : PtD := ⟨s.id, s.ix⟩
theorem toP_spots (l0 : List EnD) (A : List PtD) : (A.map (spot l0)).map toP = A := by
  rw [List.map_map]
  exact List.map_id'' (fun _ => rfl) A
theorem chg_snoc (l0 l : List EnD) (ps : List PtD) (p : PtD) : chgL l0 l (ps ++ [p]) = chgL l0 l ps ++ if (!eqP l0 l p && hasB l0 p.id p.ix) = true then [atE l0 p.id p.ix] else [] := by
  unfold chgL
  rw [List.filter_append, List.map_append]
  congr 1
  cases hh : (!eqP l0 l p && hasB l0 p.id p.ix) with
  | true => simp [hh]
  | false => simp [hh]
theorem chg_append (l0 l : List EnD) (ps qs : List PtD) : chgL l0 l (ps ++ qs) = chgL l0 l ps ++ chgL l0 l qs := by
  unfold chgL
  rw [List.filter_append, List.map_append]
theorem SRng.rest {w : World} {b r : Nat} {l xs : List SpotD} {cnt : Nat} (h : SRng w b r l xs cnt) : ∃ ys, (xs ++ ys).Perm l := by
  obtain ⟨es, clock, seen, _, _, _, _, _, _, hq⟩ := h
  refine ⟨((leftOf es seen).toList.map fun e => (e.key, e.val)).map decS, ?_⟩
  have := hq.map decS
  rw [List.map_append, List.map_map, List.map_map (l := l)] at this
  have e : ∀ m : List SpotD, m.map (decS ∘ fun x => (sk x, sw x)) = m := fun m => List.map_id'' (fun _ => rfl) m
  rwa [e, e] at this
theorem chg_len {l0 l : List EnD} (h0 : Srt l0) (hl : Srt l) {A ps qs : List PtD} (hk : Kep l0 l A) (hp : (ps ++ qs).Perm A) : (chgL l0 l ps).length ≤ l0.length ∧ (chgL l l0 ps).length ≤ l.length := by
  have h1 := (chg_perm h0 hl hk hp).length_eq
  have h2 := (chg_perm' h0 hl hk hp).length_eq
  rw [chg_append, List.length_append] at h1 h2
  have := less_len l0 l
  have := less_len l l0
  exact ⟨by omega, by omega⟩
end Co

theorem own_keepv {w w' : World} {base : Nat} {e : TypeId} {size : Nat} {v : Value} {n : Nat} {xs : List Value} (h : w.ownsRow base e size v n xs) (hk : ∀ g, v.ownBlock = some g → w'.heap[g]? = w.heap[g]?) : w'.ownsRow base e size v n xs := by
  refine ⟨h.1, ?_⟩
  rcases h.2 with h2 | ⟨g, cap, cur, rfl, hb, hh, r⟩
  · exact .inl h2
  · exact .inr ⟨g, cap, cur, rfl, hb, (hk g rfl).trans hh, r⟩
theorem own_at {w : World} {base : Nat} {e : TypeId} {size : Nat} {v : Value} {n : Nat} {xs : List Value} (h : w.ownsRow base e size v n xs) {g : Nat} (hg : v.ownBlock = some g) : base ≤ g ∧ g < w.heap.size := by
  rcases h.2 with ⟨rfl, _⟩ | ⟨g', cap, cur, rfl, hb, hh, _⟩
  · simp [Value.ownBlock] at hg
  · simp [Value.ownBlock] at hg
    subst hg
    exact ⟨hb, Co.lt_of_heap hh⟩

/-- What was gathered so far: two rows of the call's own, told by the block ub; the range goes on. -/
structure ChS (w : World) (base ub r c : Nat) (ss xs : List Co.SpotD) (cnt : Nat) (S M : List Co.EnD) (vs vm : Value) (V : World) : Prop where
  rng : Co.SRng V c r ss xs cnt
  blk : V.heap[ub]? = some (.cells #[vs, vm] 31 (0, 0))
  os : V.ownsRow base 66 5 vs S.length (Co.cellsE S)
  om : V.ownsRow base 66 5 vm M.length (Co.cellsE M)
  dis : ∀ g, vs.ownBlock = some g → vm.ownBlock ≠ some g
  bel : Below w.heap.size w V
  size : base ≤ V.heap.size
/-- How the blocks lie. -/
structure ChL (w : World) (base ub r c : Nat) : Prop where
  h1 : w.heap.size ≤ ub
  h2 : ub < base
  h3 : r < base
  h4 : c < base
  h5 : r ≠ ub
  h6 : c ≠ ub
theorem ChS.keep {w : World} {base ub r c : Nat} {ss xs : List Co.SpotD} {cnt : Nat} {S M : List Co.EnD} {vs vm : Value} {V V' : World} (h : ChS w base ub r c ss xs cnt S M vs vm V) (hl : ChL w base ub r c) (hb : Below V.heap.size V V') : ChS w base ub r c ss xs cnt S M vs vm V' := by
  have hz := h.size
  obtain ⟨l1, l2, l3, l4, _, _⟩ := hl
  exact ⟨h.rng.keep (hb.block c (by omega)) (hb.block r (by omega)), (hb.block ub (by omega)).trans h.blk, own_keepv h.os (fun g hg => hb.block g (own_at h.os hg).2), own_keepv h.om (fun g hg => hb.block g (own_at h.om hg).2), h.dis,
    h.bel.trans (hb.mono h.bel.size), Nat.le_trans hz hb.size⟩
/-- The range has gone a step. -/
theorem ChS.next {w : World} {base ub r c : Nat} {ss xs xs' : List Co.SpotD} {cnt cnt' : Nat} {S M : List Co.EnD} {vs vm : Value} {V V' : World} (h : ChS w base ub r c ss xs cnt S M vs vm V) (hl : ChL w base ub r c) (hr : Co.SRng V' c r ss xs' cnt') (hw : w.heap.size ≤ r) (hg : V.grownBy V' (some r)) : ChS w base ub r c ss xs' cnt' S M vs vm V' := by
  have hz := h.size
  obtain ⟨l1, l2, l3, l4, l5, l6⟩ := hl
  exact ⟨hr, (hg.block ub (by omega) (by simp; omega)).trans h.blk, own_keepv h.os (fun g hgg => hg.block g (own_at h.os hgg).2 (by have := (own_at h.os hgg).1; simp; omega)), own_keepv h.om (fun g hgg => hg.block g (own_at h.om hgg).2 (by have := (own_at h.om hgg).1; simp; omega)), h.dis,
    h.bel.grown hg h.bel.size (fun k hk => by injection hk with hk; omega), Nat.le_trans hz hg.size⟩
/-- One coin more in Spent. -/
theorem ChS.spent {w : World} {base ub r c : Nat} {ss xs : List Co.SpotD} {cnt : Nat} {S M : List Co.EnD} {vs vm : Value} {V w9 : World} {o : Obj} {x : Co.EnD} {g cap m : Nat} (h : ChS w base ub r c ss xs cnt S M vs vm V) (hl : ChL w base ub r c) (hm : m = S.length)
    (hg : (V.alloc o).grownBy w9 vs.ownBlock) (hown : w9.ownsRow base 66 5 (.slice (some ⟨g, 0, none⟩) (m + 1) cap) (m + 1) (Co.cellsE S ++ Co.encE x)) (hat : vs.ownBlock = some g ∨ g = (V.alloc o).heap.size) (hlt : g < w9.heap.size) :
    ChS w base ub r c ss xs cnt (S ++ [x]) M (.slice (some ⟨g, 0, none⟩) (m + 1) cap) vm (w9.setCell ⟨ub, 0, none⟩ (.slice (some ⟨g, 0, none⟩) (m + 1) cap)) := by
  subst hm
  have hz := h.size
  obtain ⟨l1, l2, l3, l4, l5, l6⟩ := hl
  have hbk : ∀ k, k < V.heap.size → vs.ownBlock ≠ some k → w9.heap[k]? = V.heap[k]? := fun k hk hn => (hg.block k (by simp; omega) (fun e => hn e.symm)).trans (Below.heap_alloc _ _ _ hk)
  have nb : ∀ k, k < base → vs.ownBlock ≠ some k := fun k hk e => by have := (own_at h.os e).1; omega
  have hset : ∀ k, k ≠ ub → (w9.setCell ⟨ub, 0, none⟩ (.slice (some ⟨g, 0, none⟩) (S.length + 1) cap)).heap[k]? = w9.heap[k]? := fun k hk => Below.heap_setCell _ _ _ _ hk
  have hu := (hbk ub (by omega) (nb ub l2)).trans h.blk
  have gb : base ≤ g := by
    rcases hat with e | e
    · exact (own_at h.os e).1
    · rw [e]; simp; omega
  refine ⟨h.rng.keep ((hset c l6).trans (hbk c (by omega) (nb c l4))) ((hset r l5).trans (hbk r (by omega) (nb r l3))), ?_, ?_, ?_, ?_, ?_, ?_⟩
  · simp [World.setCell, hu, Array.getElem?_modify]
  · rw [List.length_append, Co.cellsE_snoc]
    exact own_keepv hown (fun k hk => hset k (by simp [Value.ownBlock] at hk; omega))
  · refine own_keepv h.om (fun k hk => ?_)
    obtain ⟨q1, q2⟩ := own_at h.om hk
    exact (hset k (by omega)).trans (hbk k q2 (fun e => h.dis k e hk))
  · intro k hk e
    simp [Value.ownBlock] at hk
    subst hk
    rcases hat with e2 | e2
    · exact h.dis g e2 e
    · have := (own_at h.om e).2
      simp at e2
      omega
  · exact ((h.bel.alloc h.bel.size o).grown hg (by have := h.bel.size; simp; omega) (fun k hk => by have := (own_at h.os hk).1; omega)).setCell (p := ⟨ub, 0, none⟩) l1 _
  · have := hg.size
    simp at this
    rw [World.size_setCell]
    omega
/-- One coin more in Made. -/
theorem ChS.made {w : World} {base ub r c : Nat} {ss xs : List Co.SpotD} {cnt : Nat} {S M : List Co.EnD} {vs vm : Value} {V w9 : World} {o : Obj} {x : Co.EnD} {g cap m : Nat} (h : ChS w base ub r c ss xs cnt S M vs vm V) (hl : ChL w base ub r c) (hm : m = M.length)
    (hg : (V.alloc o).grownBy w9 vm.ownBlock) (hown : w9.ownsRow base 66 5 (.slice (some ⟨g, 0, none⟩) (m + 1) cap) (m + 1) (Co.cellsE M ++ Co.encE x)) (hat : vm.ownBlock = some g ∨ g = (V.alloc o).heap.size) (hlt : g < w9.heap.size) :
    ChS w base ub r c ss xs cnt S (M ++ [x]) vs (.slice (some ⟨g, 0, none⟩) (m + 1) cap) (w9.setCell ⟨ub, 1, none⟩ (.slice (some ⟨g, 0, none⟩) (m + 1) cap)) := by
  subst hm
  have hz := h.size
  obtain ⟨l1, l2, l3, l4, l5, l6⟩ := hl
  have hbk : ∀ k, k < V.heap.size → vm.ownBlock ≠ some k → w9.heap[k]? = V.heap[k]? := fun k hk hn => (hg.block k (by simp; omega) (fun e => hn e.symm)).trans (Below.heap_alloc _ _ _ hk)
  have nb : ∀ k, k < base → vm.ownBlock ≠ some k := fun k hk e => by have := (own_at h.om e).1; omega
  have hset : ∀ k, k ≠ ub → (w9.setCell ⟨ub, 1, none⟩ (.slice (some ⟨g, 0, none⟩) (M.length + 1) cap)).heap[k]? = w9.heap[k]? := fun k hk => Below.heap_setCell _ _ _ _ hk
  have hu := (hbk ub (by omega) (nb ub l2)).trans h.blk
  have gb : base ≤ g := by
    rcases hat with e | e
    · exact (own_at h.om e).1
    · rw [e]; simp; omega
  refine ⟨h.rng.keep ((hset c l6).trans (hbk c (by omega) (nb c l4))) ((hset r l5).trans (hbk r (by omega) (nb r l3))), ?_, ?_, ?_, ?_, ?_, ?_⟩
  · simp [World.setCell, hu, Array.getElem?_modify]
  · refine own_keepv h.os (fun k hk => ?_)
    obtain ⟨q1, q2⟩ := own_at h.os hk
    exact (hset k (by omega)).trans (hbk k q2 (fun e => h.dis k hk e))
  · rw [List.length_append, Co.cellsE_snoc]
    exact own_keepv hown (fun k hk => hset k (by simp [Value.ownBlock] at hk; omega))
  · intro k hk e
    simp [Value.ownBlock] at e
    subst e
    rcases hat with e2 | e2
    · exact h.dis g hk e2
    · have := (own_at h.os hk).2
      simp at e2
      omega
  · exact ((h.bel.alloc h.bel.size o).grown hg (by have := h.bel.size; simp; omega) (fun k hk => by have := (own_at h.om hk).1; omega)).setCell (p := ⟨ub, 1, none⟩) l1 _
  · have := hg.size
    simp at this
    rw [World.size_setCell]
    omega

end Go.Proofs.YtnmfjnfdnjjngaaGreatDoor

namespace Go.Proofs.YtnmfjnfdnjjngaaGreatDoor
open Go.RowKit Go.Sort Go.Lib
set_option maxRecDepth 100000

theorem sort_grown {w : World} {g n : Nat} {d : Array Co.EnD} {os : Array Obj} : w.grownBy (sortWorldK Co.encE 5 w g 0 n d os) (some g) := by
  refine ⟨rfl, rfl, rfl, size_sortWorldK_c Co.encE 5 w g 0 n d os, fun k hk hn => ?_⟩
  unfold sortWorldK putRowK
  rw [heap_grow_old _ _ (by simp [Sort.ahead]; omega)]
  have : g ≠ k := fun e => hn (by rw [e])
  simp [putRow, mapBlock, Sort.ahead, Array.getElem?_modify, this]
/-- A row of the call's own, sorted: the list in order. -/
theorem sort_own {V : World} {base : Nat} {v : Value} {S L : List Co.EnD} (hown : V.ownsRow base 66 5 v S.length (Co.cellsE S)) (hp : S.Perm L) (hl : Co.Srt L) (hn : S.length ≤ 1000000) :
    Calls Tryz.prog 45 #[v, .func (.func 62) #[] #[]] V fun e w' => e = .returned (.tuple #[]) ∧ (∃ lo hi, base ≤ lo ∧ hi ≤ w'.heap.size ∧ Co.Ents w' lo hi v L ∧ ∀ k, lo ≤ k → k < hi → v.ownBlock = some k) ∧ V.grownBy w' v.ownBlock := by
  have hle := hp.length_eq
  rcases hown.2 with ⟨rfl, h0⟩ | ⟨g, cap, cur, rfl, hb, hh, hc, hm, hs, ht⟩
  · have : L = [] := List.eq_nil_of_length_eq_zero (by omega)
    subst this
    refine (Co.sort_nil V).mono ?_
    rintro e w' ⟨rfl, rfl⟩
    exact ⟨rfl, ⟨base, 0, Nat.le_refl _, Nat.zero_le _, Co.Ents.nil _ _ _, fun _ _ h => absurd h (Nat.not_lt_zero _)⟩, World.grownBy.refl _ _⟩
  · have hg := Co.lt_of_heap hh
    have h := Co.sort2_any g 0 cap S.toArray V (Co.own_holds hown) hg (by simp; omega)
    simp only [List.size_toArray] at h
    refine h.mono ?_
    rintro e w' ⟨rfl, d', nn, os, q1, q2, rfl⟩
    have hd := Co.sorted_is (l := L) hl (d := S.toArray) (d' := d') (by simpa using hp) (by simpa using q1) (by simpa using q2)
    have hs' : d'.size = S.toArray.size := by have := q1.1; simpa using this
    have hh := holdsK_sortWorldK_c Co.encE 5 V g 0 S.toArray d' nn os (Co.own_holds hown) hg hs'
    have hsz := size_sortWorldK_c Co.encE 5 V g 0 nn d' os
    refine ⟨rfl, ⟨g, g + 1, hb, by omega, ⟨_, cap, by rw [hle], by rw [← hle]; exact hc, .inr ⟨g, 0, rfl, Nat.le_refl _, by omega, fun k x hx => ?_⟩⟩, fun k h1 h2 => by simp [Value.ownBlock]; omega⟩, sort_grown⟩
    exact Co.holds_at hh (by rw [hd]; exact hx)

theorem slice_form {w : World} {base : Nat} {e : TypeId} {size n : Nat} {v : Value} {xs : List Value} (h : w.ownsRow base e size v n xs) : ∃ A c, v = .slice A n c := by
  rcases h.2 with ⟨rfl, rfl⟩ | ⟨g, cap, cur, rfl, _⟩
  · exact ⟨none, 0, rfl⟩
  · exact ⟨_, cap, rfl⟩

/-- What the walk knows behind a look: three boxes. -/
structure Bx3 (p : Co.PtD) (pv : Int) (ps : ByteArray) (pt : Int) (pq : Bool) (iv : Int) (is : ByteArray) (it : Int) (iq : Bool) (n1 n2 n3 : Nat) (V : World) : Prop where
  p : V.heap[n1]? = some (.cells #[.string p.id, .int .u32 p.ix] 60 (0, 0))
  was : V.heap[n2]? = some (.cells #[.int .i64 pv, .string ps, .int .i64 pt, .bool pq] 135 (0, 0))
  now : V.heap[n3]? = some (.cells #[.int .i64 iv, .string is, .int .i64 it, .bool iq] 135 (0, 0))

def ChgEnd (l0 l : List Co.EnD) (w : World) (e : Ending) (w' : World) : Prop :=
  ∃ vs vm, e = .returned (.agg #[vs, vm]) ∧ Co.Ents w' w.heap.size w'.heap.size vs (Co.lessL l0 l) ∧ Co.Ents w' w.heap.size w'.heap.size vm (Co.lessL l l0) ∧ Below w.heap.size w w'

set_option maxHeartbeats 8000000 in
theorem changed_any (g a b c : Nat) (h : Int) (l0 l : List Co.EnD) (A : List Co.PtD) (w : World) (k : Wk w g a b c h l0 l A) (hg0 : Co.Srt l0) (hn0 : l0.length ≤ 900) (hn : l.length ≤ 900) :
    Calls Tryz.prog 34 #[.pointer (some ⟨g, 0, none⟩)] w (ChgEnd l0 l w) := by
  obtain ⟨w0, hw0⟩ : ∃ w0, w0 = (w.alloc (.cells #[.slice none 0 0, .slice none 0 0] 31)).alloc (.cells #[.slice none 0 0, .slice none 0 0] 31) := ⟨_, rfl⟩
  have z0 : w0.heap.size = w.heap.size + 2 := by rw [hw0]; simp
  have hb0 : Below w.heap.size w w0 := by rw [hw0]; exact ((Below.refl _ _).alloc (Nat.le_refl _) _).alloc (by simp) _
  have hr0 : w0.heap[w.heap.size]? = some (.cells #[.slice none 0 0, .slice none 0 0] 31 (0, 0)) := by rw [hw0, Below.heap_alloc _ _ _ (by simp)]; exact heap_alloc_new _ _
  have hu0 : w0.heap[w.heap.size + 1]? = some (.cells #[.slice none 0 0, .slice none 0 0] 31 (0, 0)) := by
    rw [hw0, show w.heap.size + 1 = (w.alloc (.cells #[.slice none 0 0, .slice none 0 0] 31)).heap.size from by simp]; exact heap_alloc_new _ _
  have k0 := k.below hb0 (Nat.le_refl _)
  have c2 := k0.c2
  obtain ⟨w1, hrg, R1, hb1, z1⟩ := k0.map.range
  have lc := k.map.lt
  have lg := k.ltg
  have rg0 : (Instr.range 87 (.map (some c))).run Tryz.prog w0 = .ok (.pointer (some ⟨w0.heap.size, 0, none⟩)) w1 := hrg
  obtain ⟨base, hbase⟩ : ∃ x, x = w.heap.size + 3 := ⟨_, rfl⟩
  have B1 := Lib.hid (below_next hb0 (by omega) hb1)
  have K := Lib.hid k
  have K1 := Lib.hid (k0.below hb1 (Nat.le_refl _))
  have HL := Lib.hid (show ChL w base (w.heap.size + 1) w0.heap.size c from ⟨by omega, by omega, by omega, by omega, by omega, by omega⟩)
  have CH := Lib.hid (show ChS w base (w.heap.size + 1) w0.heap.size c (A.map (Co.spot l0)) [] (A.map (Co.spot l0)).length [] [] (.slice none 0 0) (.slice none 0 0) w1 from
    ⟨R1, (hb1.block _ (by omega)).trans hu0, World.ownsRow_nil _ _ _ _, World.ownsRow_nil _ _ _ _, fun _ h => by simp [Value.ownBlock] at h, B1.out, by omega⟩)
  have RB := Lib.hid (show w1.heap[w.heap.size]? = some (.cells #[.slice none 0 0, .slice none 0 0] 31 (0, 0)) from (hb1.block _ (by omega)).trans hr0)
  have G0 := Lib.hid hg0
  have HW0 := Lib.hid hw0
  obtain ⟨r, hr⟩ : ∃ r, w0.heap.size = r := ⟨_, rfl⟩
  rw [hr] at rg0 HL CH
  obtain rfl : r = w.heap.size + 2 := by omega
  obtain ⟨i0, hi, y0, y1, y2⟩ := Co.info_parts' Co.info55
  have NN := Lib.hid (And.intro hn0 hn)
  clear hw0 hb0 hr0 hu0 k0 hrg R1 hb1 k hg0 z0 hr
  go_enter Tryz.func34, Tryz.ntmps34
  go_upto_region 2 with (fail)
  rw [show World.alloc (World.alloc w _) _ = w0 from HW0.out.symm]
  go_wp2_with fail
  go_loopg [] (A.map (Co.spot l0)).length (fun gg wr => ∃ (xs : List Co.SpotD) (cnt : Nat) (vs vm : Value), cnt ≤ gg ∧ Hid (ChS w base (w.heap.size + 1) (w.heap.size + 2) c (A.map (Co.spot l0)) xs cnt (Co.chgL l0 l (xs.map Co.toP)) (Co.chgL l l0 (xs.map Co.toP)) vs vm wr) ∧ Hid (wr.heap[w.heap.size]? = some (.cells #[.slice none 0 0, .slice none 0 0] 31 (0, 0))))
  case atStart => exact ⟨[], _, _, _, Nat.le_refl _, CH, RB⟩
  case round =>
    obtain ⟨xs, cnt, vs, vm, h1, HC, HB⟩ := hrel
    have lw := HC.out.size
    obtain ⟨rest, hrest⟩ := HC.out.rng.rest
    have hpp := hrest.map Co.toP
    rw [List.map_append, Co.toP_spots] at hpp
    obtain ⟨ls, lm⟩ := Co.chg_len G0.out K.out.set.good.srt K.out.kep hpp
    have LS := Lib.hid (And.intro ls lm)
    clear hrest hpp ls lm
    rcases HC.out.rng.next with ⟨hnx, hperm⟩ | ⟨x, wn, cnt', hnx, hen, R', hlt, hg, hsz, hxm⟩
    · have hp := hperm.map Co.toP
      rw [Co.toP_spots] at hp
      have PS := Lib.hid (Co.chg_perm G0.out K.out.set.good.srt K.out.kep hp)
      have PM := Lib.hid (Co.chg_perm' G0.out K.out.set.good.srt K.out.kep hp)
      obtain ⟨As, cs, rfl⟩ := slice_form HC.out.os
      obtain ⟨Am, cm, rfl⟩ := slice_form HC.out.om
      have SC := Lib.hid (sort_own HC.out.os PS.out (Co.less_srt G0.out l) (by have := LS.out.1; have := NN.out.1; omega))
      have u0 : wr.cell? ⟨w.heap.size + 1, 0, none⟩ = some (.slice As (Co.chgL l0 l (xs.map Co.toP)).length cs) := Co.cell_in HC.out.blk rfl
      obtain ⟨ns, hns⟩ : ∃ n, (Co.chgL l0 l (xs.map Co.toP)).length = n := ⟨_, rfl⟩
      obtain ⟨nm, hnm⟩ : ∃ n, (Co.chgL l l0 (xs.map Co.toP)).length = n := ⟨_, rfl⟩
      rw [hns] at SC u0
      have HNS := Lib.hid (And.intro hns hnm)
      clear hp hperm hns hnm
      go_wp2_with fail
      refine SC.out.mono ?_
      rintro e w2 ⟨rfl, ⟨lo, hi2, q1, q2, q3, q4⟩, q5⟩
      have hl2 := HC.out.size
      have ub2 : w2.heap[w.heap.size + 1]? = some (.cells #[.slice As ns cs, .slice Am nm cm] 31 (0, 0)) := by
        have h := (q5.block (w.heap.size + 1) (by omega) (fun e => by have := (own_at HC.out.os (by rw [HNS.out.1]; exact e.symm)).1; omega)).trans HC.out.blk
        rw [HNS.out.1, HNS.out.2] at h
        exact h
      have OM2 : w2.ownsRow base 66 5 (.slice Am nm cm) nm (Co.cellsE (Co.chgL l l0 (xs.map Co.toP))) := by
        have h := own_keepv (w' := w2) HC.out.om (fun k hk => q5.block k (own_at HC.out.om hk).2 (fun e => HC.out.dis k (by rw [HNS.out.1]; exact e.symm) hk))
        rw [HNS.out.2] at h
        exact h
      have SM := Lib.hid (sort_own (by rw [HNS.out.2]; exact OM2) PM.out (Co.less_srt K.out.set.good.srt l0) (by have := LS.out.2; have := NN.out.2; omega))
      have u1 : w2.cell? ⟨w.heap.size + 1, 1, none⟩ = some (.slice Am nm cm) := Co.cell_in ub2 rfl
      have E1 := Lib.hid (And.intro q1 (And.intro q2 (And.intro q3 (And.intro q4 q5))))
      have OM := Lib.hid OM2
      have UB := Lib.hid ub2
      clear q1 q2 q3 q4 q5 u0 ub2 OM2 SC
      go_wp2_with fail
      refine SM.out.mono ?_
      rintro e w3 ⟨rfl, ⟨lm, hm2, p1, p2, p3, p4⟩, p5⟩
      obtain ⟨q1, q2, q3, q4, q5⟩ := E1.out
      have z2 := q5.size
      have z3 := p5.size
      have nom : ∀ k, k < base → (Value.slice Am nm cm).ownBlock ≠ some k := fun k hk e => by have := (own_at OM.out e).1; omega
      have nos : ∀ k, k < base → (Value.slice As ns cs).ownBlock ≠ some k := fun k hk e => by have := (own_at HC.out.os (by rw [HNS.out.1]; exact e)).1; omega
      have ub3 : w3.heap[w.heap.size + 1]? = some (.cells #[.slice As ns cs, .slice Am nm cm] 31 (0, 0)) := (p5.block _ (by omega) (fun e => nom _ (by omega) e.symm)).trans UB.out
      have v0 : w3.cell? ⟨w.heap.size + 1, 0, none⟩ = some (.slice As ns cs) := Co.cell_in ub3 rfl
      have v1 : w3.cell? ⟨w.heap.size + 1, 1, none⟩ = some (.slice Am nm cm) := Co.cell_in ub3 rfl
      have rb3 : w3.heap[w.heap.size]? = some (.cells #[.slice none 0 0, .slice none 0 0] 31 (0, 0)) :=
        (p5.block _ (by omega) (fun e => nom _ (by omega) e.symm)).trans ((q5.block _ (by omega) (fun e => nos _ (by omega) e.symm)).trans HB.out)
      have r0 : w3.cell? ⟨w.heap.size, 0, none⟩ = some (.slice none 0 0) := Co.cell_in rb3 rfl
      have r1 : w3.cell? ⟨w.heap.size, 1, none⟩ = some (.slice none 0 0) := Co.cell_in rb3 rfl
      have rf := fun o => Lib.frozen_of_heap rb3 o
      have B3 := Lib.hid (show Below w.heap.size w w3 from ((HC.out.bel).grown q5 (by omega) (fun k hk => by have := (own_at HC.out.os (by rw [HNS.out.1]; exact hk)).1; omega)).grown p5 (by omega) (fun k hk => by have := (own_at OM.out hk).1; omega))
      have ES := Lib.hid (show Co.Ents w3 lo hi2 (.slice As ns cs) (Co.lessL l0 l) from q3.keep (fun k h1 h2 => p5.block k (by omega) (fun e => HC.out.dis k (by rw [HNS.out.1]; exact q4 k h1 h2) (by rw [HNS.out.2]; exact e.symm))))
      have EM := Lib.hid p3
      have EE := Lib.hid (And.intro q1 (And.intro q2 (And.intro p1 (And.intro p2 (And.intro z2 z3)))))
      clear q1 q2 q3 q4 q5 p1 p2 p3 p4 p5 z2 z3 nom nos ub3 rb3 u1 SM E1
      go_wp2_with fail
      obtain ⟨W4, hW4⟩ : ∃ W4, W4 = (w3.setCell ⟨w.heap.size, 0, none⟩ (.slice As ns cs)).setCell ⟨w.heap.size, 1, none⟩ (.slice Am nm cm) := ⟨_, rfl⟩
      rw [← hW4]
      have t0 : W4.cell? ⟨w.heap.size, 0, none⟩ = some (.slice As ns cs) := by rw [hW4, World.cell?_setCell_other _ _ _ _ (by simp)]; exact World.cell?_setCell_same _ _ _ r0
      have t1 : W4.cell? ⟨w.heap.size, 1, none⟩ = some (.slice Am nm cm) := by rw [hW4]; exact World.cell?_setCell_same _ _ _ ((World.cell?_setCell_other _ _ _ _ (by simp)).trans r1)
      have hk4 : ∀ k, w.heap.size < k → W4.heap[k]? = w3.heap[k]? := fun k hk => by rw [hW4]; exact (Below.heap_setCell _ _ _ _ (by simp; omega)).trans (Below.heap_setCell _ _ _ _ (by simp; omega))
      have z4 : W4.heap.size = w3.heap.size := by rw [hW4, World.size_setCell, World.size_setCell]
      have B4 : Below w.heap.size w W4 := by rw [hW4]; exact (B3.out.setCell (p := ⟨w.heap.size, 0, none⟩) (Nat.le_refl _) _).setCell (p := ⟨w.heap.size, 1, none⟩) (Nat.le_refl _) _
      obtain ⟨q1, q2, p1, p2, z2, z3⟩ := EE.out
      refine bodyPost_end (v := .agg #[.slice As ns cs, .slice Am nm cm]) (by simp [results, Tryz.results34, go_sem, t0, t1]) rfl ?_
      exact ⟨_, _, rfl, (ES.out.keep (fun k h1 h2 => hk4 k (by omega))).wide (by omega) (by omega), (EM.out.keep (fun k h1 h2 => hk4 k (by omega))).wide (by omega) (by omega), B4⟩
    · obtain ⟨p, hpm, rfl⟩ := List.mem_map.1 hxm
      have CN := Lib.hid (HC.out.next HL.out R' (by omega) hg)
      have RN := Lib.hid ((hg.block w.heap.size (by omega) (by simp)).trans HB.out)
      have hok : Co.PtOk p.id p.ix := K.out.kep.ok p hpm
      have EQ0 : Co.eqP l0 l p = Co.spB (Co.atE l p.id p.ix).val (Co.atE l p.id p.ix).scr (Co.atE l p.id p.ix).ht (Co.hasB l p.id p.ix) (Co.atE l0 p.id p.ix).val (Co.atE l0 p.id p.ix).scr (Co.atE l0 p.id p.ix).ht (Co.hasB l0 p.id p.ix) := rfl
      have SS0 := (show Co.chgL l0 l ((xs ++ [Co.spot l0 p]).map Co.toP) = Co.chgL l0 l (xs.map Co.toP ++ [p]) from by rw [List.map_append]; rfl).trans (Co.chg_snoc l0 l (xs.map Co.toP) p)
      have MM0 := (show Co.chgL l l0 ((xs ++ [Co.spot l0 p]).map Co.toP) = Co.chgL l l0 (xs.map Co.toP ++ [p]) from by rw [List.map_append]; rfl).trans (Co.chg_snoc l l0 (xs.map Co.toP) p)
      rw [← Co.eqP_comm, EQ0] at MM0
      rw [EQ0] at SS0
      have Y0 := fun h => (Co.atE_mem (l := l0) (a := p.id) (i := p.ix) h).2
      have Z0 := fun h => (Co.atE_mem (l := l) (a := p.id) (i := p.ix) h).2
      have CL := Lib.hid (fun V (hV : Below w.heap.size w V) => look_any g a b l p.id p.ix V ((K.out.below hV (Nat.le_refl _)).c0) ((K.out.below hV (Nat.le_refl _)).set) hok)
      have hnx1 : (Instr.next (.pointer (some ⟨w.heap.size + 2, 0, none⟩)) false 0).run Tryz.prog wr = .ok (.tuple #[.bool true, .agg #[.string p.id, .int .u32 p.ix], .agg #[.int .i64 (Co.atE l0 p.id p.ix).val, .string (Co.atE l0 p.id p.ix).scr, .int .i64 (Co.atE l0 p.id p.ix).ht, .bool (Co.hasB l0 p.id p.ix)]]) wn := hnx
      have hen1 : (Instr.entry (.pointer (some ⟨w.heap.size + 2, 0, none⟩))).run Tryz.prog wn = .ok (.tuple #[.agg #[.string p.id, .int .u32 p.ix], .agg #[.int .i64 (Co.atE l0 p.id p.ix).val, .string (Co.atE l0 p.id p.ix).scr, .int .i64 (Co.atE l0 p.id p.ix).ht, .bool (Co.hasB l0 p.id p.ix)]]) wn := hen
      clear hnx hen EQ0
      generalize Co.atE l0 p.id p.ix = y at *
      generalize Co.atE l p.id p.ix = z at *
      obtain ⟨q0, hq0⟩ : ∃ q, Co.hasB l0 p.id p.ix = q := ⟨_, rfl⟩
      obtain ⟨q1, hq1⟩ : ∃ q, Co.hasB l p.id p.ix = q := ⟨_, rfl⟩
      rw [hq0] at hnx1 hen1 SS0 MM0 Y0
      rw [hq1] at CL SS0 MM0 Z0
      obtain ⟨yi, yx, yv, ys, yt⟩ := y
      obtain ⟨zi, zx, zv, zs, zt⟩ := z
      simp only at hnx1 hen1 SS0 MM0 Y0 Z0 CL
      obtain ⟨qb, hqb⟩ : ∃ q, Co.spB zv zs zt q1 yv ys yt q0 = q := ⟨_, rfl⟩
      rw [hqb] at SS0 MM0
      have e1 := fun W => Co.run_eql_spot W zv zs zt q1 yv ys yt q0
      rw [hqb] at e1
      have e2 := Co.spot_guard
      obtain ⟨As, cs, rfl⟩ := slice_form CN.out.os
      obtain ⟨Am, cm, rfl⟩ := slice_form CN.out.om
      obtain ⟨ns, hns⟩ : ∃ n, (Co.chgL l0 l (xs.map Co.toP)).length = n := ⟨_, rfl⟩
      obtain ⟨nm, hnm⟩ : ∃ n, (Co.chgL l l0 (xs.map Co.toP)).length = n := ⟨_, rfl⟩
      have HNS := Lib.hid (And.intro hns hnm)
      rw [hns, hnm] at CN
      have sb1 : ns ≤ 900 := by have := LS.out.1; have := NN.out.1; omega
      have sb2 : nm ≤ 900 := by have := LS.out.2; have := NN.out.2; omega
      have hby1 : (ns + 1) * 56 ≤ 140737488355328 := by omega
      have hmx1 : ns + 1 ≤ maxLen := by unfold maxLen; omega
      have hby2 : (nm + 1) * 56 ≤ 140737488355328 := by omega
      have hmx2 : nm + 1 ≤ maxLen := by unfold maxLen; omega
      have zwn : base ≤ wn.heap.size := CN.out.size
      obtain ⟨wA, hwA⟩ : ∃ W, W = (wn.alloc (.cells #[.string p.id, .int .u32 p.ix] 60)).alloc (.cells #[.int .i64 yv, .string ys, .int .i64 yt, .bool q0] 135) := ⟨_, rfl⟩
      have zA : wA.heap.size = wn.heap.size + 2 := by rw [hwA]; simp
      have hbA : Below wn.heap.size wn wA := by rw [hwA]; exact ((Below.refl _ _).alloc (Nat.le_refl _) _).alloc (by simp) _
      have ha1 : wA.heap[wn.heap.size]? = some (.cells #[.string p.id, .int .u32 p.ix] 60 (0, 0)) := by rw [hwA, Below.heap_alloc _ _ _ (by simp)]; exact heap_alloc_new _ _
      have ha2 : wA.heap[wn.heap.size + 1]? = some (.cells #[.int .i64 yv, .string ys, .int .i64 yt, .bool q0] 135 (0, 0)) := by
        rw [hwA, show wn.heap.size + 1 = (wn.alloc (.cells #[.string p.id, .int .u32 p.ix] 60)).heap.size from by simp]; exact heap_alloc_new _ _
      have p0 : wA.cell? ⟨wn.heap.size, 0, none⟩ = some (.string p.id) := Co.cell_in ha1 rfl
      have p1 : wA.cell? ⟨wn.heap.size, 1, none⟩ = some (.int .u32 p.ix) := Co.cell_in ha1 rfl
      have CA := Lib.hid (CN.out.keep HL.out hbA)
      have CLA := Lib.hid (CL.out wA CA.out.bel)
      have HWA := Lib.hid hwA
      have HA := Lib.hid (And.intro ha1 (And.intro ha2 hbA))
      have SSH := Lib.hid SS0
      have MMH := Lib.hid MM0
      have YH := Lib.hid Y0
      have ZH := Lib.hid Z0
      have RNA := Lib.hid ((hbA.block w.heap.size (by omega)).trans RN.out)
      clear hg R' hxm hsz hok SS0 MM0 Y0 Z0 hqb hns hnm hwA hbA ha1 ha2 CL RN HC HB LS hq0 hq1
      go_upto_region 5 with (fail)
      rw [show World.alloc (World.alloc wn _) _ = wA from HWA.out.symm]
      go_wp2_with fail
      refine CLA.out.mono ?_
      rintro e wB ⟨rfl, hbB⟩
      have zB := hbB.size
      obtain ⟨wC, hwC⟩ : ∃ W, W = wB.alloc (.cells #[.int .i64 zv, .string zs, .int .i64 zt, .bool q1] 135) := ⟨_, rfl⟩
      have hbC : Below wA.heap.size wA wC := by rw [hwC]; exact hbB.alloc hbB.size _
      have zC : wB.heap.size < wC.heap.size := by rw [hwC]; simp
      have hc1 := (hbC.block wn.heap.size (by omega)).trans HA.out.1
      have hc2 := (hbC.block (wn.heap.size + 1) (by omega)).trans HA.out.2.1
      have hc3 : wC.heap[wB.heap.size]? = some (.cells #[.int .i64 zv, .string zs, .int .i64 zt, .bool q1] 135 (0, 0)) := by rw [hwC]; exact heap_alloc_new _ _
      have CC := Lib.hid (CA.out.keep HL.out hbC)
      have RNC := Lib.hid ((hbC.block w.heap.size (by omega)).trans RNA.out)
      have HWC := Lib.hid hwC
      have HCC := Lib.hid (And.intro hc1 (And.intro hc2 hc3))
      have a0 : wC.cell? ⟨wn.heap.size, 0, none⟩ = some (.string p.id) := Co.cell_in hc1 rfl
      have a1 : wC.cell? ⟨wn.heap.size, 1, none⟩ = some (.int .u32 p.ix) := Co.cell_in hc1 rfl
      have b0 : wC.cell? ⟨wn.heap.size + 1, 0, none⟩ = some (.int .i64 yv) := Co.cell_in hc2 rfl
      have b1 : wC.cell? ⟨wn.heap.size + 1, 1, none⟩ = some (.string ys) := Co.cell_in hc2 rfl
      have b2 : wC.cell? ⟨wn.heap.size + 1, 2, none⟩ = some (.int .i64 yt) := Co.cell_in hc2 rfl
      have b3 : wC.cell? ⟨wn.heap.size + 1, 3, none⟩ = some (.bool q0) := Co.cell_in hc2 rfl
      have d0 : wC.cell? ⟨wB.heap.size, 0, none⟩ = some (.int .i64 zv) := Co.cell_in hc3 rfl
      have d1 : wC.cell? ⟨wB.heap.size, 1, none⟩ = some (.string zs) := Co.cell_in hc3 rfl
      have d2 : wC.cell? ⟨wB.heap.size, 2, none⟩ = some (.int .i64 zt) := Co.cell_in hc3 rfl
      have d3 : wC.cell? ⟨wB.heap.size, 3, none⟩ = some (.bool q1) := Co.cell_in hc3 rfl
      have u0 : wC.cell? ⟨w.heap.size + 1, 0, none⟩ = some (.slice As ns cs) := Co.cell_in CC.out.blk rfl
      have u1 : wC.cell? ⟨w.heap.size + 1, 1, none⟩ = some (.slice Am nm cm) := Co.cell_in CC.out.blk rfl
      have OS := Lib.hid (show wC.ownsRow base 66 5 (.slice As ns cs) ns (Co.cellsE (Co.chgL l0 l (xs.map Co.toP))) from by have := CC.out.os; rw [HNS.out.1] at this; exact this)
      have OM := Lib.hid (show wC.ownsRow base 66 5 (.slice Am nm cm) nm (Co.cellsE (Co.chgL l l0 (xs.map Co.toP))) from by have := CC.out.om; rw [HNS.out.2] at this; exact this)
      have UB := Lib.hid CC.out.blk
      have zbC : base ≤ wC.heap.size := CC.out.size
      have ubb : w.heap.size + 1 < base := HL.out.h2
      clear hbB hwC hbC hc1 hc2 hc3 p0 p1 CLA
      go_upto_region 6 with (fail)
      rw [show World.alloc wB _ = wC from HWC.out.symm]
      cases qb with
      | true =>
        go_wp2_with fail
        go_roundg cnt'
        case measure => omega
        case rel =>
          refine ⟨xs ++ [Co.spot l0 p], cnt', .slice As ns cs, .slice Am nm cm, Nat.le_refl _, ?_, RNC⟩
          rw [SSH.out, MMH.out]
          simp only [Bool.not_true, Bool.false_and, Bool.false_eq_true, if_false, List.append_nil]
          exact CC
      | false =>
        simp only [Bool.not_false, Bool.true_and] at SSH MMH
        cases q0 with
        | false =>
          cases q1 with
          | false =>
            go_wp2_with fail
            go_roundg cnt'
            case measure => omega
            case rel =>
              refine ⟨xs ++ [Co.spot l0 p], cnt', .slice As ns cs, .slice Am nm cm, Nat.le_refl _, ?_, RNC⟩
              rw [SSH.out, MMH.out]
              simp only [Bool.false_eq_true, if_false, List.append_nil]
              exact CC
          | true =>
            go_wp2_with (at_builtin; refine wpList_append_lies _ rfl _ _ 29 rfl base 66 i0 _ 5 56 Tryz.underlying29 hi y0 y1 y2 rfl (by decide) _ _ _ rfl (OM.out.alloc _) ⟨wC.heap.size, 0, none⟩ 1 1 (Co.encE ⟨p.id, p.ix, zv, zs, zt⟩) rfl rfl (Co.five_new _ _ _ _ rfl) (Co.encE_one _) (by decide) hmx2 hby2 (by simp; omega) _ rfl ?_; intro g2 cap2 w11 hown2 hgrow2 hat2 hlt2; have ub11 : w11.heap[w.heap.size + 1]? = some (.cells #[_, .slice Am nm cm] 31 (0, 0)) := (hgrow2.block (w.heap.size + 1) (by simp; omega) (fun e => by have := (own_at OM.out e.symm).1; omega)).trans ((Below.heap_alloc _ _ _ (by omega)).trans UB.out); have u111 := Co.cell_in (o := 1) ub11 rfl; have u11f := Lib.frozen_of_heap ub11 1)
            have EM := Lib.hid (show (⟨zi, zx, zv, zs, zt⟩ : Co.EnD) = ⟨p.id, p.ix, zv, zs, zt⟩ from by obtain ⟨r1, r2⟩ := ZH.out (by trivial); rw [show zi = p.id from r1, show zx = p.ix from r2])
            have CM := Lib.hid (ChS.made (x := ⟨p.id, p.ix, zv, zs, zt⟩) CC.out HL.out HNS.out.2.symm hgrow2 hown2 hat2 hlt2)
            have RM := Lib.hid (show (w11.setCell ⟨w.heap.size + 1, 1, none⟩ (.slice (some ⟨g2, 0, none⟩) (nm + 1) cap2)).heap[w.heap.size]? = wC.heap[w.heap.size]? from (Below.heap_setCell _ _ _ _ (by simp)).trans ((hgrow2.block w.heap.size (by simp; omega) (fun e => by have := (own_at OM.out e.symm).1; omega)).trans (Below.heap_alloc _ _ _ (by omega))))
            go_roundg cnt'
            case measure => omega
            case rel =>
              refine ⟨xs ++ [Co.spot l0 p], cnt', .slice As ns cs, .slice (some ⟨g2, 0, none⟩) (nm + 1) cap2, Nat.le_refl _, Lib.hid ?_, ?_⟩
              · rw [SSH.out, MMH.out]
                simp only [Bool.false_eq_true, if_false, if_true, List.append_nil, EM.out]
                exact CM.out
              · exact Lib.hid (RM.out.trans RNC.out)
        | true =>
          cases q1 with
          | false =>
            go_upto_region 9 with (at_builtin; refine wpList_append_lies _ rfl _ _ 29 rfl base 66 i0 _ 5 56 Tryz.underlying29 hi y0 y1 y2 rfl (by decide) _ _ _ rfl (OS.out.alloc _) ⟨wC.heap.size, 0, none⟩ 1 1 (Co.encE ⟨p.id, p.ix, yv, ys, yt⟩) rfl rfl (Co.five_new _ _ _ _ rfl) (Co.encE_one _) (by decide) hmx1 hby1 (by simp; omega) _ rfl ?_; intro g1 cap1 w9 hown1 hgrow1 hat1 hlt1; have ub9 : w9.heap[w.heap.size + 1]? = some (.cells #[.slice As ns cs, .slice Am nm cm] 31 (0, 0)) := (hgrow1.block (w.heap.size + 1) (by simp; omega) (fun e => by have := (own_at OS.out e.symm).1; omega)).trans ((Below.heap_alloc _ _ _ (by omega)).trans UB.out); have u90 := Co.cell_in (o := 0) ub9 rfl; have u9f := Lib.frozen_of_heap ub9 0)
            have ES := Lib.hid (show (⟨yi, yx, yv, ys, yt⟩ : Co.EnD) = ⟨p.id, p.ix, yv, ys, yt⟩ from by obtain ⟨r1, r2⟩ := YH.out (by trivial); rw [show yi = p.id from r1, show yx = p.ix from r2])
            have CS := Lib.hid (ChS.spent (x := ⟨p.id, p.ix, yv, ys, yt⟩) CC.out HL.out HNS.out.1.symm hgrow1 hown1 hat1 hlt1)
            have KB : ∀ k, k < wC.heap.size → k ≠ w.heap.size + 1 → (Value.slice As ns cs).ownBlock ≠ some k → (w9.setCell ⟨w.heap.size + 1, 0, none⟩ (.slice (some ⟨g1, 0, none⟩) (ns + 1) cap1)).heap[k]? = wC.heap[k]? := fun k h1 h2 h3 => (Below.heap_setCell _ _ _ _ h2).trans ((hgrow1.block k (by simp; omega) (fun e => h3 e.symm)).trans (Below.heap_alloc _ _ _ h1))
            have vsl : ∀ k, wn.heap.size ≤ k → (Value.slice As ns cs).ownBlock ≠ some k := fun k hk e => by have := (own_at CN.out.os e).2; omega
            have RS := Lib.hid (KB w.heap.size (by omega) (by omega) (fun e => by have := (own_at OS.out e).1; omega))
            have zS : wC.heap.size ≤ (w9.setCell ⟨w.heap.size + 1, 0, none⟩ (.slice (some ⟨g1, 0, none⟩) (ns + 1) cap1)).heap.size := by have := hgrow1.size; simp at this; rw [World.size_setCell]; omega
            obtain ⟨W10, hW10⟩ : ∃ W, W = w9.setCell ⟨w.heap.size + 1, 0, none⟩ (.slice (some ⟨g1, 0, none⟩) (ns + 1) cap1) := ⟨_, rfl⟩
            rw [← hW10] at CS KB RS zS ⊢
            have k1 := (KB wn.heap.size (by omega) (by omega) (vsl _ (Nat.le_refl _))).trans HCC.out.1
            have k3 := (KB wB.heap.size (by omega) (by omega) (vsl _ (by omega))).trans HCC.out.2.2
            clear a0 a1 b0 b1 b2 b3 d0 d1 d2 d3 u0 u1 hgrow1 hown1 hat1 hlt1 ub9 u90 u9f KB hW10
            have a0 : W10.cell? ⟨wn.heap.size, 0, none⟩ = some (.string p.id) := Co.cell_in k1 rfl
            have a1 : W10.cell? ⟨wn.heap.size, 1, none⟩ = some (.int .u32 p.ix) := Co.cell_in k1 rfl
            have d0 : W10.cell? ⟨wB.heap.size, 0, none⟩ = some (.int .i64 zv) := Co.cell_in k3 rfl
            have d1 : W10.cell? ⟨wB.heap.size, 1, none⟩ = some (.string zs) := Co.cell_in k3 rfl
            have d2 : W10.cell? ⟨wB.heap.size, 2, none⟩ = some (.int .i64 zt) := Co.cell_in k3 rfl
            have d3 : W10.cell? ⟨wB.heap.size, 3, none⟩ = some (.bool false) := Co.cell_in k3 rfl
            have u1 : W10.cell? ⟨w.heap.size + 1, 1, none⟩ = some (.slice Am nm cm) := Co.cell_in CS.out.blk rfl
            have OM2 := Lib.hid (show W10.ownsRow base 66 5 (.slice Am nm cm) nm (Co.cellsE (Co.chgL l l0 (xs.map Co.toP))) from by have := CS.out.om; rw [HNS.out.2] at this; exact this)
            have UB2 := Lib.hid CS.out.blk
            clear k1 k3 vsl
            go_wp2_with fail
            go_roundg cnt'
            case measure => omega
            case rel =>
              refine ⟨xs ++ [Co.spot l0 p], cnt', .slice (some ⟨g1, 0, none⟩) (ns + 1) cap1, .slice Am nm cm, Nat.le_refl _, Lib.hid ?_, ?_⟩
              · rw [SSH.out, MMH.out]
                simp only [Bool.false_eq_true, if_false, if_true, List.append_nil, ES.out]
                exact CS.out
              · exact Lib.hid (RS.out.trans RNC.out)
          | true =>
            go_upto_region 9 with (at_builtin; refine wpList_append_lies _ rfl _ _ 29 rfl base 66 i0 _ 5 56 Tryz.underlying29 hi y0 y1 y2 rfl (by decide) _ _ _ rfl (OS.out.alloc _) ⟨wC.heap.size, 0, none⟩ 1 1 (Co.encE ⟨p.id, p.ix, yv, ys, yt⟩) rfl rfl (Co.five_new _ _ _ _ rfl) (Co.encE_one _) (by decide) hmx1 hby1 (by simp; omega) _ rfl ?_; intro g1 cap1 w9 hown1 hgrow1 hat1 hlt1; have ub9 : w9.heap[w.heap.size + 1]? = some (.cells #[.slice As ns cs, .slice Am nm cm] 31 (0, 0)) := (hgrow1.block (w.heap.size + 1) (by simp; omega) (fun e => by have := (own_at OS.out e.symm).1; omega)).trans ((Below.heap_alloc _ _ _ (by omega)).trans UB.out); have u90 := Co.cell_in (o := 0) ub9 rfl; have u9f := Lib.frozen_of_heap ub9 0)
            have ES := Lib.hid (show (⟨yi, yx, yv, ys, yt⟩ : Co.EnD) = ⟨p.id, p.ix, yv, ys, yt⟩ from by obtain ⟨r1, r2⟩ := YH.out (by trivial); rw [show yi = p.id from r1, show yx = p.ix from r2])
            have CS := Lib.hid (ChS.spent (x := ⟨p.id, p.ix, yv, ys, yt⟩) CC.out HL.out HNS.out.1.symm hgrow1 hown1 hat1 hlt1)
            have KB : ∀ k, k < wC.heap.size → k ≠ w.heap.size + 1 → (Value.slice As ns cs).ownBlock ≠ some k → (w9.setCell ⟨w.heap.size + 1, 0, none⟩ (.slice (some ⟨g1, 0, none⟩) (ns + 1) cap1)).heap[k]? = wC.heap[k]? := fun k h1 h2 h3 => (Below.heap_setCell _ _ _ _ h2).trans ((hgrow1.block k (by simp; omega) (fun e => h3 e.symm)).trans (Below.heap_alloc _ _ _ h1))
            have vsl : ∀ k, wn.heap.size ≤ k → (Value.slice As ns cs).ownBlock ≠ some k := fun k hk e => by have := (own_at CN.out.os e).2; omega
            have RS := Lib.hid (KB w.heap.size (by omega) (by omega) (fun e => by have := (own_at OS.out e).1; omega))
            have zS : wC.heap.size ≤ (w9.setCell ⟨w.heap.size + 1, 0, none⟩ (.slice (some ⟨g1, 0, none⟩) (ns + 1) cap1)).heap.size := by have := hgrow1.size; simp at this; rw [World.size_setCell]; omega
            obtain ⟨W10, hW10⟩ : ∃ W, W = w9.setCell ⟨w.heap.size + 1, 0, none⟩ (.slice (some ⟨g1, 0, none⟩) (ns + 1) cap1) := ⟨_, rfl⟩
            rw [← hW10] at CS KB RS zS ⊢
            have k1 := (KB wn.heap.size (by omega) (by omega) (vsl _ (Nat.le_refl _))).trans HCC.out.1
            have k3 := (KB wB.heap.size (by omega) (by omega) (vsl _ (by omega))).trans HCC.out.2.2
            clear a0 a1 b0 b1 b2 b3 d0 d1 d2 d3 u0 u1 hgrow1 hown1 hat1 hlt1 ub9 u90 u9f KB hW10
            have a0 : W10.cell? ⟨wn.heap.size, 0, none⟩ = some (.string p.id) := Co.cell_in k1 rfl
            have a1 : W10.cell? ⟨wn.heap.size, 1, none⟩ = some (.int .u32 p.ix) := Co.cell_in k1 rfl
            have d0 : W10.cell? ⟨wB.heap.size, 0, none⟩ = some (.int .i64 zv) := Co.cell_in k3 rfl
            have d1 : W10.cell? ⟨wB.heap.size, 1, none⟩ = some (.string zs) := Co.cell_in k3 rfl
            have d2 : W10.cell? ⟨wB.heap.size, 2, none⟩ = some (.int .i64 zt) := Co.cell_in k3 rfl
            have d3 : W10.cell? ⟨wB.heap.size, 3, none⟩ = some (.bool true) := Co.cell_in k3 rfl
            have u1 : W10.cell? ⟨w.heap.size + 1, 1, none⟩ = some (.slice Am nm cm) := Co.cell_in CS.out.blk rfl
            have OM2 := Lib.hid (show W10.ownsRow base 66 5 (.slice Am nm cm) nm (Co.cellsE (Co.chgL l l0 (xs.map Co.toP))) from by have := CS.out.om; rw [HNS.out.2] at this; exact this)
            have UB2 := Lib.hid CS.out.blk
            clear k1 k3 vsl
            go_wp2_with (at_builtin; refine wpList_append_lies _ rfl _ _ 29 rfl base 66 i0 _ 5 56 Tryz.underlying29 hi y0 y1 y2 rfl (by decide) _ _ _ rfl (OM2.out.alloc _) ⟨W10.heap.size, 0, none⟩ 1 1 (Co.encE ⟨p.id, p.ix, zv, zs, zt⟩) rfl rfl (Co.five_new _ _ _ _ rfl) (Co.encE_one _) (by decide) hmx2 hby2 (by simp; omega) _ rfl ?_; intro g2 cap2 w11 hown2 hgrow2 hat2 hlt2; have ub11 : w11.heap[w.heap.size + 1]? = some (.cells #[_, .slice Am nm cm] 31 (0, 0)) := (hgrow2.block (w.heap.size + 1) (by simp; omega) (fun e => by have := (own_at OM2.out e.symm).1; omega)).trans ((Below.heap_alloc _ _ _ (by omega)).trans UB2.out); have u111 := Co.cell_in (o := 1) ub11 rfl; have u11f := Lib.frozen_of_heap ub11 1)
            have EM := Lib.hid (show (⟨zi, zx, zv, zs, zt⟩ : Co.EnD) = ⟨p.id, p.ix, zv, zs, zt⟩ from by obtain ⟨r1, r2⟩ := ZH.out (by trivial); rw [show zi = p.id from r1, show zx = p.ix from r2])
            have CM := Lib.hid (ChS.made (x := ⟨p.id, p.ix, zv, zs, zt⟩) CS.out HL.out HNS.out.2.symm hgrow2 hown2 hat2 hlt2)
            have RM := Lib.hid (show (w11.setCell ⟨w.heap.size + 1, 1, none⟩ (.slice (some ⟨g2, 0, none⟩) (nm + 1) cap2)).heap[w.heap.size]? = W10.heap[w.heap.size]? from (Below.heap_setCell _ _ _ _ (by simp)).trans ((hgrow2.block w.heap.size (by simp; omega) (fun e => by have := (own_at OM2.out e.symm).1; omega)).trans (Below.heap_alloc _ _ _ (by omega))))
            go_roundg cnt'
            case measure => omega
            case rel =>
              refine ⟨xs ++ [Co.spot l0 p], cnt', .slice (some ⟨g1, 0, none⟩) (ns + 1) cap1, .slice (some ⟨g2, 0, none⟩) (nm + 1) cap2, Nat.le_refl _, Lib.hid ?_, ?_⟩
              · rw [SSH.out, MMH.out]
                simp only [if_true, ES.out, EM.out]
                exact CM.out
              · exact Lib.hid (RM.out.trans (RS.out.trans RNC.out))

end Go.Proofs.YtnmfjnfdnjjngaaGreatDoor
