/-
  A range over a map of coins, whichever comes next; what the sort leaves of a row of coins.
-/
import Derived.Test.YtdchbeomlfancaaLay
import Derived.Laws.IdiomRangeMap
import Derived.Maps.RangeRun
import Derived.Laws.MakeOwn
namespace Go.Proofs.Ytdchbeomlfancaa
open Go.RowKit Go.ChangeMaps

/-- A coin out of its key and its value. -/
def decE : Value × Value → EnD
  | (.agg #[.string a, .int _ i], .agg #[.int _ v, .string s, .int _ t]) => ⟨a, i, v, s, t⟩
  | _ => e0
theorem decE_enc (x : EnD) : decE (kv x, cv x) = x := rfl
theorem perm_of_pairs {l m : List EnD} (h : (l.map fun x => (kv x, cv x)).Perm (m.map fun x => (kv x, cv x))) : l.Perm m := by
  have := h.map decE
  simpa [List.map_map, Function.comp_def, decE_enc] using this

/-- The range over the map in block b, by the iterator in block r, has handed out xs; cnt are still to come. -/
def Rng (w : World) (b r : Nat) (l xs : List EnD) (cnt : Nat) : Prop :=
  ∃ es clock seen, w.heap[b]? = some (.map es clock) ∧ w.heap[r]? = some (.mapIter (some b) clock seen clock) ∧ (∀ e ∈ es.toList, e.born < clock) ∧ (es.toList.map (·.born)).Nodup ∧
    (es.toList.map fun e => (e.key, e.val)).Perm (l.map fun x => (kv x, cv x)) ∧ (leftOf es seen).size = cnt ∧
    ((xs.map fun x => (kv x, cv x)) ++ ((leftOf es seen).toList.map fun e => (e.key, e.val))).Perm (l.map fun x => (kv x, cv x))

theorem Rng.ltr {w : World} {b r : Nat} {l xs : List EnD} {cnt : Nat} (h : Rng w b r l xs cnt) : r < w.heap.size := by
  obtain ⟨es, clock, seen, _, hr, _⟩ := h
  exact lt_of_heap hr
theorem Rng.keep {w w' : World} {b r : Nat} {l xs : List EnD} {cnt : Nat} (h : Rng w b r l xs cnt) (h1 : w'.heap[b]? = w.heap[b]?) (h2 : w'.heap[r]? = w.heap[r]?) : Rng w' b r l xs cnt := by
  obtain ⟨es, clock, seen, hb, hr, q⟩ := h
  exact ⟨es, clock, seen, h1.trans hb, h2.trans hr, q⟩
theorem Rng.far {w : World} {b r : Nat} {l xs : List EnD} {cnt base n size : Nat} {e : TypeId} {v : Value} {cs : List Value} (h : Rng w b r l xs cnt) (hown : w.ownsRow base e size v n cs) : some r ≠ v.ownBlock := by
  obtain ⟨es, clock, seen, _, hr, _⟩ := h
  intro hh
  rcases hown.2 with ⟨rfl, _⟩ | ⟨g, cap, cur, rfl, _, hg, _⟩
  · simp [Value.ownBlock] at hh
  · simp [Value.ownBlock] at hh
    subst hh
    rw [hr] at hg
    cases hg
theorem MapIs.range {w : World} {b : Nat} {l : List EnD} (h : MapIs w b l) :
    ∃ w', (Instr.range 60 (.map (some b))).run Try.prog w = .ok (.pointer (some ⟨w.heap.size, 0, none⟩)) w' ∧ Rng w' b w.heap.size l [] l.length ∧ Below w.heap.size w w' ∧ w'.heap.size = w.heap.size + 1 := by
  have hlt := h.lt
  obtain ⟨es, clock, hb, h1, h2, hp⟩ := h
  have e1 : leftOf es #[] = es := by simp [leftOf]
  refine ⟨_, run_range_map w 60 28 35 b es clock Try.underlying60 hb, ⟨es, clock, #[], (Below.heap_alloc _ _ _ hlt).trans hb, heap_alloc_new _ _, h1, h2, hp, ?_, ?_⟩, (Below.refl _ _).alloc (Nat.le_refl _) _, by simp⟩
  · rw [e1]
    have := hp.length_eq
    simpa using this
  · rw [e1]
    simpa using hp

theorem left_push {es : Array MapEntry} {seen : Array Nat} {e : MapEntry} (hn : (es.toList.map (·.born)).Nodup) (he : e ∈ (leftOf es seen).toList) : (leftOf es seen).toList.Perm (e :: (leftOf es (seen.push e.born)).toList) := by
  have e1 : (leftOf es (seen.push e.born)).toList = (leftOf es seen).toList.filter fun x => !(x.born == e.born) := by
    simp only [leftOf, Array.toList_filter, List.filter_filter]
    congr 1
    funext x
    rw [contains_push]
    cases seen.contains x.born <;> cases (x.born == e.born) <;> rfl
  rw [e1]
  have hn2 : ((leftOf es seen).toList.map (·.born)).Nodup := by
    simp only [leftOf, Array.toList_filter]
    exact (List.filter_sublist.map _).nodup hn
  generalize (leftOf es seen).toList = m at he hn2
  induction m with
  | nil => cases he
  | cons y r ih =>
    simp only [List.map_cons, List.nodup_cons] at hn2
    by_cases hy : y.born = e.born
    · have hye : y = e := by
        rcases List.mem_cons.1 he with h | h
        · exact h.symm
        · exact absurd (List.mem_map.2 ⟨e, h, hy.symm⟩) hn2.1
      subst hye
      rw [List.filter_cons_of_neg (by simp)]
      have : r.filter (fun x => !(x.born == y.born)) = r := by
        rw [List.filter_eq_self]
        intro z hz
        have : z.born ≠ y.born := fun h => hn2.1 (List.mem_map.2 ⟨z, hz, h⟩)
        simp [this]
      rw [this]
    · have hne : e ∈ r := by
        rcases List.mem_cons.1 he with h | h
        · exact absurd (by rw [h]) hy
        · exact h
      rw [List.filter_cons_of_pos (by simp [hy])]
      exact ((ih hne hn2.2).cons y).trans (List.Perm.swap e y _)

/-- The next one, or none. -/
theorem Rng.next {w : World} {b r : Nat} {l xs : List EnD} {cnt : Nat} (h : Rng w b r l xs cnt) :
    ((Instr.next (.pointer (some ⟨r, 0, none⟩)) false 0).run Try.prog w = .ok (.tuple #[.bool false]) w ∧ xs.Perm l) ∨
      ∃ x w' cnt', (Instr.next (.pointer (some ⟨r, 0, none⟩)) false 0).run Try.prog w = .ok (.tuple #[.bool true, .agg #[.string x.id, .int .u32 x.ix], .agg #[.int .i64 x.val, .string x.scr, .int .i64 x.ht]]) w' ∧
        (Instr.entry (.pointer (some ⟨r, 0, none⟩))).run Try.prog w' = .ok (.tuple #[.agg #[.string x.id, .int .u32 x.ix], .agg #[.int .i64 x.val, .string x.scr, .int .i64 x.ht]]) w' ∧
        Rng w' b r l (xs ++ [x]) cnt' ∧ cnt' < cnt ∧ w.grownBy w' (some r) ∧ w'.heap.size = w.heap.size := by
  obtain ⟨es, clock, seen, hb, hr, h1, h2, hp, hc, hq⟩ := h
  have hne : r ≠ b := by
    rintro rfl
    rw [hr] at hb
    cases hb
  rcases run_next_at (P := Try.prog) w 0 r b clock clock seen es clock hr hb h1 (Nat.le_refl _) with ⟨g0, hrun⟩ | ⟨e, he, w1, hal, hrun⟩
  · refine .inl ⟨hrun, perm_of_pairs ?_⟩
    have : (leftOf es seen).toList = [] := by
      have := Array.eq_empty_of_size_eq_zero g0
      rw [this]
    rw [this] at hq
    simpa using hq
  · right
    obtain ⟨x, hx, hk, hv⟩ := entry_of hp (mem_left he).1
    have hr1 : w1.heap[r]? = some (.mapIter (some b) clock seen clock) := by rcases hal with rfl | rfl <;> exact hr
    have hb1 : w1.heap[b]? = some (.map es clock) := by rcases hal with rfl | rfl <;> exact hb
    have hs1 : w1.heap.size = w.heap.size := by rcases hal with rfl | rfl <;> rfl
    have hrw : (setBlock w1 r (.mapIter (some b) clock (seen.push e.born) clock)).heap[r]? = some (.mapIter (some b) clock (seen.push e.born) clock) := set_heap_at _ (lt_of_heap hr1)
    have hbw : (setBlock w1 r (.mapIter (some b) clock (seen.push e.born) clock)).heap[b]? = some (.map es clock) := (set_heap_other _ (fun e => hne e.symm)).trans hb1
    have hen := run_entry_at (P := Try.prog) _ r b clock seen es clock e hrw hbw (mem_left he).1 h2
    rw [hk, hv] at hrun hen
    have hlp := left_push h2 he
    refine ⟨x, _, (leftOf es (seen.push e.born)).size, hrun, hen, ⟨es, clock, seen.push e.born, hbw, hrw, h1, h2, hp, rfl, ?_⟩, by rw [← hc]; exact left_shrinks es seen e he, ?_, by rw [set_size]; exact hs1⟩
    · refine List.Perm.trans ?_ hq
      rw [List.map_append, List.append_assoc]
      refine List.Perm.append_left _ ?_
      have := (hlp.map fun e => (e.key, e.val)).symm
      rw [List.map_cons, hk, hv] at this
      exact this
    · rcases hal with rfl | rfl <;> exact ⟨rfl, rfl, rfl, by simp [setBlock], fun i _ hi => set_heap_other _ (fun e1 => hi (by rw [e1]))⟩

theorem xs_len {w : World} {b r : Nat} {l xs : List EnD} {cnt : Nat} (h : Rng w b r l xs cnt) : xs.length + cnt = l.length := by
  obtain ⟨es, clock, seen, hb, hr, h1, h2, hp, hc, hq⟩ := h
  have := hq.length_eq
  simp at this
  omega

/-! ### Behind the sort -/
open Go.Sort Go.Lib

/-- A row of coins of the call's own, as the sort has it. -/
theorem own_holds {w : World} {base cap g : Nat} {e : TypeId} {xs : List EnD} (h : w.ownsRow base e 5 (.slice (some ⟨g, 0, none⟩) xs.length cap) xs.length (cellsE xs)) : HoldsK encE 5 w g 0 xs.toArray := by
  intro j hj
  simp at hj
  rw [get_flatK _ _ _ _ (by simpa using hj)]
  have hk : j / 5 < xs.length := by omega
  have hx : xs[j / 5]? = some xs[j / 5] := List.getElem?_eq_getElem hk
  have hc := cellsE_get hx (i := j % 5) (Nat.mod_lt _ (by omega))
  have e1 : (encE xs[j / 5])[j % 5]? = some (encE xs[j / 5])[j % 5]! := by
    have : j % 5 < (encE xs[j / 5]).length := Nat.mod_lt _ (by show 0 < 5; omega)
    rw [List.getElem?_eq_getElem this]
    simp [this]
  rw [show j / 5 * 5 + j % 5 = j from by omega, e1] at hc
  have h2 := h.cells (g := g) rfl j _ hc
  simp only [Addr.add_lit] at h2
  constructor
  · simpa [hk] using h2
  · rcases h.2 with ⟨h0, _⟩ | ⟨g', cap', cur, hv, _, hg, _⟩
    · cases h0
    · cases hv
      exact Lib.frozen_of_heap hg _
theorem holds_at {w : World} {g : Nat} {d : Array EnD} (h : HoldsK encE 5 w g 0 d) {k : Nat} {x : EnD} (hx : d.toList[k]? = some x) : EntAt w g (0 + k * 5) x := by
  have hk : k < d.size := by have := (List.getElem?_eq_some_iff.1 hx).1; simpa using this
  have hd : d[k]! = x := by
    have := (List.getElem?_eq_some_iff.1 hx).2
    simp [hk]
    simpa using this
  have q : ∀ i, i < 5 → w.cell? ⟨g, k * 5 + i, none⟩ = some (encE x)[i]! := fun i hi => by
    have := (h (k * 5 + i) (by rw [size_flatK]; omega)).1
    rw [get_flatK _ _ _ _ (by omega), show (k * 5 + i) / 5 = k from by omega, show (k * 5 + i) % 5 = i from by omega, hd] at this
    simpa using this
  unfold EntAt
  rw [Nat.zero_add]
  exact ⟨q 0 (by omega), q 1 (by omega), q 2 (by omega), q 3 (by omega), q 4 (by omega)⟩
theorem sort_below {w : World} {B g n : Nat} {d : Array EnD} {os : Array Obj} (hg : B ≤ g) (hB : B ≤ w.heap.size) : Below B w (sortWorldK encE 5 w g 0 n d os) := by
  refine ⟨rfl, rfl, rfl, ?_, fun k hk => ?_⟩
  · exact size_sortWorldK_c encE 5 w g 0 n d os
  · unfold sortWorldK putRowK
    rw [heap_grow_old _ _ (by simp [Sort.ahead]; omega)]
    have : g ≠ k := by omega
    simp [putRow, mapBlock, Sort.ahead, Array.getElem?_modify, this]

end Go.Proofs.Ytdchbeomlfancaa
