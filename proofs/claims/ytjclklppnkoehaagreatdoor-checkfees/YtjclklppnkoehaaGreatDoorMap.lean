/-
  A map by points whose numbers are counted up: what it says of each point.
-/
import Derived.Test.YtjclklppnkoehaaGreatDoorLeaf
import Derived.DeepKeys4
import Derived.WideKeyEntry
import Derived.Maps.Keyed
namespace Go.Proofs.YtjclklppnkoehaaGreatDoor
open Go.RowKit Go.ChangeMaps
set_option maxRecDepth 100000

theorem laidOut : laidOutB Tryz.prog = true := by kernel_rfl
theorem keyed : Maps.Keyed Tryz.prog 55 := Maps.Keyed.of_law (deep_law_laid laidOut (m := 200) (by omega) (of_decide_eq_true (by kernel_rfl)) (by kernel_rfl) (by kernel_rfl))

/-- A point as a map's key. -/
def kv (x : InD) : Value := .agg #[.string x.id, .int .u32 x.ix]

theorem bytes_ext {a b : ByteArray} (h : a.toList = b.toList) : a = b := by
  rw [ByteArray.toList_eq, ByteArray.toList_eq] at h
  obtain ⟨⟨x⟩⟩ := a
  obtain ⟨⟨y⟩⟩ := b
  simp at h
  rw [h]
theorem ptB_iff (a : ByteArray) (i : Int) (b : ByteArray) (j : Int) : ptB a i b j = true ↔ a = b ∧ i = j := by
  unfold ptB
  constructor
  · intro h
    simp at h
    exact ⟨bytes_ext h.1, h.2⟩
  · rintro ⟨rfl, rfl⟩; simp
theorem kv_inj {x y : InD} : kv x = kv y ↔ ptB x.id x.ix y.id y.ix = true := by
  rw [ptB_iff]; simp [kv]

theorem lits_id (d : Nat) (s : ByteArray) (h : s.size ≤ maxLen) : Tryz.prog.keyLits (d + 1) 9 [.string s] = some [.string s.data.toList] := by
  unfold Program.keyLits; simp only [Tryz.underlying9]; rw [if_pos h]
theorem lits_ix (d : Nat) (i : Int) (h : (Lit.int .u32 i).wf = true) : Tryz.prog.keyLits (d + 1) 25 [.int .u32 i] = some [.int .u32 i] := by
  unfold Program.keyLits; simp only [Tryz.underlying25]; rw [if_pos ⟨trivial, h⟩]
theorem cells40 : Tryz.prog.cellsOf 55 = 2 := by kernel_rfl
theorem cells9 : Tryz.prog.cellsOf 9 = 1 := by kernel_rfl
theorem cells22 : Tryz.prog.cellsOf 25 = 1 := by kernel_rfl
theorem lits_pt (d : Nat) (s : ByteArray) (i : Int) (h : s.size ≤ maxLen) (hi : (Lit.int .u32 i).wf = true) : Tryz.prog.keyLits (d + 1 + 1) 55 [.string s, .int .u32 i] = some [.string s.data.toList, .int .u32 i] := by
  unfold Program.keyLits
  simp only [Tryz.underlying55, cells40]
  rw [if_pos ⟨rfl, by simp⟩]
  simp [cells9, cells22, lits_id d s h, lits_ix d i hi]
theorem keyType40 : Tryz.prog.keyType 55 = true := by kernel_rfl

theorem key_of (x : InD) (h : x.Ok) : ∃ l, keyOf Tryz.prog 55 (kv x) = some l := by
  have h5 : x.id.size ≤ maxLen := by have := h.1; unfold maxLen; omega
  have h6 := WalkArith.wf_u32 ⟨h.2.1, h.2.2.1⟩
  obtain ⟨n, hn⟩ : ∃ n, Tryz.prog.types.size + 1 = n + 1 + 1 := ⟨Tryz.prog.types.size - 1, by have : 0 < Tryz.prog.types.size := of_decide_eq_true (by kernel_rfl); omega⟩
  refine ⟨.string (keyBytes [.string x.id.data.toList, .int .u32 x.ix]), ?_⟩
  have hf : (kv x).formed Tryz.prog 55 = true := by
    unfold kv Value.formed
    rw [Tryz.underlying55]
    simp [cells40]
  unfold keyOf
  rw [Tryz.underlying55]
  simp only [keyType40, hf, Bool.and_self, if_true, hn]
  show (Tryz.prog.keyLits (n + 1 + 1) 55 [.string x.id, .int .u32 x.ix]).map _ = _
  rw [lits_pt n x.id x.ix h5 h6]
  rfl

/-- How many inputs spend a point. -/
def cnt (xs : List InD) (x : InD) : Nat := xs.countP fun y => ptB y.id y.ix x.id x.ix

theorem cnt_congr {xs : List InD} {x y : InD} (h : kv x = kv y) : cnt xs x = cnt xs y := by
  obtain ⟨h1, h2⟩ := (ptB_iff _ _ _ _).1 (kv_inj.1 h)
  unfold cnt; rw [h1, h2]
theorem cnt_none {xs : List InD} {x : InD} (h : ∀ y ∈ xs, kv y ≠ kv x) : cnt xs x = 0 := by
  unfold cnt
  rw [List.countP_eq_zero]
  intro y hy h2
  exact h y hy (kv_inj.2 h2)
theorem cnt_snoc_same {xs : List InD} {x y : InD} (h : kv y = kv x) : cnt (xs ++ [y]) x = cnt xs x + 1 := by
  unfold cnt
  rw [List.countP_append]
  simp [kv_inj.1 h]
theorem cnt_snoc_other {xs : List InD} {x y : InD} (h : kv y ≠ kv x) : cnt (xs ++ [y]) x = cnt xs x := by
  unfold cnt
  rw [List.countP_append]
  have : ptB y.id y.ix x.id x.ix = false := by
    rw [Bool.eq_false_iff]; intro h2; exact h (kv_inj.2 h2)
  simp [this]

/-- The block b is a map that has counted the points of xs. -/
def MapIs (w : World) (b : Nat) (xs : List InD) : Prop :=
  ∃ es clock, w.heap[b]? = some (.map es clock) ∧ (∀ e ∈ es.toList, e.born < clock) ∧ (es.toList.map (·.born)).Nodup ∧ (es.toList.map (·.key)).Pairwise (· ≠ ·) ∧
    (∀ e ∈ es.toList, ∃ x ∈ xs, e.key = kv x ∧ e.val = .int .i64 (cnt xs x)) ∧ (∀ x ∈ xs, ∃ e ∈ es.toList, e.key = kv x) ∧ ∀ x ∈ xs, x.Ok

theorem MapIs.lt {w : World} {b : Nat} {xs : List InD} (h : MapIs w b xs) : b < w.heap.size := by
  obtain ⟨es, clock, hb, _⟩ := h
  rcases Nat.lt_or_ge b w.heap.size with hlt | hge
  · exact hlt
  · rw [Array.getElem?_eq_none hge] at hb; cases hb
theorem MapIs.keep {w w' : World} {b : Nat} {xs : List InD} (h : MapIs w b xs) (hk : w'.heap[b]? = w.heap[b]?) : MapIs w' b xs := by
  obtain ⟨es, clock, hb, r⟩ := h
  exact ⟨es, clock, hk.trans hb, r⟩
theorem MapIs.made (w : World) : MapIs (w.alloc (.map #[] 0)) w.heap.size [] := by
  refine ⟨#[], 0, heap_alloc_new w _, by simp, by simp, by simp, by simp, by simp, by simp⟩

/-- What a look-up tells. -/
theorem MapIs.look {w : World} {b : Nat} {xs : List InD} (h : MapIs w b xs) {x : InD} (hx : x.Ok) :
    (Instr.lookup 149 (.map (some b)) (.agg #[.string x.id, .int .u32 x.ix]) false).run Tryz.prog w = .ok (.int .i64 (cnt xs x)) w := by
  obtain ⟨es, clock, hb, h1, h2, h3, h4, h5, h6⟩ := h
  obtain ⟨l, hl⟩ := key_of x hx
  have hz : (zeroValue 3).run Tryz.prog w = .ok (.int .i64 0) w := by kernel_rfl
  have hks : ∀ e ∈ es.toList, ∃ l, keyOf Tryz.prog 55 e.key = some l := fun e he => by
    obtain ⟨y, hy, hk, _⟩ := h4 e he
    rw [hk]; exact key_of y (h6 y hy)
  have hch := keyed.check w es.isEmpty hl
  rcases keyed.find w hl es.toList hks with ⟨f1, f2⟩ | ⟨j, e0, f1, f2, f3⟩
  · have c0 : cnt xs x = 0 := cnt_none fun y hy hk => by
      obtain ⟨e, he, hk'⟩ := h5 y hy
      exact f2 e he (hk'.trans hk)
    show (Instr.lookup 149 (.map (some b)) (kv x) false).run Tryz.prog w = _
    simp [Instr.lookup, run_underlying Tryz.underlying149, MapKept.run_getObj_map hb, hch, f1, hz, c0, Result.andThen]
  · obtain ⟨y, hy, hk, hv⟩ := h4 e0 (List.mem_of_getElem? f2)
    have c0 : cnt xs y = cnt xs x := cnt_congr (hk.symm.trans f3)
    show (Instr.lookup 149 (.map (some b)) (kv x) false).run Tryz.prog w = _
    simp [Instr.lookup, run_underlying Tryz.underlying149, MapKept.run_getObj_map hb, hch, f1, hv, c0, Result.andThen]

theorem set_heap_at {w : World} {b : Nat} (o : Obj) (h : b < w.heap.size) : (setBlock w b o).heap[b]? = some o := by
  simp [setBlock, h]
theorem set_heap_other {w : World} {b k : Nat} (o : Obj) (h : k ≠ b) : (setBlock w b o).heap[k]? = w.heap[k]? := by
  simp [setBlock, Array.getElem?_setIfInBounds]
  intro e; exact absurd e.symm h
theorem set_size (w : World) (b : Nat) (o : Obj) : (setBlock w b o).heap.size = w.heap.size := by simp [setBlock]

/-- What turns but block b: nothing. -/
def But (b : Nat) (w w' : World) : Prop := w'.os = w.os ∧ w'.tape = w.tape ∧ w'.output = w.output ∧ w'.heap.size = w.heap.size ∧ ∀ k, k ≠ b → w'.heap[k]? = w.heap[k]?
theorem But.of_set (w : World) (b : Nat) (o : Obj) : But b w (setBlock w b o) := ⟨rfl, rfl, rfl, set_size _ _ _, fun _ h => set_heap_other o h⟩
theorem But.below {b B : Nat} {a w w' : World} (h : Below B a w) (k : But b w w') (hb : B ≤ b) : Below B a w' :=
  ⟨k.1.trans h.os, k.2.1.trans h.tape, k.2.2.1.trans h.output, by rw [k.2.2.2.1]; exact h.size, fun i hi => (k.2.2.2.2 i (by omega)).trans (h.block i hi)⟩
theorem But.cell {b : Nat} {w w' : World} (h : But b w w') {k o : Nat} (hk : k ≠ b) : w'.cell? ⟨k, o, none⟩ = w.cell? ⟨k, o, none⟩ := World.cell?_of_block (w := w) (h.2.2.2.2 k hk)

theorem run_entryStore {w : World} {b st j : Nat} {es : Array MapEntry} {clock : Nat} (val : Value) (hb : w.heap[b]? = some (.map es clock)) (hidx : es.findIdx? (fun e => ((e.born : Nat) : Int) == ((st : Nat) : Int)) = some j) :
    (Instr.entryStore 149 (.map (some b)) (goInt st) val).run Tryz.prog w = .ok () (setBlock w b (.map (es.modify j fun e => { e with val := val }) clock)) := by
  simp [Instr.entryStore, MapKept.run_getObj_map hb, asInt, asIntOf, goInt, hidx, MapKept.run_setObj_map _ hb, Result.andThen, setBlock]

/-- A point is counted up: its entry is found or made, and told anew. -/
theorem MapIs.step {w : World} {b : Nat} {xs : List InD} (h : MapIs w b xs) {x : InD} (hx : x.Ok) :
    ∃ (st : Nat) (w1 w2 : World), (Instr.mapEntry 149 (.map (some b)) (.agg #[.string x.id, .int .u32 x.ix])).run Tryz.prog w = .ok (.tuple #[.int .i64 (cnt xs x), goInt st]) w1 ∧
      (Instr.lookup 149 (.map (some b)) (.agg #[.string x.id, .int .u32 x.ix]) false).run Tryz.prog w1 = .ok (.int .i64 (cnt xs x)) w1 ∧
      (Instr.entryStore 149 (.map (some b)) (goInt st) (.int .i64 ((cnt xs x : Int) + 1))).run Tryz.prog w1 = .ok () w2 ∧ But b w w1 ∧ But b w1 w2 ∧ MapIs w2 b (xs ++ [x]) := by
  have hbl := h.lt
  obtain ⟨es, clock, hb, h1, h2, h3, h4, h5, h6⟩ := h
  obtain ⟨l, hl⟩ := key_of x hx
  have hz : (zeroValue 3).run Tryz.prog w = .ok (.int .i64 0) w := by kernel_rfl
  have hks : ∀ e ∈ es.toList, ∃ l, keyOf Tryz.prog 55 e.key = some l := fun e he => by
    obtain ⟨y, hy, hk, _⟩ := h4 e he
    rw [hk]; exact key_of y (h6 y hy)
  have hch := keyed.check w false hl
  rcases keyed.find w hl es.toList hks with ⟨f1, f2⟩ | ⟨j, e0, f1, f2, f3⟩
  · have c0 : cnt xs x = 0 := cnt_none fun y hy hk => by
      obtain ⟨e, he, hk'⟩ := h5 y hy
      exact f2 e he (hk'.trans hk)
    let es1 := es.push ⟨kv x, .int .i64 0, clock⟩
    let es2 := es.push ⟨kv x, .int .i64 1, clock⟩
    have hb1 : (setBlock w b (.map es1 (clock + 1))).heap[b]? = some (.map es1 (clock + 1)) := set_heap_at _ hbl
    have hborn : (es1.toList.map (·.born)).Nodup := by
      simp only [es1, Array.toList_push, List.map_append, List.map_cons, List.map_nil]
      refine List.nodup_append.2 ⟨h2, by simp, fun a ha c hc e1 => ?_⟩
      simp only [List.mem_singleton] at hc
      obtain ⟨y, hy, rfl⟩ := List.mem_map.1 ha
      have := h1 y hy
      omega
    have hm1 : ∀ u ∈ es1.toList, ∃ l, keyOf Tryz.prog 55 u.key = some l := by
      intro u hu
      simp only [es1, Array.toList_push, List.mem_append, List.mem_singleton] at hu
      rcases hu with hu | rfl
      · exact hks u hu
      · exact ⟨l, hl⟩
    have hidx : es1.findIdx? (fun e => ((e.born : Nat) : Int) == ((clock : Nat) : Int)) = some es.size := by
      rw [WideElems.findIdx_arr]
      exact WideElems.findIdx_born (l := es1.toList) (j := es.size) (e0 := ⟨kv x, .int .i64 0, clock⟩) hborn (by simp [es1])
    have hmod : es1.modify es.size (fun e => { e with val := .int .i64 1 }) = es2 := by
      apply Array.ext'
      rw [Array.toList_modify]
      simp only [es1, es2, Array.toList_push]
      rw [← Array.length_toList, WideElems.modify_last]
    refine ⟨clock, setBlock w b (.map es1 (clock + 1)), setBlock (setBlock w b (.map es1 (clock + 1))) b (.map es2 (clock + 1)), ?_, ?_, ?_, But.of_set _ _ _, But.of_set _ _ _, ?_⟩
    · show (Instr.mapEntry 149 (.map (some b)) (kv x)).run Tryz.prog w = _
      rw [c0]
      simp [Instr.mapEntry, run_underlying Tryz.underlying149, MapKept.run_getObj_map hb, hch, f1, hz, MapKept.run_setObj_map _ hb, Result.andThen, setBlock, es1]
    · show (Instr.lookup 149 (.map (some b)) (kv x) false).run Tryz.prog _ = _
      have hch' := keyed.check (setBlock w b (.map es1 (clock + 1))) es1.isEmpty hl
      rcases keyed.find (setBlock w b (.map es1 (clock + 1))) hl es1.toList hm1 with ⟨_, g2⟩ | ⟨j, e0, g1, g2, g3⟩
      · exact absurd rfl (g2 ⟨kv x, .int .i64 0, clock⟩ (by simp [es1]))
      · have hv : e0.val = .int .i64 0 := by
          have hm := List.mem_of_getElem? g2
          simp only [es1, Array.toList_push, List.mem_append, List.mem_singleton] at hm
          rcases hm with hm | rfl
          · exact absurd g3 (f2 e0 hm)
          · rfl
        rw [c0]
        simp [Instr.lookup, run_underlying Tryz.underlying149, MapKept.run_getObj_map hb1, hch', g1, hv, Result.andThen]
    · rw [c0, run_entryStore _ hb1 hidx]
      show Result.ok () (setBlock _ b (.map (es1.modify es.size fun e => { e with val := .int .i64 1 }) (clock + 1))) = _
      rw [hmod]
    · refine ⟨es2, clock + 1, set_heap_at _ (by rw [set_size]; exact hbl), ?_, ?_, ?_, ?_, ?_, ?_⟩
      · intro e he
        simp only [es2, Array.toList_push, List.mem_append, List.mem_singleton] at he
        rcases he with he | rfl
        · have := h1 e he; omega
        · simp
      · simpa [es1, es2] using hborn
      · simp only [es2, Array.toList_push, List.map_append, List.map_cons, List.map_nil]
        refine List.pairwise_append.2 ⟨h3, by simp, fun a ha c hc e1 => ?_⟩
        simp only [List.mem_singleton] at hc
        obtain ⟨y, hy, rfl⟩ := List.mem_map.1 ha
        exact f2 y hy (e1.trans hc)
      · intro e he
        simp only [es2, Array.toList_push, List.mem_append, List.mem_singleton] at he
        rcases he with he | rfl
        · obtain ⟨y, hy, hk, hv⟩ := h4 e he
          exact ⟨y, List.mem_append_left _ hy, hk, by rw [cnt_snoc_other (fun h' => f2 e he (hk.trans h'.symm)), hv]⟩
        · exact ⟨x, by simp, rfl, by rw [cnt_snoc_same rfl, c0]; rfl⟩
      · intro y hy
        rcases List.mem_append.1 hy with hy | hy
        · obtain ⟨e, he, hk⟩ := h5 y hy
          exact ⟨e, by simp [es2, he], hk⟩
        · simp only [List.mem_singleton] at hy
          subst hy
          exact ⟨⟨kv y, .int .i64 1, clock⟩, by simp [es2], rfl⟩
      · intro y hy
        rcases List.mem_append.1 hy with hy | hy
        · exact h6 y hy
        · simp only [List.mem_singleton] at hy; subst hy; exact hx
  · obtain ⟨y, hy, hk, hv⟩ := h4 e0 (List.mem_of_getElem? f2)
    have c0 : cnt xs y = cnt xs x := cnt_congr (hk.symm.trans f3)
    rw [c0] at hv
    have hj : es[j]? = some e0 := by simpa using f2
    have hsame : es.modify j (fun e => { e with key := kv x }) = es := by
      apply Array.ext'
      rw [Array.toList_modify, modify_eq_set _ _ _ _ f2]
      have : ({ e0 with key := kv x } : MapEntry) = e0 := by rw [← f3]
      rw [this]
      exact WideElems.set_self _ _ _ f2
    have hb1 : (setBlock w b (.map es clock)).heap[b]? = some (.map es clock) := set_heap_at _ hbl
    have hidx : es.findIdx? (fun e => ((e.born : Nat) : Int) == ((e0.born : Nat) : Int)) = some j := by
      rw [WideElems.findIdx_arr]
      exact WideElems.findIdx_born h2 f2
    let es2 := es.modify j (fun e => { e with val := .int .i64 ((cnt xs x : Int) + 1) })
    have hes2 : es2.toList = es.toList.set j { e0 with val := .int .i64 ((cnt xs x : Int) + 1) } := by
      simp only [es2]
      rw [Array.toList_modify, modify_eq_set _ _ _ _ f2]
    have hst := keyed.stays w hl
    refine ⟨e0.born, setBlock w b (.map es clock), setBlock (setBlock w b (.map es clock)) b (.map es2 clock), ?_, ?_, ?_, But.of_set _ _ _, But.of_set _ _ _, ?_⟩
    · show (Instr.mapEntry 149 (.map (some b)) (kv x)).run Tryz.prog w = _
      simp [Instr.mapEntry, run_underlying Tryz.underlying149, MapKept.run_getObj_map hb, hch, f1, hj, f3, hst, hsame, hv, MapKept.run_setObj_map _ hb, Result.andThen, setBlock]
    · exact MapIs.look ⟨es, clock, hb1, h1, h2, h3, h4, h5, h6⟩ hx
    · exact run_entryStore _ hb1 hidx
    · have hjl : j < es.toList.length := (List.getElem?_eq_some_iff.1 f2).1
      have mem2 : ∀ e ∈ es2.toList, e = { e0 with val := .int .i64 ((cnt xs x : Int) + 1) } ∨ (e ∈ es.toList ∧ e.key ≠ kv x) := by
        intro e he
        rw [hes2] at he
        obtain ⟨i, hi⟩ := List.getElem?_of_mem he
        rw [List.getElem?_set] at hi
        by_cases hij : j = i
        · rw [if_pos hij] at hi
          subst hij
          rw [if_pos hjl] at hi
          injection hi with hi
          exact .inl hi.symm
        · rw [if_neg hij] at hi
          refine .inr ⟨List.mem_of_getElem? hi, fun hk' => ?_⟩
          rw [List.pairwise_iff_getElem] at h3
          have hil := (List.getElem?_eq_some_iff.1 hi).1
          have e1 : (es.toList.map (·.key))[i]'(by simpa using hil) = kv x := by
            rw [List.getElem_map]; rw [(List.getElem?_eq_some_iff.1 hi).2]; exact hk'
          have e2 : (es.toList.map (·.key))[j]'(by simpa using hjl) = kv x := by
            rw [List.getElem_map]; rw [(List.getElem?_eq_some_iff.1 f2).2]; exact f3
          rcases Nat.lt_or_gt_of_ne hij with hlt | hgt
          · exact h3 j i (by simpa using hjl) (by simpa using hil) hlt (e2.trans e1.symm)
          · exact h3 i j (by simpa using hil) (by simpa using hjl) hgt (e1.trans e2.symm)
      have keys2 : es2.toList.map (·.key) = es.toList.map (·.key) := by
        rw [hes2, List.map_set]
        exact WideElems.set_self _ _ _ (by simp [f2])
      have borns2 : es2.toList.map (·.born) = es.toList.map (·.born) := by
        rw [hes2, List.map_set]
        exact WideElems.set_self _ _ _ (by simp [f2])
      refine ⟨es2, clock, set_heap_at _ (by rw [set_size]; exact hbl), ?_, by rw [borns2]; exact h2, by rw [keys2]; exact h3, ?_, ?_, ?_⟩
      · intro e he
        rcases mem2 e he with rfl | ⟨he, _⟩
        · exact h1 e0 (List.mem_of_getElem? f2)
        · exact h1 e he
      · intro e he
        rcases mem2 e he with rfl | ⟨he, hne⟩
        · exact ⟨x, by simp, f3, by rw [cnt_snoc_same rfl]; simp⟩
        · obtain ⟨y, hy, hk, hv⟩ := h4 e he
          exact ⟨y, List.mem_append_left _ hy, hk, by rw [cnt_snoc_other (fun h' => hne (hk.trans h'.symm)), hv]⟩
      · intro y' hy'
        have : kv y' ∈ es.toList.map (·.key) := by
          rcases List.mem_append.1 hy' with hy' | hy'
          · obtain ⟨e, he, hk⟩ := h5 y' hy'
            rw [← hk]; exact List.mem_map_of_mem he
          · simp only [List.mem_singleton] at hy'
            subst hy'
            rw [← f3]; exact List.mem_map_of_mem (List.mem_of_getElem? f2)
        rw [← keys2] at this
        obtain ⟨e, he, hk⟩ := List.mem_map.1 this
        exact ⟨e, he, hk⟩
      · intro y' hy'
        rcases List.mem_append.1 hy' with hy' | hy'
        · exact h6 y' hy'
        · simp only [List.mem_singleton] at hy'; subst hy'; exact hx

end Go.Proofs.YtjclklppnkoehaaGreatDoor
