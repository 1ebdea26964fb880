/-
  A map by points whose numbers are counted up: what it says of each point.
-/
import Derived.Test.YtmabfccieoaalaaLeaf
import Derived.DeepKeys4
import Derived.WideKeyEntry
import Derived.Maps.Keyed
namespace Go.Proofs.Ytmabfccieoaalaa
open Go.RowKit Go.ChangeMaps

theorem laidOut : laidOutB Try.prog = true := by kernel_rfl
theorem keyed : Maps.Keyed Try.prog 45 := Maps.Keyed.of_law (deep_law_laid laidOut (m := 200) (by omega) (of_decide_eq_true (by kernel_rfl)) (by kernel_rfl) (by kernel_rfl))

/-- A point as a map's key. -/
def kv (x : InD) : Value := .agg #[.string x.id, .int .u32 x.ix]

theorem bytes_ext {a b : ByteArray} (h : a.toList = b.toList) : a = b := by
  rw [ByteArray.toList_eq, ByteArray.toList_eq] at h
  obtain ⟨⟨x⟩⟩ := a
  obtain ⟨⟨y⟩⟩ := b
  simp at h
  rw [h]
theorem ptB_iff (a : ByteArray) (i : Int) (b : ByteArray) (j : Int) : ptB a i b j = true ↔ a = b ∧ i = j := by
  unfold ptB
  constructor
  · intro h
    simp at h
    exact ⟨bytes_ext h.1, h.2⟩
  · rintro ⟨rfl, rfl⟩; simp
theorem kv_inj {x y : InD} : kv x = kv y ↔ ptB x.id x.ix y.id y.ix = true := by
  rw [ptB_iff]; simp [kv]

theorem lits_id (d : Nat) (s : ByteArray) (h : s.size ≤ maxLen) : Try.prog.keyLits (d + 1) 9 [.string s] = some [.string s.data.toList] := by
  unfold Program.keyLits; simp only [Try.underlying9]; rw [if_pos h]
theorem lits_ix (d : Nat) (i : Int) (h : (Lit.int .u32 i).wf = true) : Try.prog.keyLits (d + 1) 22 [.int .u32 i] = some [.int .u32 i] := by
  unfold Program.keyLits; simp only [Try.underlying22]; rw [if_pos ⟨trivial, h⟩]
theorem cells40 : Try.prog.cellsOf 45 = 2 := by kernel_rfl
theorem cells9 : Try.prog.cellsOf 9 = 1 := by kernel_rfl
theorem cells22 : Try.prog.cellsOf 22 = 1 := by kernel_rfl
theorem lits_pt (d : Nat) (s : ByteArray) (i : Int) (h : s.size ≤ maxLen) (hi : (Lit.int .u32 i).wf = true) : Try.prog.keyLits (d + 1 + 1) 45 [.string s, .int .u32 i] = some [.string s.data.toList, .int .u32 i] := by
  unfold Program.keyLits
  simp only [Try.underlying45, cells40]
  rw [if_pos ⟨rfl, by simp⟩]
  simp [cells9, cells22, lits_id d s h, lits_ix d i hi]
theorem keyType40 : Try.prog.keyType 45 = true := by kernel_rfl

theorem key_of (x : InD) (h : x.Ok) : ∃ l, keyOf Try.prog 45 (kv x) = some l := by
  have h5 : x.id.size ≤ maxLen := by have := h.1; unfold maxLen; omega
  have h6 := WalkArith.wf_u32 ⟨h.2.1, h.2.2.1⟩
  obtain ⟨n, hn⟩ : ∃ n, Try.prog.types.size + 1 = n + 1 + 1 := ⟨Try.prog.types.size - 1, by have : 0 < Try.prog.types.size := of_decide_eq_true (by kernel_rfl); omega⟩
  refine ⟨.string (keyBytes [.string x.id.data.toList, .int .u32 x.ix]), ?_⟩
  have hf : (kv x).formed Try.prog 45 = true := by
    unfold kv Value.formed
    rw [Try.underlying45]
    simp [cells40]
  unfold keyOf
  rw [Try.underlying45]
  simp only [keyType40, hf, Bool.and_self, if_true, hn]
  show (Try.prog.keyLits (n + 1 + 1) 45 [.string x.id, .int .u32 x.ix]).map _ = _
  rw [lits_pt n x.id x.ix h5 h6]
  rfl

/-- How many inputs spend a point. -/
def cnt (xs : List InD) (x : InD) : Nat := xs.countP fun y => ptB y.id y.ix x.id x.ix

theorem cnt_congr {xs : List InD} {x y : InD} (h : kv x = kv y) : cnt xs x = cnt xs y := by
  obtain ⟨h1, h2⟩ := (ptB_iff _ _ _ _).1 (kv_inj.1 h)
  unfold cnt; rw [h1, h2]
theorem cnt_none {xs : List InD} {x : InD} (h : ∀ y ∈ xs, kv y ≠ kv x) : cnt xs x = 0 := by
  unfold cnt
  rw [List.countP_eq_zero]
  intro y hy h2
  exact h y hy (kv_inj.2 h2)
theorem cnt_snoc_same {xs : List InD} {x y : InD} (h : kv y = kv x) : cnt (xs ++ [y]) x = cnt xs x + 1 := by
  unfold cnt
  rw [List.countP_append]
  simp [kv_inj.1 h]
theorem cnt_snoc_other {xs : List InD} {x y : InD} (h : kv y ≠ kv x) : cnt (xs ++ [y]) x = cnt xs x := by
  unfold cnt
  rw [List.countP_append]
  have : ptB y.id y.ix x.id x.ix = false := by
    rw [Bool.eq_false_iff]; intro h2; exact h (kv_inj.2 h2)
  simp [this]

/-- The block b is a map that has counted the points of xs. -/
def MapIs (w : World) (b : Nat) (xs : List InD) : Prop :=
  ∃ es clock, w.heap[b]? = some (.map es clock) ∧ (∀ e ∈ es.toList, e.born < clock) ∧ (es.toList.map (·.born)).Nodup ∧ (es.toList.map (·.key)).Pairwise (· ≠ ·) ∧
    (∀ e ∈ es.toList, ∃ x ∈ xs, e.key = kv x ∧ e.val = .int .i64 (cnt xs x)) ∧ (∀ x ∈ xs, ∃ e ∈ es.toList, e.key = kv x) ∧ ∀ x ∈ xs, x.Ok

theorem MapIs.lt {w : World} {b : Nat} {xs : List InD} (h : MapIs w b xs) : b < w.heap.size := by
  obtain ⟨es, clock, hb, _⟩ := h
  rcases Nat.lt_or_ge b w.heap.size with hlt | hge
  · exact hlt
  · rw [Array.getElem?_eq_none hge] at hb; cases hb
theorem MapIs.keep {w w' : World} {b : Nat} {xs : List InD} (h : MapIs w b xs) (hk : w'.heap[b]? = w.heap[b]?) : MapIs w' b xs := by
  obtain ⟨es, clock, hb, r⟩ := h
  exact ⟨es, clock, hk.trans hb, r⟩
theorem MapIs.made (w : World) : MapIs (w.alloc (.map #[] 0)) w.heap.size [] := by
  refine ⟨#[], 0, heap_alloc_new w _, by simp, by simp, by simp, by simp, by simp, by simp⟩

theorem set_heap_at {w : World} {b : Nat} (o : Obj) (h : b < w.heap.size) : (setBlock w b o).heap[b]? = some o := by
  simp [setBlock, h]
theorem set_heap_other {w : World} {b k : Nat} (o : Obj) (h : k ≠ b) : (setBlock w b o).heap[k]? = w.heap[k]? := by
  simp [setBlock, Array.getElem?_setIfInBounds]
  intro e; exact absurd e.symm h
theorem set_size (w : World) (b : Nat) (o : Obj) : (setBlock w b o).heap.size = w.heap.size := by simp [setBlock]

/-- What turns but block b: nothing. -/
def But (b : Nat) (w w' : World) : Prop := w'.os = w.os ∧ w'.tape = w.tape ∧ w'.output = w.output ∧ w'.heap.size = w.heap.size ∧ ∀ k, k ≠ b → w'.heap[k]? = w.heap[k]?
theorem But.of_set (w : World) (b : Nat) (o : Obj) : But b w (setBlock w b o) := ⟨rfl, rfl, rfl, set_size _ _ _, fun _ h => set_heap_other o h⟩
theorem But.below {b B : Nat} {a w w' : World} (h : Below B a w) (k : But b w w') (hb : B ≤ b) : Below B a w' :=
  ⟨k.1.trans h.os, k.2.1.trans h.tape, k.2.2.1.trans h.output, by rw [k.2.2.2.1]; exact h.size, fun i hi => (k.2.2.2.2 i (by omega)).trans (h.block i hi)⟩
theorem But.cell {b : Nat} {w w' : World} (h : But b w w') {k o : Nat} (hk : k ≠ b) : w'.cell? ⟨k, o, none⟩ = w.cell? ⟨k, o, none⟩ := World.cell?_of_block (w := w) (h.2.2.2.2 k hk)

theorem run_entryStore {w : World} {b st j : Nat} {es : Array MapEntry} {clock : Nat} (val : Value) (hb : w.heap[b]? = some (.map es clock)) (hidx : es.findIdx? (fun e => ((e.born : Nat) : Int) == ((st : Nat) : Int)) = some j) :
    (Instr.entryStore 130 (.map (some b)) (goInt st) val).run Try.prog w = .ok () (setBlock w b (.map (es.modify j fun e => { e with val := val }) clock)) := by
  simp [Instr.entryStore, MapKept.run_getObj_map hb, asInt, asIntOf, goInt, hidx, MapKept.run_setObj_map _ hb, Result.andThen, setBlock]

end Go.Proofs.Ytmabfccieoaalaa
