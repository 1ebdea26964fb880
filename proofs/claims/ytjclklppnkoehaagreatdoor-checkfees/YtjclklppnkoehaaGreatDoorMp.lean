/-
  A map of coins by their points, and the set that holds it.
-/
import Derived.Test.YtjclklppnkoehaaGreatDoorMth
import Derived.DeepKeys4
import Derived.WideKeyEntry
import Derived.Maps.Keyed
import Derived.Carry
namespace Go.Proofs.YtjclklppnkoehaaGreatDoor.Co
open Go.RowKit Go.ChangeMaps
set_option maxRecDepth 100000

theorem laidOut : laidOutB Tryz.prog = true := by kernel_rfl
theorem keyed : Maps.Keyed Tryz.prog 55 := Maps.Keyed.of_law (deep_law_laid laidOut (m := 200) (by omega) (of_decide_eq_true (by kernel_rfl)) (by kernel_rfl) (by kernel_rfl))

/-- A point as a value, a coin as a value. -/
def kv (x : EnD) : Value := .agg #[.string x.id, .int .u32 x.ix]
def cv (x : EnD) : Value := .agg #[.int .i64 x.val, .string x.scr, .int .i64 x.ht]
theorem kv_inj {x y : EnD} (h : kv x = kv y) : x.id = y.id ∧ x.ix = y.ix := by simpa [kv] using h

theorem lits_id (d : Nat) (s : ByteArray) (h : s.size ≤ maxLen) : Tryz.prog.keyLits (d + 1) 9 [.string s] = some [.string s.data.toList] := by
  unfold Program.keyLits; simp only [Tryz.underlying9]; rw [if_pos h]
theorem lits_ix (d : Nat) (i : Int) (h : (Lit.int .u32 i).wf = true) : Tryz.prog.keyLits (d + 1) 25 [.int .u32 i] = some [.int .u32 i] := by
  unfold Program.keyLits; simp only [Tryz.underlying25]; rw [if_pos ⟨trivial, h⟩]
theorem cells28 : Tryz.prog.cellsOf 55 = 2 := by kernel_rfl
theorem cells9 : Tryz.prog.cellsOf 9 = 1 := by kernel_rfl
theorem cells26 : Tryz.prog.cellsOf 25 = 1 := by kernel_rfl
theorem lits_pt (d : Nat) (s : ByteArray) (i : Int) (h : s.size ≤ maxLen) (hi : (Lit.int .u32 i).wf = true) : Tryz.prog.keyLits (d + 1 + 1) 55 [.string s, .int .u32 i] = some [.string s.data.toList, .int .u32 i] := by
  unfold Program.keyLits
  simp only [Tryz.underlying55, cells28]
  rw [if_pos ⟨rfl, by simp⟩]
  simp [cells9, cells26, lits_id d s h, lits_ix d i hi]
theorem keyType28 : Tryz.prog.keyType 55 = true := by kernel_rfl

theorem key_of (a : ByteArray) (i : Int) (h : PtOk a i) : ∃ l, keyOf Tryz.prog 55 (.agg #[.string a, .int .u32 i]) = some l := by
  have h5 : a.size ≤ maxLen := by have := h.1; unfold maxLen; omega
  have h6 := WalkArith.wf_u32 ⟨h.2.1, h.2.2⟩
  obtain ⟨n, hn⟩ : ∃ n, Tryz.prog.types.size + 1 = n + 1 + 1 := ⟨Tryz.prog.types.size - 1, by have : 0 < Tryz.prog.types.size := of_decide_eq_true (by kernel_rfl); omega⟩
  refine ⟨.string (keyBytes [.string a.data.toList, .int .u32 i]), ?_⟩
  have hf : (Value.agg #[.string a, .int .u32 i]).formed Tryz.prog 55 = true := by
    unfold Value.formed
    rw [Tryz.underlying55]
    simp [cells28]
  unfold keyOf
  rw [Tryz.underlying55]
  simp only [keyType28, hf, Bool.and_self, if_true, hn]
  show (Tryz.prog.keyLits (n + 1 + 1) 55 [.string a, .int .u32 i]).map _ = _
  rw [lits_pt n a i h5 h6]
  rfl

/-- The block b is a map of the coins l. -/
def MapIs (w : World) (b : Nat) (l : List EnD) : Prop :=
  ∃ es clock, w.heap[b]? = some (.map es clock) ∧ (∀ e ∈ es.toList, e.born < clock) ∧ (es.toList.map (·.born)).Nodup ∧ (es.toList.map fun e => (e.key, e.val)).Perm (l.map fun x => (kv x, cv x))

theorem lt_of_heap {w : World} {b : Nat} {o : Obj} (h : w.heap[b]? = some o) : b < w.heap.size := by
  rcases Nat.lt_or_ge b w.heap.size with hlt | hge
  · exact hlt
  · rw [Array.getElem?_eq_none hge] at h; cases h
theorem MapIs.lt {w : World} {b : Nat} {l : List EnD} (h : MapIs w b l) : b < w.heap.size := by
  obtain ⟨es, clock, hb, _⟩ := h
  exact lt_of_heap hb
theorem MapIs.keep {w w' : World} {b : Nat} {l : List EnD} (h : MapIs w b l) (hk : w'.heap[b]? = w.heap[b]?) : MapIs w' b l := by
  obtain ⟨es, clock, hb, r⟩ := h
  exact ⟨es, clock, hk.trans hb, r⟩
theorem MapIs.made (w : World) : MapIs (w.alloc (.map #[] 0)) w.heap.size [] := ⟨#[], 0, heap_alloc_new w _, by simp, by simp, by simp⟩

/-- What an entry is. -/
theorem entry_of {es : Array MapEntry} {l : List EnD} (hp : (es.toList.map fun e => (e.key, e.val)).Perm (l.map fun x => (kv x, cv x))) {e : MapEntry} (he : e ∈ es.toList) : ∃ x ∈ l, e.key = kv x ∧ e.val = cv x := by
  have : (e.key, e.val) ∈ l.map fun x => (kv x, cv x) := hp.mem_iff.1 (List.mem_map.2 ⟨e, he, rfl⟩)
  obtain ⟨x, hx, h⟩ := List.mem_map.1 this
  injection h with h1 h2
  exact ⟨x, hx, h1.symm, h2.symm⟩
theorem entry_for {es : Array MapEntry} {l : List EnD} (hp : (es.toList.map fun e => (e.key, e.val)).Perm (l.map fun x => (kv x, cv x))) {x : EnD} (hx : x ∈ l) : ∃ e ∈ es.toList, e.key = kv x ∧ e.val = cv x := by
  have : (kv x, cv x) ∈ es.toList.map fun e => (e.key, e.val) := hp.mem_iff.2 (List.mem_map.2 ⟨x, hx, rfl⟩)
  obtain ⟨e, he, h⟩ := List.mem_map.1 this
  injection h with h1 h2
  exact ⟨e, he, h1, h2⟩

theorem perm_erase {α : Type} {x : α} : ∀ {l : List α} {j : Nat}, l[j]? = some x → l.Perm (x :: l.eraseIdx j)
  | [], _, h => by simp at h
  | y :: r, 0, h => by
    simp at h
    subst h
    exact List.Perm.refl _
  | y :: r, j + 1, h => by
    simp at h
    rw [List.eraseIdx_cons_succ]
    exact ((perm_erase h).cons y).trans (List.Perm.swap x y _)

/-- What looking a point up finds. -/
theorem MapIs.find {w : World} {l : List EnD} (hg : Good l) {a : ByteArray} {i : Int} (hx : PtOk a i) {es : Array MapEntry} (hp : (es.toList.map fun e => (e.key, e.val)).Perm (l.map fun x => (kv x, cv x))) :
    ((Instr.findKey 55 (.agg #[.string a, .int .u32 i]) es.toList).run Tryz.prog w = .ok none w ∧ hasB l a i = false) ∨
      ∃ j e, (Instr.findKey 55 (.agg #[.string a, .int .u32 i]) es.toList).run Tryz.prog w = .ok (some (j, e.val)) w ∧ es.toList[j]? = some e ∧ e.key = kv (atE l a i) ∧ e.val = cv (atE l a i) ∧ hasB l a i = true := by
  obtain ⟨kl, hl⟩ := key_of a i hx
  have hks : ∀ e ∈ es.toList, ∃ kl, keyOf Tryz.prog 55 e.key = some kl := fun e he => by
    obtain ⟨y, hy, hk, _⟩ := entry_of hp he
    rw [hk]
    exact key_of y.id y.ix (hg.ok y hy).1
  rcases keyed.find w hl es.toList hks with ⟨f1, f2⟩ | ⟨j, e, f1, f2, f3⟩
  · refine .inl ⟨f1, ?_⟩
    rw [Bool.eq_false_iff]
    intro h
    obtain ⟨x, hx', rfl, rfl⟩ := hasB_iff.1 h
    obtain ⟨e, he, hk, _⟩ := entry_for hp hx'
    exact f2 e he hk
  · obtain ⟨y, hy, hk, hv⟩ := entry_of hp (List.mem_of_getElem? f2)
    have e1 : kv y = .agg #[.string a, .int .u32 i] := hk.symm.trans f3
    obtain ⟨h1, h2⟩ : y.id = a ∧ y.ix = i := by simpa [kv] using e1
    have e2 : atE l a i = y := by rw [← h1, ← h2]; exact atE_some hg.srt.apart hy
    rw [e2]
    exact .inr ⟨j, e, f1, f2, hk, hv, hasB_iff.2 ⟨y, hy, h1, h2⟩⟩

theorem MapIs.look {w : World} {b : Nat} {l : List EnD} (h : MapIs w b l) (hg : Good l) {a : ByteArray} {i : Int} (hx : PtOk a i) :
    (Instr.lookup 102 (.map (some b)) (.agg #[.string a, .int .u32 i]) true).run Tryz.prog w = .ok (.tuple #[.agg #[.int .i64 (atE l a i).val, .string (atE l a i).scr, .int .i64 (atE l a i).ht], .bool (hasB l a i)]) w := by
  obtain ⟨es, clock, hb, h1, h2, hp⟩ := h
  obtain ⟨kl, hl⟩ := key_of a i hx
  have hch := keyed.check w es.isEmpty hl
  rcases MapIs.find (w := w) hg hx hp with ⟨f1, f2⟩ | ⟨j, e, f1, _, _, hv, f2⟩
  · rw [atE_none f2, f2]
    simp [Instr.lookup, run_underlying Tryz.underlying102, MapKept.run_getObj_map hb, hch, f1, e0, Result.andThen]
  · rw [f2]
    simp [Instr.lookup, run_underlying Tryz.underlying102, MapKept.run_getObj_map hb, hch, f1, hv, cv, Result.andThen]

theorem set_heap_at {w : World} {b : Nat} (o : Obj) (h : b < w.heap.size) : (setBlock w b o).heap[b]? = some o := by
  simp [setBlock, h]
theorem set_heap_other {w : World} {b k : Nat} (o : Obj) (h : k ≠ b) : (setBlock w b o).heap[k]? = w.heap[k]? := by
  simp [setBlock, Array.getElem?_setIfInBounds]
  intro e; exact absurd e.symm h
theorem set_size (w : World) (b : Nat) (o : Obj) : (setBlock w b o).heap.size = w.heap.size := by simp [setBlock]

/-- One entry more: laid with the zero coin, then stored. -/
theorem MapIs.push {w : World} {b : Nat} {l : List EnD} (h : MapIs w b l) (hg : Good l) {x : EnD} (hx : PtOk x.id x.ix) (hn : hasB l x.id x.ix = false) :
    ∃ (st : Nat) (o1 o2 : Obj), (∀ W : World, W.heap[b]? = w.heap[b]? → (Instr.mapEntry 102 (.map (some b)) (.agg #[.string x.id, .int .u32 x.ix])).run Tryz.prog W = .ok (.tuple #[.agg #[.int .i64 0, .string ⟨#[]⟩, .int .i64 0], .int .i64 (st : Int)]) (setBlock W b o1)) ∧
      (∀ W : World, W.heap[b]? = some o1 → (Instr.entryStore 102 (.map (some b)) (.int .i64 (st : Int)) (.agg #[.int .i64 x.val, .string x.scr, .int .i64 x.ht])).run Tryz.prog W = .ok () (setBlock W b o2)) ∧
      ∀ W : World, W.heap[b]? = some o2 → MapIs W b (insR x l) := by
  obtain ⟨es, clock, hb, h1, h2, hp⟩ := h
  obtain ⟨kl, hl⟩ := key_of x.id x.ix hx
  refine ⟨clock, .map (es.push ⟨kv x, .agg #[.int .i64 0, .string ⟨#[]⟩, .int .i64 0], clock⟩) (clock + 1), .map (es.push ⟨kv x, cv x, clock⟩) (clock + 1), fun W hW => ?_, fun W hW => ?_, fun W hW => ?_⟩
  · have hbW := hW.trans hb
    have hch := keyed.check W false hl
    rcases MapIs.find (w := W) hg hx hp with ⟨f1, f2⟩ | ⟨j, e, f1, _, _, hv, f2⟩
    · simp [Instr.mapEntry, run_underlying Tryz.underlying102, MapKept.run_getObj_map hbW, hch, f1, MapKept.run_setObj_map _ hbW, Result.andThen, setBlock, goInt, kv]
    · rw [f2] at hn; cases hn
  · have hidx : (es.push ⟨kv x, .agg #[.int .i64 0, .string ⟨#[]⟩, .int .i64 0], clock⟩).findIdx? (fun e => ((e.born : Nat) : Int) == ((clock : Nat) : Int)) = some es.size := by
      rw [WideElems.findIdx_arr]
      exact WideElems.findIdx_born (l := (es.push ⟨kv x, .agg #[.int .i64 0, .string ⟨#[]⟩, .int .i64 0], clock⟩).toList) (j := es.size) (e0 := ⟨kv x, .agg #[.int .i64 0, .string ⟨#[]⟩, .int .i64 0], clock⟩) (by
        simp only [Array.toList_push, List.map_append, List.map_cons, List.map_nil]
        refine List.nodup_append.2 ⟨h2, by simp, fun a ha c hc e1 => ?_⟩
        simp only [List.mem_singleton] at hc
        obtain ⟨y, hy, rfl⟩ := List.mem_map.1 ha
        have := h1 y hy
        omega) (by simp)
    have hmod : (es.push ⟨kv x, .agg #[.int .i64 0, .string ⟨#[]⟩, .int .i64 0], clock⟩).modify es.size (fun e => { e with val := cv x }) = es.push ⟨kv x, cv x, clock⟩ := by
      apply Array.ext'
      rw [Array.toList_modify, Array.toList_push, Array.toList_push, ← Array.length_toList, WideElems.modify_last]
    show (Instr.entryStore 102 (.map (some b)) (.int .i64 (clock : Int)) (cv x)).run Tryz.prog W = _
    simp [Instr.entryStore, MapKept.run_getObj_map hW, asInt, asIntOf, hidx, hmod, MapKept.run_setObj_map _ hW, Result.andThen, setBlock]
  · refine ⟨_, _, hW, ?_, ?_, ?_⟩
    · intro e he
      simp only [Array.toList_push, List.mem_append, List.mem_singleton] at he
      rcases he with he | rfl
      · have := h1 e he; omega
      · exact Nat.lt_succ_self _
    · simp only [Array.toList_push, List.map_append, List.map_cons, List.map_nil]
      refine List.nodup_append.2 ⟨h2, by simp, fun a ha c hc e1 => ?_⟩
      simp only [List.mem_singleton] at hc
      obtain ⟨y, hy, rfl⟩ := List.mem_map.1 ha
      have := h1 y hy
      omega
    · simp only [Array.toList_push, List.map_append, List.map_cons, List.map_nil]
      refine (List.perm_append_singleton _ _).trans ?_
      refine ((hp.cons (kv x, cv x))).trans ?_
      exact ((insR_perm x l).map fun x => (kv x, cv x)).symm

/-- One entry less. -/
theorem MapIs.drop {w : World} {b : Nat} {l : List EnD} (h : MapIs w b l) (hg : Good l) {a : ByteArray} {i : Int} (hx : PtOk a i) (hh : hasB l a i = true) (ty : TypeId) :
    ∃ o1 : Obj, (∀ W : World, W.heap[b]? = w.heap[b]? → (Builtin.delete_ #[102, 55] ty #[.map (some b), .agg #[.string a, .int .u32 i]]).run Tryz.prog W = .ok (.tuple #[]) (setBlock W b o1)) ∧
      ∀ W : World, W.heap[b]? = some o1 → MapIs W b (delL l a i) := by
  obtain ⟨es, clock, hb, h1, h2, hp⟩ := h
  obtain ⟨kl, hl⟩ := key_of a i hx
  rcases MapIs.find (w := w) hg hx hp with ⟨_, f2⟩ | ⟨j, e, _, f3, fk, fv, _⟩
  · rw [f2] at hh; cases hh
  refine ⟨.map (es.eraseIdxIfInBounds j) clock, fun W hW => ?_, fun W hW => ?_⟩
  · have hbW := hW.trans hb
    have hch := keyed.check W es.isEmpty hl
    rcases MapIs.find (w := W) hg hx hp with ⟨f1, f2⟩ | ⟨j', e', f1, g3, gk, _, _⟩
    · rw [f2] at hh; cases hh
    · have hj : j' = j := by
        have hap : (es.toList.map fun e => (e.key, e.val)).Pairwise fun x y => x.1 ≠ y.1 := by
          refine (hp.symm.pairwise_iff (fun {x y} (hxy : x.1 ≠ y.1) => hxy.symm)).1 ?_
          rw [List.pairwise_map]
          exact hg.srt.apart.imp fun {x y} hxy e1 => by
            obtain ⟨q1, q2⟩ := kv_inj e1
            rw [show same x y = true from ptB_iff.2 ⟨q1, q2⟩] at hxy
            cases hxy
        rw [List.pairwise_map] at hap
        have hl1 := (List.getElem?_eq_some_iff.1 f3)
        have hl2 := (List.getElem?_eq_some_iff.1 g3)
        obtain ⟨p1, p2⟩ := hl1
        obtain ⟨q1, q2⟩ := hl2
        rcases Nat.lt_trichotomy j' j with hlt | heq | hgt
        · have := List.pairwise_iff_getElem.1 hap j' j q1 p1 hlt
          rw [p2, q2] at this
          exact absurd (gk.trans fk.symm) this
        · exact heq
        · have := List.pairwise_iff_getElem.1 hap j j' p1 q1 hgt
          rw [p2, q2] at this
          exact absurd (fk.trans gk.symm) this
      subst hj
      simp [Builtin.delete_, run_underlying Tryz.underlying102, MapKept.run_getObj_map hbW, hch, f1, MapKept.run_setObj_map _ hbW, Result.andThen, setBlock]
  · have hjl : j < es.size := by have := (List.getElem?_eq_some_iff.1 f3).1; simpa using this
    have hsub : (es.eraseIdxIfInBounds j).toList = es.toList.eraseIdx j := by
      unfold Array.eraseIdxIfInBounds
      rw [dif_pos hjl]
      simp
    refine ⟨_, _, hW, ?_, ?_, ?_⟩
    · intro e he
      rw [hsub] at he
      exact h1 e ((List.eraseIdx_sublist _ _).subset he)
    · rw [hsub]
      exact ((List.eraseIdx_sublist _ _).map _).nodup h2
    · rw [hsub]
      obtain ⟨m1, m2, m3⟩ := atE_mem hh
      have q := del_perm hg.srt.apart m1
      rw [m2, m3] at q
      have q2 := (hp.trans (q.map fun x => (kv x, cv x)))
      have q3 : (es.toList.map fun e => (e.key, e.val)).Perm ((kv (atE l a i), cv (atE l a i)) :: (es.toList.eraseIdx j).map fun e => (e.key, e.val)) := by
        have : es.toList.Perm (e :: es.toList.eraseIdx j) := by
          exact perm_erase f3
        have := this.map fun e => (e.key, e.val)
        rw [List.map_cons, fk, fv] at this
        exact this
      exact List.Perm.cons_inv (q3.symm.trans q2)

end Go.Proofs.YtjclklppnkoehaaGreatDoor.Co
