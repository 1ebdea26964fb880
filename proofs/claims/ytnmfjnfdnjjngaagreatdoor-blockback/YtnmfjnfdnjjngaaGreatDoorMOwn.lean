/-
  Lists that a call builds by append: texts, inputs with texts of their own, outputs.
  A map by points whose numbers are counted up: what it says of each point.
-/
import Derived.Test.YtnmfjnfdnjjngaaGreatDoorMPure
import Derived.Test.YtnmfjnfdnjjngaaGreatDoorMData
import Derived.DeepKeys4
import Derived.WideKeyEntry
import Derived.Maps.Keyed

namespace Go.Proofs.YtnmfjnfdnjjngaaGreatDoor
open Go.RowKit
set_option maxRecDepth 100000

/-- A row of the call's own, in a block ahead of top. -/
def OwnAt (w : World) (base top : Nat) (e : TypeId) (size : Nat) (v : Value) (n : Nat) (xs : List Value) : Prop := w.ownsRow base e size v n xs ∧ ∀ g, v.ownBlock = some g → g < top

/-- The blocks of element type e, from base on, ahead of top, are as they were. -/
def StayE (base top : Nat) (e : TypeId) (w w' : World) : Prop := ∀ b cur, base ≤ b → b < top → w.heap[b]? = some (.cells cur e (0, 0)) → w'.heap[b]? = w.heap[b]?

theorem StayE.of_below {base top : Nat} {e : TypeId} {B : Nat} {w w' : World} (h : Below B w w') (hB : top ≤ B) : StayE base top e w w' := fun b _ _ hb _ => h.block b (by omega)
theorem StayE.trans {base top : Nat} {e : TypeId} {a b c : World} (h : StayE base top e a b) (k : StayE base top e b c) : StayE base top e a c := fun i cur h1 h2 h3 => by
  have e1 := h i cur h1 h2 h3
  exact (k i cur h1 h2 (e1.trans h3)).trans e1
theorem StayE.alloc {base top : Nat} {e : TypeId} {w : World} (o : Obj) (h : top ≤ w.heap.size) : StayE base top e w (w.alloc o) := fun b _ _ hb _ => Below.heap_alloc _ _ _ (by omega)
theorem StayE.setCell {base top : Nat} {e : TypeId} {w : World} {p : Addr} (hp : p.block < base ∨ top ≤ p.block) (u : Value) : StayE base top e w (w.setCell p u) := fun b _ h1 h2 _ => Below.heap_setCell _ _ _ _ (by omega)
theorem StayE.drew {base top : Nat} {e : TypeId} {w w' : World} (h : StayE base top e w w') : StayE base top e w w'.drew := h
/-- Behind an append to a row of another element type. -/
theorem StayE.grown {base top : Nat} {e e2 : TypeId} {w w' : World} {base2 size n : Nat} {v : Value} {xs : List Value} (hown : w.ownsRow base2 e2 size v n xs) (hg : w.grownBy w' v.ownBlock) (ht : top ≤ w.heap.size) (hne : e ≠ e2) : StayE base top e w w' := by
  intro b cur _ hb hbl
  refine hg.block b (by omega) (fun h => ?_)
  rcases hown.2 with ⟨rfl, _⟩ | ⟨g, cap, cur2, rfl, _, hh, _⟩
  · simp [Value.ownBlock] at h
  · simp [Value.ownBlock] at h
    subst h
    rw [hbl] at hh
    injection hh with hh
    injection hh with _ ht
    exact hne ht

theorem OwnAt.keep {w w' : World} {base top top' : Nat} {e : TypeId} {size : Nat} {v : Value} {n : Nat} {xs : List Value} (h : OwnAt w base top e size v n xs) (hs : StayE base top e w w') (ht : top ≤ top') : OwnAt w' base top' e size v n xs := by
  obtain ⟨⟨h1, h2⟩, h3⟩ := h
  refine ⟨⟨h1, ?_⟩, fun g hg => by have := h3 g hg; omega⟩
  rcases h2 with h2 | ⟨g, cap, cur, rfl, hb, hh, r⟩
  · exact .inl h2
  · exact .inr ⟨g, cap, cur, rfl, hb, by rw [hs g cur hb (h3 g rfl) hh]; exact hh, r⟩
theorem OwnAt.of_own {w : World} {base : Nat} {e : TypeId} {size : Nat} {v : Value} {n : Nat} {xs : List Value} (h : w.ownsRow base e size v n xs) : OwnAt w base w.heap.size e size v n xs := by
  refine ⟨h, fun g hg => ?_⟩
  rcases h.2 with ⟨rfl, _⟩ | ⟨g', cap, cur, rfl, _, hh, _⟩
  · simp [Value.ownBlock] at hg
  · simp [Value.ownBlock] at hg
    subst hg
    rcases Nat.lt_or_ge g' w.heap.size with hlt | hge
    · exact hlt
    · rw [Array.getElem?_eq_none hge] at hh; cases hh
theorem OwnAt.base {w : World} {base base' top : Nat} {e : TypeId} {size : Nat} {v : Value} {n : Nat} {xs : List Value} (h : OwnAt w base top e size v n xs) (hb : base' ≤ base) : OwnAt w base' top e size v n xs := by
  obtain ⟨⟨h1, h2⟩, h3⟩ := h
  refine ⟨⟨h1, ?_⟩, h3⟩
  rcases h2 with h2 | ⟨g, cap, cur, rfl, hb', r⟩
  · exact .inl h2
  · exact .inr ⟨g, cap, cur, rfl, by omega, r⟩

/-- Texts in a row of the call's own. -/
def StrOwn (w : World) (base top : Nat) (u : Value) (ss : List ByteArray) : Prop := OwnAt w base top 9 1 u ss.length (ss.map Value.string)

theorem StrOwn.strs {w : World} {base top : Nat} {u : Value} {ss : List ByteArray} (h : StrOwn w base top u ss) : Strs w base top u ss := by
  obtain ⟨h, ht⟩ := h
  rcases h.2 with ⟨rfl, h0⟩ | ⟨g, cap, cur, rfl, hb, hg, hn, hm, hs, htk⟩
  · have : ss = [] := List.eq_nil_of_length_eq_zero h0
    subst this
    exact Strs.nil _ _ _
  · refine ⟨_, cap, rfl, hn, .inr ⟨g, 0, rfl, hb, ht g rfl, fun k s hk => ?_⟩⟩
    have := h.cells (g := g) rfl k (.string s) (by simp [hk])
    simpa [Addr.add_lit] using this

/-- Inputs in a row of the call's own, with texts of the call's own. -/
def InsOwn (w : World) (base top : Nat) (v : Value) (ys : List InD) : Prop :=
  ∃ cells : List Value, OwnAt w base top 107 4 v ys.length cells ∧ ∀ (j : Nat) (x : InD), ys[j]? = some x → cells[j * 4]? = some (.string x.id) ∧ cells[j * 4 + 1]? = some (.int .u32 x.ix) ∧ cells[j * 4 + 2]? = some (.int .u32 x.sq) ∧
    ∃ u, cells[j * 4 + 3]? = some u ∧ StrOwn w base top u x.wit

theorem InsOwn.keep {w w' : World} {base top top' : Nat} {v : Value} {ys : List InD} (h : InsOwn w base top v ys) (h43 : StayE base top 107 w w') (h9 : StayE base top 9 w w') (ht : top ≤ top') : InsOwn w' base top' v ys := by
  obtain ⟨cells, hown, hall⟩ := h
  refine ⟨cells, hown.keep h43 ht, fun j x hx => ?_⟩
  obtain ⟨c0, c1, c2, u, c3, hs⟩ := hall j x hx
  exact ⟨c0, c1, c2, u, c3, OwnAt.keep hs h9 ht⟩
theorem InsOwn.nil (w : World) (base top : Nat) : InsOwn w base top (.slice none 0 0) [] := ⟨[], ⟨World.ownsRow_nil w base 107 4, fun g h => by simp [Value.ownBlock] at h⟩, fun j x hx => by simp at hx⟩
theorem InsOwn.ins {w : World} {base top : Nat} {v : Value} {ys : List InD} (h : InsOwn w base top v ys) : Ins w base top v ys := by
  obtain ⟨cells, ⟨hown, ht⟩, hall⟩ := h
  rcases hown.2 with ⟨rfl, h0⟩ | ⟨g, cap, cur, rfl, hb, hg, hn, hm, hs, htk⟩
  · have : ys = [] := List.eq_nil_of_length_eq_zero h0
    subst this
    exact Ins.nil _ _ _
  · refine ⟨_, cap, rfl, hn, .inr ⟨g, 0, rfl, hb, ht g rfl, fun k x hk => ?_⟩⟩
    obtain ⟨c0, c1, c2, u, c3, hst⟩ := hall k x hk
    have hc := hown.cells (g := g) rfl
    have a0 := hc _ _ c0
    have a1 := hc _ _ c1
    have a2 := hc _ _ c2
    have a3 := hc _ _ c3
    simp only [Addr.add_lit, Nat.zero_add] at a0 a1 a2 a3
    rw [Nat.zero_add]
    exact ⟨a0, a1, a2, u, a3, hst.strs⟩
/-- One input more. -/
theorem InsOwn.push {w w1 : World} {base : Nat} {v v' : Value} {ys : List InD} {cells : List Value} {x : InD} {u : Value} (hown : w.ownsRow base 107 4 v ys.length cells)
    (hall : ∀ (j : Nat) (x : InD), ys[j]? = some x → cells[j * 4]? = some (.string x.id) ∧ cells[j * 4 + 1]? = some (.int .u32 x.ix) ∧ cells[j * 4 + 2]? = some (.int .u32 x.sq) ∧ ∃ u, cells[j * 4 + 3]? = some u ∧ StrOwn w base w.heap.size u x.wit)
    (hu : StrOwn w base w.heap.size u x.wit) (hgrow : w.grownBy w1 v.ownBlock) (hown' : w1.ownsRow base 107 4 v' (ys.length + 1) (cells ++ [.string x.id, .int .u32 x.ix, .int .u32 x.sq, u])) : InsOwn w1 base w1.heap.size v' (ys ++ [x]) := by
  have h9 : StayE base w.heap.size 9 w w1 := StayE.grown hown hgrow (Nat.le_refl _) (by decide)
  have hlen : cells.length = ys.length * 4 := hown.1
  refine ⟨_, by simpa using OwnAt.of_own hown', fun j y hy => ?_⟩
  by_cases hj : j < ys.length
  · rw [List.getElem?_append_left hj] at hy
    obtain ⟨c0, c1, c2, u', c3, hs⟩ := hall j y hy
    refine ⟨?_, ?_, ?_, u', ?_, OwnAt.keep hs h9 hgrow.size⟩
    · rw [List.getElem?_append_left (by omega)]; exact c0
    · rw [List.getElem?_append_left (by omega)]; exact c1
    · rw [List.getElem?_append_left (by omega)]; exact c2
    · rw [List.getElem?_append_left (by omega)]; exact c3
  · have hj2 : j = ys.length := by
      have := (List.getElem?_eq_some_iff.1 hy).1
      simp at this; omega
    subst hj2
    simp at hy
    subst hy
    refine ⟨?_, ?_, ?_, u, ?_, OwnAt.keep hu h9 hgrow.size⟩
    · rw [List.getElem?_append_right (by omega), hlen]; simp
    · rw [List.getElem?_append_right (by omega), hlen]; simp
    · rw [List.getElem?_append_right (by omega), hlen]; simp
    · rw [List.getElem?_append_right (by omega), hlen]; simp

/-- Outputs in a row of the call's own. -/
def OutsOwn (w : World) (base top : Nat) (v : Value) (ys : List OutD) : Prop :=
  ∃ cells : List Value, OwnAt w base top 62 2 v ys.length cells ∧ ∀ (j : Nat) (x : OutD), ys[j]? = some x → cells[j * 2]? = some (.int .i64 x.val) ∧ cells[j * 2 + 1]? = some (.string x.scr)

theorem OutsOwn.keep {w w' : World} {base top top' : Nat} {v : Value} {ys : List OutD} (h : OutsOwn w base top v ys) (h52 : StayE base top 62 w w') (ht : top ≤ top') : OutsOwn w' base top' v ys := by
  obtain ⟨cells, hown, hall⟩ := h
  exact ⟨cells, hown.keep h52 ht, hall⟩
theorem OutsOwn.nil (w : World) (base top : Nat) : OutsOwn w base top (.slice none 0 0) [] := ⟨[], ⟨World.ownsRow_nil w base 62 2, fun g h => by simp [Value.ownBlock] at h⟩, fun j x hx => by simp at hx⟩
theorem OutsOwn.outs {w : World} {base top : Nat} {v : Value} {ys : List OutD} (h : OutsOwn w base top v ys) : Outs w base top v ys := by
  obtain ⟨cells, ⟨hown, ht⟩, hall⟩ := h
  rcases hown.2 with ⟨rfl, h0⟩ | ⟨g, cap, cur, rfl, hb, hg, hn, hm, hs, htk⟩
  · have : ys = [] := List.eq_nil_of_length_eq_zero h0
    subst this
    exact Outs.nil _ _ _
  · refine ⟨_, cap, rfl, hn, .inr ⟨g, 0, rfl, hb, ht g rfl, fun k x hk => ?_⟩⟩
    obtain ⟨c0, c1⟩ := hall k x hk
    have hc := hown.cells (g := g) rfl
    have a0 := hc _ _ c0
    have a1 := hc _ _ c1
    simp only [Addr.add_lit, Nat.zero_add] at a0 a1
    rw [Nat.zero_add]
    exact ⟨a0, a1⟩
/-- One output more. -/
theorem OutsOwn.push {w1 : World} {base : Nat} {v' : Value} {ys : List OutD} {cells : List Value} {x : OutD} (hlen : cells.length = ys.length * 2)
    (hall : ∀ (j : Nat) (x : OutD), ys[j]? = some x → cells[j * 2]? = some (.int .i64 x.val) ∧ cells[j * 2 + 1]? = some (.string x.scr))
    (hown' : w1.ownsRow base 62 2 v' (ys.length + 1) (cells ++ [.int .i64 x.val, .string x.scr])) : OutsOwn w1 base w1.heap.size v' (ys ++ [x]) := by
  refine ⟨_, by simpa using OwnAt.of_own hown', fun j y hy => ?_⟩
  by_cases hj : j < ys.length
  · rw [List.getElem?_append_left hj] at hy
    obtain ⟨c0, c1⟩ := hall j y hy
    refine ⟨?_, ?_⟩
    · rw [List.getElem?_append_left (by omega)]; exact c0
    · rw [List.getElem?_append_left (by omega)]; exact c1
  · have hj2 : j = ys.length := by
      have := (List.getElem?_eq_some_iff.1 hy).1
      simp at this; omega
    subst hj2
    simp at hy
    subst hy
    refine ⟨?_, ?_⟩
    · rw [List.getElem?_append_right (by omega), hlen]; simp
    · rw [List.getElem?_append_right (by omega), hlen]; simp

end Go.Proofs.YtnmfjnfdnjjngaaGreatDoor

namespace Go.Proofs.YtnmfjnfdnjjngaaGreatDoor
open Go.RowKit Go.ChangeMaps
set_option maxRecDepth 100000

theorem laidOut : laidOutB Tryz.prog = true := by kernel_rfl
theorem keyed : Maps.Keyed Tryz.prog 60 := Maps.Keyed.of_law (deep_law_laid laidOut (m := 200) (by omega) (of_decide_eq_true (by kernel_rfl)) (by kernel_rfl) (by kernel_rfl))

/-- A point as a map's key. -/
def kv (x : InD) : Value := .agg #[.string x.id, .int .u32 x.ix]

theorem bytes_ext {a b : ByteArray} (h : a.toList = b.toList) : a = b := by
  rw [ByteArray.toList_eq, ByteArray.toList_eq] at h
  obtain ⟨⟨x⟩⟩ := a
  obtain ⟨⟨y⟩⟩ := b
  simp at h
  rw [h]
theorem ptB_iff (a : ByteArray) (i : Int) (b : ByteArray) (j : Int) : ptB a i b j = true ↔ a = b ∧ i = j := by
  unfold ptB
  constructor
  · intro h
    simp at h
    exact ⟨bytes_ext h.1, h.2⟩
  · rintro ⟨rfl, rfl⟩; simp
theorem kv_inj {x y : InD} : kv x = kv y ↔ ptB x.id x.ix y.id y.ix = true := by
  rw [ptB_iff]; simp [kv]

theorem lits_id (d : Nat) (s : ByteArray) (h : s.size ≤ maxLen) : Tryz.prog.keyLits (d + 1) 9 [.string s] = some [.string s.data.toList] := by
  unfold Program.keyLits; simp only [Tryz.underlying9]; rw [if_pos h]
theorem lits_ix (d : Nat) (i : Int) (h : (Lit.int .u32 i).wf = true) : Tryz.prog.keyLits (d + 1) 47 [.int .u32 i] = some [.int .u32 i] := by
  unfold Program.keyLits; simp only [Tryz.underlying47]; rw [if_pos ⟨trivial, h⟩]
theorem cells40 : Tryz.prog.cellsOf 60 = 2 := by kernel_rfl
theorem cells9 : Tryz.prog.cellsOf 9 = 1 := by kernel_rfl
theorem cells22 : Tryz.prog.cellsOf 47 = 1 := by kernel_rfl
theorem lits_pt (d : Nat) (s : ByteArray) (i : Int) (h : s.size ≤ maxLen) (hi : (Lit.int .u32 i).wf = true) : Tryz.prog.keyLits (d + 1 + 1) 60 [.string s, .int .u32 i] = some [.string s.data.toList, .int .u32 i] := by
  unfold Program.keyLits
  simp only [Tryz.underlying60, cells40]
  rw [if_pos ⟨rfl, by simp⟩]
  simp [cells9, cells22, lits_id d s h, lits_ix d i hi]
theorem keyType40 : Tryz.prog.keyType 60 = true := by kernel_rfl

theorem key_of (x : InD) (h : x.Ok) : ∃ l, keyOf Tryz.prog 60 (kv x) = some l := by
  have h5 : x.id.size ≤ maxLen := by have := h.1; unfold maxLen; omega
  have h6 := WalkArith.wf_u32 ⟨h.2.1, h.2.2.1⟩
  obtain ⟨n, hn⟩ : ∃ n, Tryz.prog.types.size + 1 = n + 1 + 1 := ⟨Tryz.prog.types.size - 1, by have : 0 < Tryz.prog.types.size := of_decide_eq_true (by kernel_rfl); omega⟩
  refine ⟨.string (keyBytes [.string x.id.data.toList, .int .u32 x.ix]), ?_⟩
  have hf : (kv x).formed Tryz.prog 60 = true := by
    unfold kv Value.formed
    rw [Tryz.underlying60]
    simp [cells40]
  unfold keyOf
  rw [Tryz.underlying60]
  simp only [keyType40, hf, Bool.and_self, if_true, hn]
  show (Tryz.prog.keyLits (n + 1 + 1) 60 [.string x.id, .int .u32 x.ix]).map _ = _
  rw [lits_pt n x.id x.ix h5 h6]
  rfl

/-- How many inputs spend a point. -/
def cnt (xs : List InD) (x : InD) : Nat := xs.countP fun y => ptB y.id y.ix x.id x.ix

theorem cnt_congr {xs : List InD} {x y : InD} (h : kv x = kv y) : cnt xs x = cnt xs y := by
  obtain ⟨h1, h2⟩ := (ptB_iff _ _ _ _).1 (kv_inj.1 h)
  unfold cnt; rw [h1, h2]
theorem cnt_none {xs : List InD} {x : InD} (h : ∀ y ∈ xs, kv y ≠ kv x) : cnt xs x = 0 := by
  unfold cnt
  rw [List.countP_eq_zero]
  intro y hy h2
  exact h y hy (kv_inj.2 h2)
theorem cnt_snoc_same {xs : List InD} {x y : InD} (h : kv y = kv x) : cnt (xs ++ [y]) x = cnt xs x + 1 := by
  unfold cnt
  rw [List.countP_append]
  simp [kv_inj.1 h]
theorem cnt_snoc_other {xs : List InD} {x y : InD} (h : kv y ≠ kv x) : cnt (xs ++ [y]) x = cnt xs x := by
  unfold cnt
  rw [List.countP_append]
  have : ptB y.id y.ix x.id x.ix = false := by
    rw [Bool.eq_false_iff]; intro h2; exact h (kv_inj.2 h2)
  simp [this]

/-- The block b is a map that has counted the points of xs. -/
def MapIs (w : World) (b : Nat) (xs : List InD) : Prop :=
  ∃ es clock, w.heap[b]? = some (.map es clock) ∧ (∀ e ∈ es.toList, e.born < clock) ∧ (es.toList.map (·.born)).Nodup ∧ (es.toList.map (·.key)).Pairwise (· ≠ ·) ∧
    (∀ e ∈ es.toList, ∃ x ∈ xs, e.key = kv x ∧ e.val = .int .i64 (cnt xs x)) ∧ (∀ x ∈ xs, ∃ e ∈ es.toList, e.key = kv x) ∧ ∀ x ∈ xs, x.Ok

theorem MapIs.lt {w : World} {b : Nat} {xs : List InD} (h : MapIs w b xs) : b < w.heap.size := by
  obtain ⟨es, clock, hb, _⟩ := h
  rcases Nat.lt_or_ge b w.heap.size with hlt | hge
  · exact hlt
  · rw [Array.getElem?_eq_none hge] at hb; cases hb
theorem MapIs.keep {w w' : World} {b : Nat} {xs : List InD} (h : MapIs w b xs) (hk : w'.heap[b]? = w.heap[b]?) : MapIs w' b xs := by
  obtain ⟨es, clock, hb, r⟩ := h
  exact ⟨es, clock, hk.trans hb, r⟩
theorem MapIs.made (w : World) : MapIs (w.alloc (.map #[] 0)) w.heap.size [] := by
  refine ⟨#[], 0, heap_alloc_new w _, by simp, by simp, by simp, by simp, by simp, by simp⟩

/-- What a look-up tells. -/
theorem MapIs.look {w : World} {b : Nat} {xs : List InD} (h : MapIs w b xs) {x : InD} (hx : x.Ok) :
    (Instr.lookup 227 (.map (some b)) (.agg #[.string x.id, .int .u32 x.ix]) false).run Tryz.prog w = .ok (.int .i64 (cnt xs x)) w := by
  obtain ⟨es, clock, hb, h1, h2, h3, h4, h5, h6⟩ := h
  obtain ⟨l, hl⟩ := key_of x hx
  have hz : (zeroValue 3).run Tryz.prog w = .ok (.int .i64 0) w := by kernel_rfl
  have hks : ∀ e ∈ es.toList, ∃ l, keyOf Tryz.prog 60 e.key = some l := fun e he => by
    obtain ⟨y, hy, hk, _⟩ := h4 e he
    rw [hk]; exact key_of y (h6 y hy)
  have hch := keyed.check w es.isEmpty hl
  rcases keyed.find w hl es.toList hks with ⟨f1, f2⟩ | ⟨j, e0, f1, f2, f3⟩
  · have c0 : cnt xs x = 0 := cnt_none fun y hy hk => by
      obtain ⟨e, he, hk'⟩ := h5 y hy
      exact f2 e he (hk'.trans hk)
    show (Instr.lookup 227 (.map (some b)) (kv x) false).run Tryz.prog w = _
    simp [Instr.lookup, run_underlying Tryz.underlying227, MapKept.run_getObj_map hb, hch, f1, hz, c0, Result.andThen]
  · obtain ⟨y, hy, hk, hv⟩ := h4 e0 (List.mem_of_getElem? f2)
    have c0 : cnt xs y = cnt xs x := cnt_congr (hk.symm.trans f3)
    show (Instr.lookup 227 (.map (some b)) (kv x) false).run Tryz.prog w = _
    simp [Instr.lookup, run_underlying Tryz.underlying227, MapKept.run_getObj_map hb, hch, f1, hv, c0, Result.andThen]

theorem set_heap_at {w : World} {b : Nat} (o : Obj) (h : b < w.heap.size) : (setBlock w b o).heap[b]? = some o := by
  simp [setBlock, h]
theorem set_heap_other {w : World} {b k : Nat} (o : Obj) (h : k ≠ b) : (setBlock w b o).heap[k]? = w.heap[k]? := by
  simp [setBlock, Array.getElem?_setIfInBounds]
  intro e; exact absurd e.symm h
theorem set_size (w : World) (b : Nat) (o : Obj) : (setBlock w b o).heap.size = w.heap.size := by simp [setBlock]

/-- What turns but block b: nothing. -/
def But (b : Nat) (w w' : World) : Prop := w'.os = w.os ∧ w'.tape = w.tape ∧ w'.output = w.output ∧ w'.heap.size = w.heap.size ∧ ∀ k, k ≠ b → w'.heap[k]? = w.heap[k]?
theorem But.of_set (w : World) (b : Nat) (o : Obj) : But b w (setBlock w b o) := ⟨rfl, rfl, rfl, set_size _ _ _, fun _ h => set_heap_other o h⟩
theorem But.below {b B : Nat} {a w w' : World} (h : Below B a w) (k : But b w w') (hb : B ≤ b) : Below B a w' :=
  ⟨k.1.trans h.os, k.2.1.trans h.tape, k.2.2.1.trans h.output, by rw [k.2.2.2.1]; exact h.size, fun i hi => (k.2.2.2.2 i (by omega)).trans (h.block i hi)⟩
theorem But.cell {b : Nat} {w w' : World} (h : But b w w') {k o : Nat} (hk : k ≠ b) : w'.cell? ⟨k, o, none⟩ = w.cell? ⟨k, o, none⟩ := World.cell?_of_block (w := w) (h.2.2.2.2 k hk)

theorem run_entryStore {w : World} {b st j : Nat} {es : Array MapEntry} {clock : Nat} (val : Value) (hb : w.heap[b]? = some (.map es clock)) (hidx : es.findIdx? (fun e => ((e.born : Nat) : Int) == ((st : Nat) : Int)) = some j) :
    (Instr.entryStore 227 (.map (some b)) (goInt st) val).run Tryz.prog w = .ok () (setBlock w b (.map (es.modify j fun e => { e with val := val }) clock)) := by
  simp [Instr.entryStore, MapKept.run_getObj_map hb, asInt, asIntOf, goInt, hidx, MapKept.run_setObj_map _ hb, Result.andThen, setBlock]

/-- A point is counted up: its entry is found or made, and told anew. -/
theorem MapIs.step {w : World} {b : Nat} {xs : List InD} (h : MapIs w b xs) {x : InD} (hx : x.Ok) :
    ∃ (st : Nat) (w1 w2 : World), (Instr.mapEntry 227 (.map (some b)) (.agg #[.string x.id, .int .u32 x.ix])).run Tryz.prog w = .ok (.tuple #[.int .i64 (cnt xs x), goInt st]) w1 ∧
      (Instr.lookup 227 (.map (some b)) (.agg #[.string x.id, .int .u32 x.ix]) false).run Tryz.prog w1 = .ok (.int .i64 (cnt xs x)) w1 ∧
      (Instr.entryStore 227 (.map (some b)) (goInt st) (.int .i64 ((cnt xs x : Int) + 1))).run Tryz.prog w1 = .ok () w2 ∧ But b w w1 ∧ But b w1 w2 ∧ MapIs w2 b (xs ++ [x]) := by
  have hbl := h.lt
  obtain ⟨es, clock, hb, h1, h2, h3, h4, h5, h6⟩ := h
  obtain ⟨l, hl⟩ := key_of x hx
  have hz : (zeroValue 3).run Tryz.prog w = .ok (.int .i64 0) w := by kernel_rfl
  have hks : ∀ e ∈ es.toList, ∃ l, keyOf Tryz.prog 60 e.key = some l := fun e he => by
    obtain ⟨y, hy, hk, _⟩ := h4 e he
    rw [hk]; exact key_of y (h6 y hy)
  have hch := keyed.check w false hl
  rcases keyed.find w hl es.toList hks with ⟨f1, f2⟩ | ⟨j, e0, f1, f2, f3⟩
  · have c0 : cnt xs x = 0 := cnt_none fun y hy hk => by
      obtain ⟨e, he, hk'⟩ := h5 y hy
      exact f2 e he (hk'.trans hk)
    let es1 := es.push ⟨kv x, .int .i64 0, clock⟩
    let es2 := es.push ⟨kv x, .int .i64 1, clock⟩
    have hb1 : (setBlock w b (.map es1 (clock + 1))).heap[b]? = some (.map es1 (clock + 1)) := set_heap_at _ hbl
    have hborn : (es1.toList.map (·.born)).Nodup := by
      simp only [es1, Array.toList_push, List.map_append, List.map_cons, List.map_nil]
      refine List.nodup_append.2 ⟨h2, by simp, fun a ha c hc e1 => ?_⟩
      simp only [List.mem_singleton] at hc
      obtain ⟨y, hy, rfl⟩ := List.mem_map.1 ha
      have := h1 y hy
      omega
    have hm1 : ∀ u ∈ es1.toList, ∃ l, keyOf Tryz.prog 60 u.key = some l := by
      intro u hu
      simp only [es1, Array.toList_push, List.mem_append, List.mem_singleton] at hu
      rcases hu with hu | rfl
      · exact hks u hu
      · exact ⟨l, hl⟩
    have hidx : es1.findIdx? (fun e => ((e.born : Nat) : Int) == ((clock : Nat) : Int)) = some es.size := by
      rw [WideElems.findIdx_arr]
      exact WideElems.findIdx_born (l := es1.toList) (j := es.size) (e0 := ⟨kv x, .int .i64 0, clock⟩) hborn (by simp [es1])
    have hmod : es1.modify es.size (fun e => { e with val := .int .i64 1 }) = es2 := by
      apply Array.ext'
      rw [Array.toList_modify]
      simp only [es1, es2, Array.toList_push]
      rw [← Array.length_toList, WideElems.modify_last]
    refine ⟨clock, setBlock w b (.map es1 (clock + 1)), setBlock (setBlock w b (.map es1 (clock + 1))) b (.map es2 (clock + 1)), ?_, ?_, ?_, But.of_set _ _ _, But.of_set _ _ _, ?_⟩
    · show (Instr.mapEntry 227 (.map (some b)) (kv x)).run Tryz.prog w = _
      rw [c0]
      simp [Instr.mapEntry, run_underlying Tryz.underlying227, MapKept.run_getObj_map hb, hch, f1, hz, MapKept.run_setObj_map _ hb, Result.andThen, setBlock, es1]
    · show (Instr.lookup 227 (.map (some b)) (kv x) false).run Tryz.prog _ = _
      have hch' := keyed.check (setBlock w b (.map es1 (clock + 1))) es1.isEmpty hl
      rcases keyed.find (setBlock w b (.map es1 (clock + 1))) hl es1.toList hm1 with ⟨_, g2⟩ | ⟨j, e0, g1, g2, g3⟩
      · exact absurd rfl (g2 ⟨kv x, .int .i64 0, clock⟩ (by simp [es1]))
      · have hv : e0.val = .int .i64 0 := by
          have hm := List.mem_of_getElem? g2
          simp only [es1, Array.toList_push, List.mem_append, List.mem_singleton] at hm
          rcases hm with hm | rfl
          · exact absurd g3 (f2 e0 hm)
          · rfl
        rw [c0]
        simp [Instr.lookup, run_underlying Tryz.underlying227, MapKept.run_getObj_map hb1, hch', g1, hv, Result.andThen]
    · rw [c0, run_entryStore _ hb1 hidx]
      show Result.ok () (setBlock _ b (.map (es1.modify es.size fun e => { e with val := .int .i64 1 }) (clock + 1))) = _
      rw [hmod]
    · refine ⟨es2, clock + 1, set_heap_at _ (by rw [set_size]; exact hbl), ?_, ?_, ?_, ?_, ?_, ?_⟩
      · intro e he
        simp only [es2, Array.toList_push, List.mem_append, List.mem_singleton] at he
        rcases he with he | rfl
        · have := h1 e he; omega
        · simp
      · simpa [es1, es2] using hborn
      · simp only [es2, Array.toList_push, List.map_append, List.map_cons, List.map_nil]
        refine List.pairwise_append.2 ⟨h3, by simp, fun a ha c hc e1 => ?_⟩
        simp only [List.mem_singleton] at hc
        obtain ⟨y, hy, rfl⟩ := List.mem_map.1 ha
        exact f2 y hy (e1.trans hc)
      · intro e he
        simp only [es2, Array.toList_push, List.mem_append, List.mem_singleton] at he
        rcases he with he | rfl
        · obtain ⟨y, hy, hk, hv⟩ := h4 e he
          exact ⟨y, List.mem_append_left _ hy, hk, by rw [cnt_snoc_other (fun h' => f2 e he (hk.trans h'.symm)), hv]⟩
        · exact ⟨x, by simp, rfl, by rw [cnt_snoc_same rfl, c0]; rfl⟩
      · intro y hy
        rcases List.mem_append.1 hy with hy | hy
        · obtain ⟨e, he, hk⟩ := h5 y hy
          exact ⟨e, by simp [es2, he], hk⟩
        · simp only [List.mem_singleton] at hy
          subst hy
          exact ⟨⟨kv y, .int .i64 1, clock⟩, by simp [es2], rfl⟩
      · intro y hy
        rcases List.mem_append.1 hy with hy | hy
        · exact h6 y hy
        · simp only [List.mem_singleton] at hy; subst hy; exact hx
  · obtain ⟨y, hy, hk, hv⟩ := h4 e0 (List.mem_of_getElem? f2)
    have c0 : cnt xs y = cnt xs x := cnt_congr (hk.symm.trans f3)
    rw [c0] at hv
    have hj : es[j]? = some e0 := by simpa using f2
    have hsame : es.modify j (fun e => { e with key := kv x }) = es := by
      apply Array.ext'
      rw [Array.toList_modify, modify_eq_set _ _ _ _ f2]
      have : ({ e0 with key := kv x } : MapEntry) = e0 := by rw [← f3]
      rw [this]
      exact WideElems.set_self _ _ _ f2
    have hb1 : (setBlock w b (.map es clock)).heap[b]? = some (.map es clock) := set_heap_at _ hbl
    have hidx : es.findIdx? (fun e => ((e.born : Nat) : Int) == ((e0.born : Nat) : Int)) = some j := by
      rw [WideElems.findIdx_arr]
      exact WideElems.findIdx_born h2 f2
    let es2 := es.modify j (fun e => { e with val := .int .i64 ((cnt xs x : Int) + 1) })
    have hes2 : es2.toList = es.toList.set j { e0 with val := .int .i64 ((cnt xs x : Int) + 1) } := by
      simp only [es2]
      rw [Array.toList_modify, modify_eq_set _ _ _ _ f2]
    have hst := keyed.stays w hl
    refine ⟨e0.born, setBlock w b (.map es clock), setBlock (setBlock w b (.map es clock)) b (.map es2 clock), ?_, ?_, ?_, But.of_set _ _ _, But.of_set _ _ _, ?_⟩
    · show (Instr.mapEntry 227 (.map (some b)) (kv x)).run Tryz.prog w = _
      simp [Instr.mapEntry, run_underlying Tryz.underlying227, MapKept.run_getObj_map hb, hch, f1, hj, f3, hst, hsame, hv, MapKept.run_setObj_map _ hb, Result.andThen, setBlock]
    · exact MapIs.look ⟨es, clock, hb1, h1, h2, h3, h4, h5, h6⟩ hx
    · exact run_entryStore _ hb1 hidx
    · have hjl : j < es.toList.length := (List.getElem?_eq_some_iff.1 f2).1
      have mem2 : ∀ e ∈ es2.toList, e = { e0 with val := .int .i64 ((cnt xs x : Int) + 1) } ∨ (e ∈ es.toList ∧ e.key ≠ kv x) := by
        intro e he
        rw [hes2] at he
        obtain ⟨i, hi⟩ := List.getElem?_of_mem he
        rw [List.getElem?_set] at hi
        by_cases hij : j = i
        · rw [if_pos hij] at hi
          subst hij
          rw [if_pos hjl] at hi
          injection hi with hi
          exact .inl hi.symm
        · rw [if_neg hij] at hi
          refine .inr ⟨List.mem_of_getElem? hi, fun hk' => ?_⟩
          rw [List.pairwise_iff_getElem] at h3
          have hil := (List.getElem?_eq_some_iff.1 hi).1
          have e1 : (es.toList.map (·.key))[i]'(by simpa using hil) = kv x := by
            rw [List.getElem_map]; rw [(List.getElem?_eq_some_iff.1 hi).2]; exact hk'
          have e2 : (es.toList.map (·.key))[j]'(by simpa using hjl) = kv x := by
            rw [List.getElem_map]; rw [(List.getElem?_eq_some_iff.1 f2).2]; exact f3
          rcases Nat.lt_or_gt_of_ne hij with hlt | hgt
          · exact h3 j i (by simpa using hjl) (by simpa using hil) hlt (e2.trans e1.symm)
          · exact h3 i j (by simpa using hil) (by simpa using hjl) hgt (e1.trans e2.symm)
      have keys2 : es2.toList.map (·.key) = es.toList.map (·.key) := by
        rw [hes2, List.map_set]
        exact WideElems.set_self _ _ _ (by simp [f2])
      have borns2 : es2.toList.map (·.born) = es.toList.map (·.born) := by
        rw [hes2, List.map_set]
        exact WideElems.set_self _ _ _ (by simp [f2])
      refine ⟨es2, clock, set_heap_at _ (by rw [set_size]; exact hbl), ?_, by rw [borns2]; exact h2, by rw [keys2]; exact h3, ?_, ?_, ?_⟩
      · intro e he
        rcases mem2 e he with rfl | ⟨he, _⟩
        · exact h1 e0 (List.mem_of_getElem? f2)
        · exact h1 e he
      · intro e he
        rcases mem2 e he with rfl | ⟨he, hne⟩
        · exact ⟨x, by simp, f3, by rw [cnt_snoc_same rfl]; simp⟩
        · obtain ⟨y, hy, hk, hv⟩ := h4 e he
          exact ⟨y, List.mem_append_left _ hy, hk, by rw [cnt_snoc_other (fun h' => hne (hk.trans h'.symm)), hv]⟩
      · intro y' hy'
        have : kv y' ∈ es.toList.map (·.key) := by
          rcases List.mem_append.1 hy' with hy' | hy'
          · obtain ⟨e, he, hk⟩ := h5 y' hy'
            rw [← hk]; exact List.mem_map_of_mem he
          · simp only [List.mem_singleton] at hy'
            subst hy'
            rw [← f3]; exact List.mem_map_of_mem (List.mem_of_getElem? f2)
        rw [← keys2] at this
        obtain ⟨e, he, hk⟩ := List.mem_map.1 this
        exact ⟨e, he, hk⟩
      · intro y' hy'
        rcases List.mem_append.1 hy' with hy' | hy'
        · exact h6 y' hy'
        · simp only [List.mem_singleton] at hy'; subst hy'; exact hx

end Go.Proofs.YtnmfjnfdnjjngaaGreatDoor
