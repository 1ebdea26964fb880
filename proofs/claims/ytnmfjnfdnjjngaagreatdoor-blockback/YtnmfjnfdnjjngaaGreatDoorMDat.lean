/-
  Coins as plain data, and how they lie in memory.
  Coins in the order of their points: lists that are put into, taken from, looked through; all as plain functions.
  A map of coins by their points, and the set that holds it.
  The small calls: amounts, points in order, a new set, how many coins it has and what they come to; an ID of the document's.
-/
import Derived.Test.YtnmfjnfdnjjngaaGreatDoorRows
import Derived.WalkKit
import Derived.WalkSpells
import Derived.WalkLawsBesides
import Derived.Deep.Draws
import Derived.Deep.QuietTactic
import Derived.Deep.OwnRows
import Derived.BigQuiet
import Derived.Lib.Hide
import Derived.Laws.StructEq
import Derived.Shelf.SlicesE.Kit
import Derived.Deep.AppendLies
import Derived.DeepKeys4
import Derived.WideKeyEntry
import Derived.Maps.Keyed
import Derived.Carry
import Derived.Deep.LoopGhost
import Derived.Laws.BitsLemmas
import Derived.Laws.Concat
import Derived.Laws.BytesArg

namespace Go.Proofs.YtnmfjnfdnjjngaaGreatDoor.Co
open Go.RowKit
set_option maxRecDepth 100000

theorem ret_int {k : IntKind} {a b : Int} (h : a = b) : Ending.returned (.int k a) = .returned (.int k b) := by rw [h]
theorem ret_bool {a b : Bool} (h : a = b) : Ending.returned (.bool a) = .returned (.bool b) := by rw [h]

/-- A coin at its point. -/
structure EnD where
  id : ByteArray
  ix : Int
  val : Int
  scr : ByteArray
  ht : Int
/-- No coin. -/
def e0 : EnD := ⟨⟨#[]⟩, 0, 0, ⟨#[]⟩, 0⟩
instance : Inhabited EnD := ⟨e0⟩
/-- A point that may be looked for. -/
def PtOk (a : ByteArray) (i : Int) : Prop := a.size ≤ 64 ∧ 0 ≤ i ∧ i ≤ 4294967295
/-- A coin that may be put. -/
def CoOk (x : EnD) : Prop := -9223372036854775808 ≤ x.val ∧ x.val ≤ 9223372036854775807 ∧ x.scr.size ≤ 64 ∧ -9223372036854775808 ≤ x.ht ∧ x.ht ≤ 9223372036854775807
def EnD.Ok (x : EnD) : Prop := PtOk x.id x.ix ∧ CoOk x
/-- Its five cells. -/
def encE (x : EnD) : List Value := [.string x.id, .int .u32 x.ix, .int .i64 x.val, .string x.scr, .int .i64 x.ht]
theorem encE_len (x : EnD) : (encE x).length = 5 := rfl
theorem encE_one (x : EnD) : ∀ v ∈ encE x, v.oneCell' = true := by
  intro v hv
  simp only [encE, List.mem_cons, List.not_mem_nil, or_false] at hv
  rcases hv with rfl | rfl | rfl | rfl | rfl <;> rfl
/-- All cells of a list of coins. -/
def cellsE (xs : List EnD) : List Value := xs.flatMap encE
theorem cellsE_len (xs : List EnD) : (cellsE xs).length = xs.length * 5 := by
  induction xs with
  | nil => rfl
  | cons x r ih => simp only [cellsE, List.flatMap_cons, List.length_append, encE_len, List.length_cons] at *; rw [ih]; omega
theorem cellsE_snoc (xs : List EnD) (x : EnD) : cellsE (xs ++ [x]) = cellsE xs ++ encE x := by simp [cellsE]
theorem cellsE_get {xs : List EnD} {k : Nat} {x : EnD} (h : xs[k]? = some x) {i : Nat} (hi : i < 5) : (cellsE xs)[k * 5 + i]? = (encE x)[i]? := by
  induction xs generalizing k with
  | nil => simp at h
  | cons y r ih =>
    show (encE y ++ cellsE r)[k * 5 + i]? = _
    cases k with
    | zero =>
      simp at h
      subst h
      rw [List.getElem?_append_left (by rw [encE_len]; omega)]
      simp
    | succ k =>
      simp at h
      rw [List.getElem?_append_right (by rw [encE_len]; omega), encE_len, show (k + 1) * 5 + i - 5 = k * 5 + i from by omega]
      exact ih h

/-- The blocks from lo on, ahead of hi, are in w' as they were in w. -/
def Kept (lo hi : Nat) (w w' : World) : Prop := ∀ b, lo ≤ b → b < hi → w'.heap[b]? = w.heap[b]?

theorem Kept.refl (lo hi : Nat) (w : World) : Kept lo hi w w := fun _ _ _ => rfl
theorem Kept.trans {lo hi : Nat} {a b c : World} (h : Kept lo hi a b) (k : Kept lo hi b c) : Kept lo hi a c := fun i h1 h2 => (k i h1 h2).trans (h i h1 h2)
theorem Kept.of_below {lo hi B : Nat} {w w' : World} (h : Below B w w') (hB : hi ≤ B) : Kept lo hi w w' := fun b _ hb => h.block b (by omega)
theorem Kept.cell {lo hi : Nat} {w w' : World} (h : Kept lo hi w w') {b o : Nat} (h1 : lo ≤ b) (h2 : b < hi) : w'.cell? ⟨b, o, none⟩ = w.cell? ⟨b, o, none⟩ := World.cell?_of_block (w := w) (h b h1 h2)
theorem Kept.alloc {lo hi : Nat} {w : World} (hi' : hi ≤ w.heap.size) (o : Obj) : Kept lo hi w (w.alloc o) := fun b _ hb => Below.heap_alloc _ _ _ (by omega)
theorem Kept.setCell {lo hi : Nat} {w : World} {p : Addr} (hp : p.block < lo ∨ hi ≤ p.block) (u : Value) : Kept lo hi w (w.setCell p u) := fun b h1 h2 => Below.heap_setCell _ _ _ _ (by omega)
theorem Kept.mono {lo hi lo' hi' : Nat} {w w' : World} (h : Kept lo hi w w') (h1 : lo ≤ lo') (h2 : hi' ≤ hi) : Kept lo' hi' w w' := fun b a c => h b (by omega) (by omega)

theorem below_drewN {B : Nat} {a w : World} (h : Below B a w) (n : Nat) : Below B a (w.drewN n) := ⟨h.os, h.tape, h.output, h.size, h.block⟩
/-- A step from a world to the next, each as below its own size. -/
theorem below_next {B : Nat} {a w w' : World} (h : Below B a w) (hB : B ≤ w.heap.size) (k : Below w.heap.size w w') : Below B a w' := h.trans (k.mono hB)
theorem lt_of_cell {w : World} {b o : Nat} {v : Value} (h : w.cell? ⟨b, o, none⟩ = some v) : b < w.heap.size := by
  rcases Nat.lt_or_ge b w.heap.size with hlt | hge
  · exact hlt
  · simp [World.cell?, Array.getElem?_eq_none hge] at h

/-- A row of the call's own, in a block ahead of top. -/
def OwnAt (w : World) (base top : Nat) (e : TypeId) (size : Nat) (v : Value) (n : Nat) (xs : List Value) : Prop := w.ownsRow base e size v n xs ∧ ∀ g, v.ownBlock = some g → g < top

/-- The blocks of element type e, from base on, ahead of top, are as they were. -/
def StayE (base top : Nat) (e : TypeId) (w w' : World) : Prop := ∀ b cur, base ≤ b → b < top → w.heap[b]? = some (.cells cur e (0, 0)) → w'.heap[b]? = w.heap[b]?

theorem StayE.of_below {base top : Nat} {e : TypeId} {B : Nat} {w w' : World} (h : Below B w w') (hB : top ≤ B) : StayE base top e w w' := fun b _ _ hb _ => h.block b (by omega)
theorem StayE.trans {base top : Nat} {e : TypeId} {a b c : World} (h : StayE base top e a b) (k : StayE base top e b c) : StayE base top e a c := fun i cur h1 h2 h3 => by
  have e1 := h i cur h1 h2 h3
  exact (k i cur h1 h2 (e1.trans h3)).trans e1
theorem StayE.alloc {base top : Nat} {e : TypeId} {w : World} (o : Obj) (h : top ≤ w.heap.size) : StayE base top e w (w.alloc o) := fun b _ _ hb _ => Below.heap_alloc _ _ _ (by omega)
theorem StayE.setCell {base top : Nat} {e : TypeId} {w : World} {p : Addr} (hp : p.block < base ∨ top ≤ p.block) (u : Value) : StayE base top e w (w.setCell p u) := fun b _ h1 h2 _ => Below.heap_setCell _ _ _ _ (by omega)
theorem StayE.drew {base top : Nat} {e : TypeId} {w w' : World} (h : StayE base top e w w') : StayE base top e w w'.drew := h
/-- Behind an append to a row of another element type. -/
theorem StayE.grown {base top : Nat} {e e2 : TypeId} {w w' : World} {base2 size n : Nat} {v : Value} {xs : List Value} (hown : w.ownsRow base2 e2 size v n xs) (hg : w.grownBy w' v.ownBlock) (ht : top ≤ w.heap.size) (hne : e ≠ e2) : StayE base top e w w' := by
  intro b cur _ hb hbl
  refine hg.block b (by omega) (fun h => ?_)
  rcases hown.2 with ⟨rfl, _⟩ | ⟨g, cap, cur2, rfl, _, hh, _⟩
  · simp [Value.ownBlock] at h
  · simp [Value.ownBlock] at h
    subst h
    rw [hbl] at hh
    injection hh with hh
    injection hh with _ ht
    exact hne ht

theorem OwnAt.keep {w w' : World} {base top top' : Nat} {e : TypeId} {size : Nat} {v : Value} {n : Nat} {xs : List Value} (h : OwnAt w base top e size v n xs) (hs : StayE base top e w w') (ht : top ≤ top') : OwnAt w' base top' e size v n xs := by
  obtain ⟨⟨h1, h2⟩, h3⟩ := h
  refine ⟨⟨h1, ?_⟩, fun g hg => by have := h3 g hg; omega⟩
  rcases h2 with h2 | ⟨g, cap, cur, rfl, hb, hh, r⟩
  · exact .inl h2
  · exact .inr ⟨g, cap, cur, rfl, hb, by rw [hs g cur hb (h3 g rfl) hh]; exact hh, r⟩
theorem OwnAt.of_own {w : World} {base : Nat} {e : TypeId} {size : Nat} {v : Value} {n : Nat} {xs : List Value} (h : w.ownsRow base e size v n xs) : OwnAt w base w.heap.size e size v n xs := by
  refine ⟨h, fun g hg => ?_⟩
  rcases h.2 with ⟨rfl, _⟩ | ⟨g', cap, cur, rfl, _, hh, _⟩
  · simp [Value.ownBlock] at hg
  · simp [Value.ownBlock] at hg
    subst hg
    rcases Nat.lt_or_ge g' w.heap.size with hlt | hge
    · exact hlt
    · rw [Array.getElem?_eq_none hge] at hh; cases hh
theorem OwnAt.base {w : World} {base base' top : Nat} {e : TypeId} {size : Nat} {v : Value} {n : Nat} {xs : List Value} (h : OwnAt w base top e size v n xs) (hb : base' ≤ base) : OwnAt w base' top e size v n xs := by
  obtain ⟨⟨h1, h2⟩, h3⟩ := h
  refine ⟨⟨h1, ?_⟩, h3⟩
  rcases h2 with h2 | ⟨g, cap, cur, rfl, hb', r⟩
  · exact .inl h2
  · exact .inr ⟨g, cap, cur, rfl, by omega, r⟩

/-- The five cells of a coin, from offset o of block b on. -/
def EntAt (w : World) (b o : Nat) (x : EnD) : Prop :=
  w.cell? ⟨b, o, none⟩ = some (.string x.id) ∧ w.cell? ⟨b, o + 1, none⟩ = some (.int .u32 x.ix) ∧ w.cell? ⟨b, o + 2, none⟩ = some (.int .i64 x.val) ∧ w.cell? ⟨b, o + 3, none⟩ = some (.string x.scr) ∧ w.cell? ⟨b, o + 4, none⟩ = some (.int .i64 x.ht)
theorem EntAt.keep {w w' : World} {lo hi b o : Nat} {x : EnD} (h : EntAt w b o x) (h1 : lo ≤ b) (h2 : b < hi) (hk : Kept lo hi w w') : EntAt w' b o x :=
  ⟨(hk.cell h1 h2).trans h.1, (hk.cell h1 h2).trans h.2.1, (hk.cell h1 h2).trans h.2.2.1, (hk.cell h1 h2).trans h.2.2.2.1, (hk.cell h1 h2).trans h.2.2.2.2⟩
/-- The coins xs lie in the slice v. -/
def Ents (w : World) (lo hi : Nat) (v : Value) (xs : List EnD) : Prop :=
  ∃ (A : Option Addr) (c : Nat), v = .slice A xs.length c ∧ xs.length ≤ c ∧ (xs = [] ∨ ∃ b off, A = some ⟨b, off, none⟩ ∧ lo ≤ b ∧ b < hi ∧ ∀ k x, xs[k]? = some x → EntAt w b (off + k * 5) x)
theorem Ents.keep {w w' : World} {lo hi : Nat} {v : Value} {xs : List EnD} (h : Ents w lo hi v xs) (hk : Kept lo hi w w') : Ents w' lo hi v xs := by
  obtain ⟨A, c, rfl, hc, h⟩ := h
  refine ⟨A, c, rfl, hc, ?_⟩
  rcases h with h | ⟨b, off, rfl, h1, h2, h⟩
  · exact .inl h
  · exact .inr ⟨b, off, rfl, h1, h2, fun k s hs => (h k s hs).keep h1 h2 hk⟩
theorem Ents.wide {w : World} {lo hi lo' hi' : Nat} {v : Value} {xs : List EnD} (h : Ents w lo hi v xs) (h1 : lo' ≤ lo) (h2 : hi ≤ hi') : Ents w lo' hi' v xs := by
  obtain ⟨A, c, rfl, hc, h⟩ := h
  refine ⟨A, c, rfl, hc, ?_⟩
  rcases h with h | ⟨b, off, rfl, h3, h4, h⟩
  · exact .inl h
  · exact .inr ⟨b, off, rfl, by omega, by omega, h⟩
theorem Ents.nil (w : World) (lo hi : Nat) : Ents w lo hi (.slice none 0 0) [] := ⟨none, 0, rfl, Nat.le_refl _, .inl rfl⟩
theorem Ents.form {w : World} {lo hi : Nat} {v : Value} {xs : List EnD} (h : Ents w lo hi v xs) : ∃ A c, v = .slice A xs.length c := by
  obtain ⟨A, c, rfl, _⟩ := h
  exact ⟨A, c, rfl⟩
theorem Ents.at {w : World} {lo hi : Nat} {A : Option Addr} {n c : Nat} {xs : List EnD} (h : Ents w lo hi (.slice A n c) xs) {k : Nat} {x : EnD} (hx : xs[k]? = some x) :
    ∃ b off, A = some ⟨b, off, none⟩ ∧ lo ≤ b ∧ b < hi ∧ EntAt w b (off + k * 5) x := by
  obtain ⟨A', c', hv, hc, h⟩ := h
  injection hv with hA
  subst hA
  rcases h with rfl | ⟨b, off, rfl, h1, h2, h⟩
  · simp at hx
  · exact ⟨b, off, rfl, h1, h2, h k x hx⟩
/-- A row of the call's own, read. -/
theorem OwnAt.ents {w : World} {base top : Nat} {e : TypeId} {v : Value} {xs : List EnD} (h : OwnAt w base top e 5 v xs.length (cellsE xs)) : Ents w base top v xs := by
  obtain ⟨hown, ht⟩ := h
  rcases hown.2 with ⟨rfl, h0⟩ | ⟨g, cap, cur, rfl, hb, hg, hn, hm, hs, htk⟩
  · have : xs = [] := List.eq_nil_of_length_eq_zero h0
    subst this
    exact Ents.nil _ _ _
  · refine ⟨_, cap, rfl, hn, .inr ⟨g, 0, rfl, hb, ht g rfl, fun k x hk => ?_⟩⟩
    have hc := hown.cells (g := g) rfl
    have a0 := hc _ _ (cellsE_get hk (i := 0) (by omega))
    have a1 := hc _ _ (cellsE_get hk (i := 1) (by omega))
    have a2 := hc _ _ (cellsE_get hk (i := 2) (by omega))
    have a3 := hc _ _ (cellsE_get hk (i := 3) (by omega))
    have a4 := hc _ _ (cellsE_get hk (i := 4) (by omega))
    simp only [Addr.add_lit, Nat.zero_add, Nat.add_zero] at a0 a1 a2 a3 a4
    unfold EntAt
    rw [Nat.zero_add]
    exact ⟨a0, a1, a2, a3, a4⟩

end Go.Proofs.YtnmfjnfdnjjngaaGreatDoor.Co

namespace Go.Proofs.YtnmfjnfdnjjngaaGreatDoor.Co
open Go.RowKit
set_option maxRecDepth 100000

/-! ### The order of points -/

theorem bytes_ext {a b : ByteArray} (h : a.toList = b.toList) : a = b := by
  rw [ByteArray.toList_eq, ByteArray.toList_eq] at h
  obtain ⟨⟨x⟩⟩ := a
  obtain ⟨⟨y⟩⟩ := b
  simp at h
  rw [h]
theorem bl_irrefl (a : List UInt8) : Op.bytesLess a a = false := by
  induction a with
  | nil => rfl
  | cons x r ih => simp [Op.bytesLess, ih]
theorem bl_trans : ∀ (a b c : List UInt8), Op.bytesLess a b = true → Op.bytesLess b c = true → Op.bytesLess a c = true
  | _, [], _, h, _ => by simp [Op.bytesLess] at h
  | _, _ :: _, [], _, h => by simp [Op.bytesLess] at h
  | [], _ :: _, _ :: _, _, _ => rfl
  | x :: a, y :: b, z :: c, h1, h2 => by
    simp only [Op.bytesLess, Bool.or_eq_true, Bool.and_eq_true, decide_eq_true_eq, beq_iff_eq, UInt8.lt_iff_toNat_lt] at h1 h2 ⊢
    rcases h1 with h1 | ⟨rfl, h1⟩
    · rcases h2 with h2 | ⟨rfl, h2⟩
      · exact .inl (by omega)
      · exact .inl h1
    · rcases h2 with h2 | ⟨rfl, h2⟩
      · exact .inl h2
      · exact .inr ⟨rfl, bl_trans a b c h1 h2⟩
theorem bl_total : ∀ (a b : List UInt8), Op.bytesLess a b = false → Op.bytesLess b a = false → a = b
  | [], [], _, _ => rfl
  | [], _ :: _, h, _ => by simp [Op.bytesLess] at h
  | _ :: _, [], _, h => by simp [Op.bytesLess] at h
  | x :: a, y :: b, h1, h2 => by
    simp only [Op.bytesLess, Bool.or_eq_false_iff, Bool.and_eq_false_iff, decide_eq_false_iff_not, beq_eq_false_iff_ne, UInt8.lt_iff_toNat_lt] at h1 h2
    have e : x = y := UInt8.toNat_inj.1 (by omega)
    subst e
    rw [bl_total a b (by simpa using h1.2) (by simpa using h2.2)]

/-- Are two points one? -/
def ptB (a : ByteArray) (i : Int) (b : ByteArray) (j : Int) : Bool := (a.toList == b.toList) && (i == j)
/-- The order of points. -/
def lessB (a : ByteArray) (i : Int) (b : ByteArray) (j : Int) : Bool := if a.toList == b.toList then decide (i < j) else Op.bytesLess a.toList b.toList
theorem less_same {a : ByteArray} {i : Int} {b : ByteArray} {j : Int} (h : (a.toList == b.toList) = true) : lessB a i b j = decide (i < j) := by simp [lessB, h]
theorem less_other {a : ByteArray} {i : Int} {b : ByteArray} {j : Int} (h : (a.toList == b.toList) = false) : lessB a i b j = Op.bytesLess a.toList b.toList := by simp [lessB, h]
theorem ptB_iff {a : ByteArray} {i : Int} {b : ByteArray} {j : Int} : ptB a i b j = true ↔ a = b ∧ i = j := by
  unfold ptB
  constructor
  · intro h
    simp at h
    exact ⟨bytes_ext h.1, h.2⟩
  · rintro ⟨rfl, rfl⟩; simp
theorem less_iff {a : ByteArray} {i : Int} {b : ByteArray} {j : Int} : lessB a i b j = true ↔ (a = b ∧ i < j) ∨ Op.bytesLess a.toList b.toList = true := by
  by_cases h : a = b
  · subst h
    rw [less_same (by simp)]
    simp [bl_irrefl]
  · have : (a.toList == b.toList) = false := by
      rw [beq_eq_false_iff_ne]
      exact fun e => h (bytes_ext e)
    rw [less_other this]
    simp [h]

def lt (x y : EnD) : Bool := lessB x.id x.ix y.id y.ix
/-- Have two coins one point? -/
def same (x y : EnD) : Bool := ptB x.id x.ix y.id y.ix
theorem lt_irrefl (x : EnD) : lt x x = false := by
  rw [Bool.eq_false_iff]
  intro h
  rcases less_iff.1 h with ⟨_, h⟩ | h
  · omega
  · rw [bl_irrefl] at h; cases h
theorem lt_trans {x y z : EnD} (h1 : lt x y = true) (h2 : lt y z = true) : lt x z = true := by
  unfold lt at *
  rw [less_iff] at *
  rcases h1 with ⟨e1, h1⟩ | h1
  · rcases h2 with ⟨e2, h2⟩ | h2
    · exact .inl ⟨e1.trans e2, by omega⟩
    · rw [e1]; exact .inr h2
  · rcases h2 with ⟨e2, h2⟩ | h2
    · rw [← e2]; exact .inr h1
    · exact .inr (bl_trans _ _ _ h1 h2)
theorem lt_asymm {x y : EnD} (h1 : lt x y = true) : lt y x = false := by
  rw [Bool.eq_false_iff]
  intro h2
  have := lt_trans h1 h2
  rw [lt_irrefl] at this
  cases this
theorem lt_total {x y : EnD} (h1 : lt x y = false) (h2 : lt y x = false) : same x y = true := by
  unfold lt at *
  rw [Bool.eq_false_iff, ne_eq, less_iff, not_or] at h1 h2
  have e : x.id.toList = y.id.toList := bl_total _ _ (by simpa using h1.2) (by simpa using h2.2)
  have e := bytes_ext e
  refine ptB_iff.2 ⟨e, ?_⟩
  have g1 : ¬ x.ix < y.ix := fun h => h1.1 ⟨e, h⟩
  have g2 : ¬ y.ix < x.ix := fun h => h2.1 ⟨e.symm, h⟩
  omega
theorem same_lt {x y : EnD} (h : same x y = true) : lt x y = false := by
  obtain ⟨h1, h2⟩ := ptB_iff.1 h
  rw [Bool.eq_false_iff]
  intro h
  unfold lt at h
  rw [h1, h2] at h
  exact absurd h (by rw [show lessB y.id y.ix y.id y.ix = lt y y from rfl, lt_irrefl]; simp)
theorem same_comm {x y : EnD} : same x y = same y x := by
  rw [Bool.eq_iff_iff]
  unfold same
  rw [ptB_iff, ptB_iff]
  exact ⟨fun h => ⟨h.1.symm, h.2.symm⟩, fun h => ⟨h.1.symm, h.2.symm⟩⟩
theorem same_refl (x : EnD) : same x x = true := ptB_iff.2 ⟨rfl, rfl⟩
theorem lt_same_left {x x' y : EnD} (h : same x x' = true) : lt x y = lt x' y := by
  obtain ⟨h1, h2⟩ := ptB_iff.1 h
  unfold lt
  rw [h1, h2]
theorem lt_same_right {x y y' : EnD} (h : same y y' = true) : lt x y = lt x y' := by
  obtain ⟨h1, h2⟩ := ptB_iff.1 h
  unfold lt
  rw [h1, h2]

/-! ### Lists in order -/

/-- Each ahead of all that follow. -/
def Srt (l : List EnD) : Prop := l.Pairwise fun x y => lt x y = true
theorem Srt.nil : Srt [] := List.Pairwise.nil
theorem Srt.apart {l : List EnD} (h : Srt l) : l.Pairwise fun x y => same x y = false := h.imp fun {x y} hxy => by
  rw [Bool.eq_false_iff]
  intro e
  rw [same_lt e] at hxy
  cases hxy
theorem apart_perm {l m : List EnD} (hp : l.Perm m) (h : l.Pairwise fun x y => same x y = false) : m.Pairwise fun x y => same x y = false :=
  (hp.pairwise_iff (fun {x y} hxy => by rw [same_comm]; exact hxy)).1 h
/-- One point alone in a list without doubles. -/
theorem apart_eq {l : List EnD} (h : l.Pairwise fun x y => same x y = false) {x y : EnD} (hx : x ∈ l) (hy : y ∈ l) (hs : same x y = true) : x = y := by
  induction l with
  | nil => cases hx
  | cons a r ih =>
    obtain ⟨h1, h2⟩ := List.pairwise_cons.1 h
    rcases List.mem_cons.1 hx with e | hx'
    · rcases List.mem_cons.1 hy with e2 | hy'
      · exact e.trans e2.symm
      · rw [e, h1 _ hy'] at hs; cases hs
    · rcases List.mem_cons.1 hy with e2 | hy'
      · rw [same_comm, e2, h1 _ hx'] at hs; cases hs
      · exact ih h2 hx' hy'
/-- Two lists in order, each the other's permutation, are one. -/
theorem srt_unique : ∀ {l m : List EnD}, Srt l → Srt m → l.Perm m → l = m
  | [], m, _, _, hp => (List.nil_perm.1 hp).symm
  | a :: l, [], _, _, hp => by have := hp.length_eq; simp at this
  | a :: l, b :: m, h1, h2, hp => by
    obtain ⟨a1, a2⟩ := List.pairwise_cons.1 h1
    obtain ⟨b1, b2⟩ := List.pairwise_cons.1 h2
    have e : a = b := by
      rcases List.mem_cons.1 (hp.mem_iff.1 (List.mem_cons_self (a := a) (l := l))) with e | ha
      · exact e
      · rcases List.mem_cons.1 (hp.mem_iff.2 (List.mem_cons_self (a := b) (l := m))) with e | hb
        · exact e.symm
        · have := lt_asymm (a1 _ hb)
          rw [b1 _ ha] at this
          cases this
    subst e
    rw [srt_unique a2 b2 (List.perm_cons_self.1 hp)]
where
  List.perm_cons_self {a : EnD} {l m : List EnD} : (a :: l).Perm (a :: m) ↔ l.Perm m := List.perm_cons a

/-- All values together. -/
def tot (l : List EnD) : Int := (l.map (·.val)).sum
theorem tot_nil : tot [] = 0 := rfl
theorem tot_cons (x : EnD) (l : List EnD) : tot (x :: l) = x.val + tot l := by simp [tot]
theorem tot_append (l m : List EnD) : tot (l ++ m) = tot l + tot m := by simp [tot]
theorem tot_perm {l m : List EnD} (h : l.Perm m) : tot l = tot m := by
  induction h with
  | nil => rfl
  | cons x _ ih => rw [tot_cons, tot_cons, ih]
  | swap x y l => simp only [tot_cons]; omega
  | trans _ _ h1 h2 => rw [h1, h2]

/-- Is a point there; its coin. -/
def isB (a : ByteArray) (i : Int) (x : EnD) : Bool := ptB x.id x.ix a i
def hasB (l : List EnD) (a : ByteArray) (i : Int) : Bool := l.any (isB a i)
def atE (l : List EnD) (a : ByteArray) (i : Int) : EnD := (l.find? (isB a i)).getD e0
theorem isB_iff {a : ByteArray} {i : Int} {x : EnD} : isB a i x = true ↔ x.id = a ∧ x.ix = i := ptB_iff
theorem isB_same {x y : EnD} : isB y.id y.ix x = same x y := rfl
theorem hasB_iff {l : List EnD} {a : ByteArray} {i : Int} : hasB l a i = true ↔ ∃ x ∈ l, x.id = a ∧ x.ix = i := by
  unfold hasB
  rw [List.any_eq_true]
  exact ⟨fun ⟨x, hx, h⟩ => ⟨x, hx, isB_iff.1 h⟩, fun ⟨x, hx, h⟩ => ⟨x, hx, isB_iff.2 h⟩⟩
theorem atE_none {l : List EnD} {a : ByteArray} {i : Int} (h : hasB l a i = false) : atE l a i = e0 := by
  unfold atE
  rw [List.find?_eq_none.2 (by simpa [hasB] using h)]
  rfl
theorem atE_some {l : List EnD} (hl : l.Pairwise fun x y => same x y = false) {x : EnD} (hx : x ∈ l) : atE l x.id x.ix = x := by
  unfold atE
  cases h : l.find? (isB x.id x.ix) with
  | none =>
    have := List.find?_eq_none.1 h x hx
    exact absurd (same_refl x) this
  | some y =>
    have hs : isB x.id x.ix y = true := List.find?_some h
    exact apart_eq hl (List.mem_of_find?_eq_some h) hx hs
theorem atE_mem {l : List EnD} {a : ByteArray} {i : Int} (h : hasB l a i = true) : atE l a i ∈ l ∧ (atE l a i).id = a ∧ (atE l a i).ix = i := by
  unfold atE
  cases hf : l.find? (isB a i) with
  | none =>
    obtain ⟨x, hx, h1⟩ := List.any_eq_true.1 h
    exact absurd h1 (List.find?_eq_none.1 hf x hx)
  | some y =>
    have hs : isB a i y = true := List.find?_some hf
    exact ⟨List.mem_of_find?_eq_some hf, isB_iff.1 hs⟩

/-- A coin more, in its place. -/
def insR (x : EnD) : List EnD → List EnD
  | [] => [x]
  | y :: r => if lt x y = true then x :: y :: r else y :: insR x r
theorem insR_perm (x : EnD) : ∀ l, (insR x l).Perm (x :: l)
  | [] => List.Perm.refl _
  | y :: r => by
    unfold insR
    split
    · exact List.Perm.refl _
    · exact ((insR_perm x r).cons y).trans (List.Perm.swap x y r)
theorem insR_srt (x : EnD) : ∀ l, Srt l → (∀ y ∈ l, same x y = false) → Srt (insR x l)
  | [], _, _ => List.pairwise_singleton _ _
  | y :: r, h, hn => by
    obtain ⟨h1, h2⟩ := List.pairwise_cons.1 h
    unfold insR
    split
    · rename_i hxy
      refine List.pairwise_cons.2 ⟨fun z hz => ?_, h⟩
      rcases List.mem_cons.1 hz with rfl | hz
      · exact hxy
      · exact lt_trans hxy (h1 z hz)
    · rename_i hxy
      refine List.pairwise_cons.2 ⟨fun z hz => ?_, insR_srt x r h2 fun z hz => hn z (by simp [hz])⟩
      rcases List.mem_cons.1 ((insR_perm x r).mem_iff.1 hz) with rfl | hz
      · cases hyx : lt y z with
        | true => rfl
        | false =>
          have := lt_total (x := z) (y := y) (by simpa using hxy) hyx
          rw [hn y (by simp)] at this
          cases this
      · exact h1 z hz
/-- The same as the document goes: one by one, the new one once. -/
def insS (x : EnD) (s : List EnD × Bool) (y : EnD) : List EnD × Bool := if (lt x y && !s.2) = true then (s.1 ++ [x] ++ [y], true) else (s.1 ++ [y], s.2)
def insF (x : EnD) (l : List EnD) : List EnD × Bool := l.foldl (insS x) ([], false)
def insD (x : EnD) (l : List EnD) : List EnD := if (insF x l).2 = true then (insF x l).1 else (insF x l).1 ++ [x]
theorem insF_done (x : EnD) : ∀ (l acc : List EnD), l.foldl (insS x) (acc, true) = (acc ++ l, true)
  | [], acc => by simp
  | y :: r, acc => by
    rw [List.foldl_cons]
    have : insS x (acc, true) y = (acc ++ [y], true) := by simp [insS]
    rw [this, insF_done x r]
    simp
theorem insF_open (x : EnD) : ∀ (l acc : List EnD), (if (l.foldl (insS x) (acc, false)).2 = true then (l.foldl (insS x) (acc, false)).1 else (l.foldl (insS x) (acc, false)).1 ++ [x]) = acc ++ insR x l
  | [], acc => by simp [insR]
  | y :: r, acc => by
    rw [List.foldl_cons]
    by_cases h : lt x y = true
    · have : insS x (acc, false) y = (acc ++ [x] ++ [y], true) := by simp [insS, h]
      rw [this, insF_done]
      simp [insR, h]
    · have : insS x (acc, false) y = (acc ++ [y], false) := by simp [insS, h]
      rw [this, insF_open x r]
      simp [insR, h]
theorem insD_eq (x : EnD) (l : List EnD) : insD x l = insR x l := by
  unfold insD insF
  rw [insF_open]
  simp
theorem insF_step {x : EnD} {l : List EnD} {k : Nat} {y : EnD} (h : l[k]? = some y) : insF x (l.take (k + 1)) = insS x (insF x (l.take k)) y := by
  have e : l.take (k + 1) = l.take k ++ [y] := by
    rw [List.take_add_one, h]
    rfl
  unfold insF
  rw [e, List.foldl_append]
  rfl
theorem insF_len (x : EnD) : ∀ (l : List EnD) (s : List EnD × Bool), (l.foldl (insS x) s).1.length ≤ s.1.length + l.length + (if s.2 = true then 0 else 1)
  | [], s => by simp
  | y :: r, s => by
    rw [List.foldl_cons]
    refine Nat.le_trans (insF_len x r _) ?_
    unfold insS
    obtain ⟨a, b⟩ := s
    cases b <;> cases lt x y <;> simp <;> omega

/-- What is put. -/
def goodB (n : Int) : Bool := decide (0 ≤ n) && decide (n ≤ 2100000000000000)
theorem goodB_iff {n : Int} : goodB n = true ↔ 0 ≤ n ∧ n ≤ 2100000000000000 := by simp [goodB]
def argB (x : EnD) : Bool := decide (x.id.size = 32) && (decide (0 ≤ x.ht) && decide (x.ht ≤ 1000000) && goodB x.val)
def putE (l : List EnD) (x : EnD) : Int := if argB x = false then 2 else if hasB l x.id x.ix = true then 7 else if goodB (tot l + x.val) = false then 3 else 0
def putL (l : List EnD) (x : EnD) : List EnD := if putE l x = 0 then insR x l else l
/-- What is taken. -/
def delL (l : List EnD) (a : ByteArray) (i : Int) : List EnD := l.filter fun x => !isB a i x
def takeE (l : List EnD) (a : ByteArray) (i : Int) : Int := if hasB l a i = true then 0 else 8

theorem del_none {l : List EnD} {a : ByteArray} {i : Int} (h : hasB l a i = false) : delL l a i = l := by
  unfold delL
  rw [List.filter_eq_self]
  intro x hx
  have := List.any_eq_false.1 h x hx
  simp [this]
theorem del_srt {l : List EnD} (h : Srt l) (a : ByteArray) (i : Int) : Srt (delL l a i) := h.filter _
theorem del_perm {l : List EnD} (hl : l.Pairwise fun x y => same x y = false) {x : EnD} (hx : x ∈ l) : l.Perm (x :: delL l x.id x.ix) := by
  induction l with
  | nil => cases hx
  | cons y r ih =>
    obtain ⟨h1, h2⟩ := List.pairwise_cons.1 hl
    rcases List.mem_cons.1 hx with rfl | hx
    · have e : delL (x :: r) x.id x.ix = r := by
        unfold delL
        rw [List.filter_cons_of_neg (by rw [isB_same, same_refl]; simp), List.filter_eq_self]
        intro z hz
        rw [isB_same, same_comm, h1 z hz]
        rfl
      rw [e]
    · have e : delL (y :: r) x.id x.ix = y :: delL r x.id x.ix := by
        unfold delL
        rw [List.filter_cons_of_pos (by rw [isB_same, h1 x hx]; rfl)]
      rw [e]
      exact ((ih h2 hx).cons y).trans (List.Perm.swap x y _)
theorem del_tot {l : List EnD} (hl : l.Pairwise fun x y => same x y = false) {x : EnD} (hx : x ∈ l) : tot (delL l x.id x.ix) = tot l - x.val := by
  have := tot_perm (del_perm hl hx)
  rw [tot_cons] at this
  omega
theorem del_len (l : List EnD) (a : ByteArray) (i : Int) : (delL l a i).length ≤ l.length := List.length_filter_le _ _
theorem insR_len (x : EnD) (l : List EnD) : (insR x l).length = l.length + 1 := (insR_perm x l).length_eq
theorem putL_len (l : List EnD) (x : EnD) : (putL l x).length ≤ l.length + 1 := by
  unfold putL
  split
  · rw [insR_len]
    omega
  · omega

/-- A set's coins, as they may be. -/
structure Good (l : List EnD) : Prop where
  srt : Srt l
  ok : ∀ x ∈ l, x.Ok
  pos : ∀ x ∈ l, 0 ≤ x.val
  most : tot l ≤ 2100000000000000
theorem tot_pos {l : List EnD} (h : ∀ x ∈ l, 0 ≤ x.val) : 0 ≤ tot l := by
  induction l with
  | nil => simp [tot]
  | cons x r ih =>
    rw [tot_cons]
    have := h x (by simp)
    have := ih fun y hy => h y (by simp [hy])
    omega
theorem tot_take {l : List EnD} (h : ∀ x ∈ l, 0 ≤ x.val) (k : Nat) : 0 ≤ tot (l.take k) ∧ tot (l.take k) ≤ tot l := by
  have h1 := tot_pos (l := l.take k) fun x hx => h x (List.mem_of_mem_take hx)
  have h2 := tot_pos (l := l.drop k) fun x hx => h x (List.mem_of_mem_drop hx)
  have h3 : tot l = tot (l.take k) + tot (l.drop k) := by rw [← tot_append, List.take_append_drop]
  omega
theorem Good.nil : Good [] := ⟨Srt.nil, by simp, by simp, by simp [tot]⟩
theorem Good.zero {l : List EnD} (h : Good l) : 0 ≤ tot l := tot_pos h.pos
theorem put_zero {l : List EnD} {x : EnD} (h : putE l x = 0) : argB x = true ∧ hasB l x.id x.ix = false ∧ goodB (tot l + x.val) = true := by
  unfold putE at h
  split at h
  · omega
  · split at h
    · omega
    · split at h
      · omega
      · rename_i h1 h2 h3
        exact ⟨by simpa using h1, by simpa using h2, by simpa using h3⟩
theorem not_has {l : List EnD} {x : EnD} (h : hasB l x.id x.ix = false) : ∀ y ∈ l, same x y = false := by
  intro y hy
  have := List.any_eq_false.1 h y hy
  rw [isB_same, same_comm] at this
  simpa using this
theorem Good.put {l : List EnD} (h : Good l) {x : EnD} (hx : x.Ok) : Good (putL l x) := by
  unfold putL
  split
  · rename_i h0
    obtain ⟨h1, h2, h3⟩ := put_zero h0
    have hp := insR_perm x l
    have hv : 0 ≤ x.val := by
      unfold argB at h1
      simp only [Bool.and_eq_true] at h1
      exact (goodB_iff.1 h1.2.2).1
    refine ⟨insR_srt x l h.srt (not_has h2), fun y hy => ?_, fun y hy => ?_, ?_⟩
    · rcases List.mem_cons.1 (hp.mem_iff.1 hy) with rfl | hy
      · exact hx
      · exact h.ok y hy
    · rcases List.mem_cons.1 (hp.mem_iff.1 hy) with rfl | hy
      · exact hv
      · exact h.pos y hy
    · rw [tot_perm hp, tot_cons]
      have := (goodB_iff.1 h3).2
      omega
  · exact h
theorem Good.del {l : List EnD} (h : Good l) (a : ByteArray) (i : Int) : Good (delL l a i) := by
  refine ⟨del_srt h.srt a i, fun x hx => h.ok x (List.mem_filter.1 hx).1, fun x hx => h.pos x (List.mem_filter.1 hx).1, ?_⟩
  by_cases hh : hasB l a i = true
  · obtain ⟨h1, h2, h3⟩ := atE_mem hh
    have := del_tot h.srt.apart h1
    rw [h2, h3] at this
    rw [this]
    have := h.pos _ h1
    have := h.most
    omega
  · rw [del_none (by simpa using hh)]
    exact h.most

end Go.Proofs.YtnmfjnfdnjjngaaGreatDoor.Co

namespace Go.Proofs.YtnmfjnfdnjjngaaGreatDoor.Co
open Go.RowKit Go.ChangeMaps
set_option maxRecDepth 100000

theorem laidOut : laidOutB Tryz.prog = true := by kernel_rfl
theorem keyed : Maps.Keyed Tryz.prog 60 := Maps.Keyed.of_law (deep_law_laid laidOut (m := 200) (by omega) (of_decide_eq_true (by kernel_rfl)) (by kernel_rfl) (by kernel_rfl))

/-- A point as a value, a coin as a value. -/
def kv (x : EnD) : Value := .agg #[.string x.id, .int .u32 x.ix]
def cv (x : EnD) : Value := .agg #[.int .i64 x.val, .string x.scr, .int .i64 x.ht]
theorem kv_inj {x y : EnD} (h : kv x = kv y) : x.id = y.id ∧ x.ix = y.ix := by simpa [kv] using h

theorem lits_id (d : Nat) (s : ByteArray) (h : s.size ≤ maxLen) : Tryz.prog.keyLits (d + 1) 9 [.string s] = some [.string s.data.toList] := by
  unfold Program.keyLits; simp only [Tryz.underlying9]; rw [if_pos h]
theorem lits_ix (d : Nat) (i : Int) (h : (Lit.int .u32 i).wf = true) : Tryz.prog.keyLits (d + 1) 47 [.int .u32 i] = some [.int .u32 i] := by
  unfold Program.keyLits; simp only [Tryz.underlying47]; rw [if_pos ⟨trivial, h⟩]
theorem cells28 : Tryz.prog.cellsOf 60 = 2 := by kernel_rfl
theorem cells9 : Tryz.prog.cellsOf 9 = 1 := by kernel_rfl
theorem cells26 : Tryz.prog.cellsOf 47 = 1 := by kernel_rfl
theorem lits_pt (d : Nat) (s : ByteArray) (i : Int) (h : s.size ≤ maxLen) (hi : (Lit.int .u32 i).wf = true) : Tryz.prog.keyLits (d + 1 + 1) 60 [.string s, .int .u32 i] = some [.string s.data.toList, .int .u32 i] := by
  unfold Program.keyLits
  simp only [Tryz.underlying60, cells28]
  rw [if_pos ⟨rfl, by simp⟩]
  simp [cells9, cells26, lits_id d s h, lits_ix d i hi]
theorem keyType28 : Tryz.prog.keyType 60 = true := by kernel_rfl

theorem key_of (a : ByteArray) (i : Int) (h : PtOk a i) : ∃ l, keyOf Tryz.prog 60 (.agg #[.string a, .int .u32 i]) = some l := by
  have h5 : a.size ≤ maxLen := by have := h.1; unfold maxLen; omega
  have h6 := WalkArith.wf_u32 ⟨h.2.1, h.2.2⟩
  obtain ⟨n, hn⟩ : ∃ n, Tryz.prog.types.size + 1 = n + 1 + 1 := ⟨Tryz.prog.types.size - 1, by have : 0 < Tryz.prog.types.size := of_decide_eq_true (by kernel_rfl); omega⟩
  refine ⟨.string (keyBytes [.string a.data.toList, .int .u32 i]), ?_⟩
  have hf : (Value.agg #[.string a, .int .u32 i]).formed Tryz.prog 60 = true := by
    unfold Value.formed
    rw [Tryz.underlying60]
    simp [cells28]
  unfold keyOf
  rw [Tryz.underlying60]
  simp only [keyType28, hf, Bool.and_self, if_true, hn]
  show (Tryz.prog.keyLits (n + 1 + 1) 60 [.string a, .int .u32 i]).map _ = _
  rw [lits_pt n a i h5 h6]
  rfl

/-- The block b is a map of the coins l. -/
def MapIs (w : World) (b : Nat) (l : List EnD) : Prop :=
  ∃ es clock, w.heap[b]? = some (.map es clock) ∧ (∀ e ∈ es.toList, e.born < clock) ∧ (es.toList.map (·.born)).Nodup ∧ (es.toList.map fun e => (e.key, e.val)).Perm (l.map fun x => (kv x, cv x))

theorem lt_of_heap {w : World} {b : Nat} {o : Obj} (h : w.heap[b]? = some o) : b < w.heap.size := by
  rcases Nat.lt_or_ge b w.heap.size with hlt | hge
  · exact hlt
  · rw [Array.getElem?_eq_none hge] at h; cases h
theorem MapIs.lt {w : World} {b : Nat} {l : List EnD} (h : MapIs w b l) : b < w.heap.size := by
  obtain ⟨es, clock, hb, _⟩ := h
  exact lt_of_heap hb
theorem MapIs.keep {w w' : World} {b : Nat} {l : List EnD} (h : MapIs w b l) (hk : w'.heap[b]? = w.heap[b]?) : MapIs w' b l := by
  obtain ⟨es, clock, hb, r⟩ := h
  exact ⟨es, clock, hk.trans hb, r⟩
theorem MapIs.made (w : World) : MapIs (w.alloc (.map #[] 0)) w.heap.size [] := ⟨#[], 0, heap_alloc_new w _, by simp, by simp, by simp⟩

/-- What an entry is. -/
theorem entry_of {es : Array MapEntry} {l : List EnD} (hp : (es.toList.map fun e => (e.key, e.val)).Perm (l.map fun x => (kv x, cv x))) {e : MapEntry} (he : e ∈ es.toList) : ∃ x ∈ l, e.key = kv x ∧ e.val = cv x := by
  have : (e.key, e.val) ∈ l.map fun x => (kv x, cv x) := hp.mem_iff.1 (List.mem_map.2 ⟨e, he, rfl⟩)
  obtain ⟨x, hx, h⟩ := List.mem_map.1 this
  injection h with h1 h2
  exact ⟨x, hx, h1.symm, h2.symm⟩
theorem entry_for {es : Array MapEntry} {l : List EnD} (hp : (es.toList.map fun e => (e.key, e.val)).Perm (l.map fun x => (kv x, cv x))) {x : EnD} (hx : x ∈ l) : ∃ e ∈ es.toList, e.key = kv x ∧ e.val = cv x := by
  have : (kv x, cv x) ∈ es.toList.map fun e => (e.key, e.val) := hp.mem_iff.2 (List.mem_map.2 ⟨x, hx, rfl⟩)
  obtain ⟨e, he, h⟩ := List.mem_map.1 this
  injection h with h1 h2
  exact ⟨e, he, h1, h2⟩

theorem perm_erase {α : Type} {x : α} : ∀ {l : List α} {j : Nat}, l[j]? = some x → l.Perm (x :: l.eraseIdx j)
  | [], _, h => by simp at h
  | y :: r, 0, h => by
    simp at h
    subst h
    exact List.Perm.refl _
  | y :: r, j + 1, h => by
    simp at h
    rw [List.eraseIdx_cons_succ]
    exact ((perm_erase h).cons y).trans (List.Perm.swap x y _)

/-- What looking a point up finds. -/
theorem MapIs.find {w : World} {l : List EnD} (hg : Good l) {a : ByteArray} {i : Int} (hx : PtOk a i) {es : Array MapEntry} (hp : (es.toList.map fun e => (e.key, e.val)).Perm (l.map fun x => (kv x, cv x))) :
    ((Instr.findKey 60 (.agg #[.string a, .int .u32 i]) es.toList).run Tryz.prog w = .ok none w ∧ hasB l a i = false) ∨
      ∃ j e, (Instr.findKey 60 (.agg #[.string a, .int .u32 i]) es.toList).run Tryz.prog w = .ok (some (j, e.val)) w ∧ es.toList[j]? = some e ∧ e.key = kv (atE l a i) ∧ e.val = cv (atE l a i) ∧ hasB l a i = true := by
  obtain ⟨kl, hl⟩ := key_of a i hx
  have hks : ∀ e ∈ es.toList, ∃ kl, keyOf Tryz.prog 60 e.key = some kl := fun e he => by
    obtain ⟨y, hy, hk, _⟩ := entry_of hp he
    rw [hk]
    exact key_of y.id y.ix (hg.ok y hy).1
  rcases keyed.find w hl es.toList hks with ⟨f1, f2⟩ | ⟨j, e, f1, f2, f3⟩
  · refine .inl ⟨f1, ?_⟩
    rw [Bool.eq_false_iff]
    intro h
    obtain ⟨x, hx', rfl, rfl⟩ := hasB_iff.1 h
    obtain ⟨e, he, hk, _⟩ := entry_for hp hx'
    exact f2 e he hk
  · obtain ⟨y, hy, hk, hv⟩ := entry_of hp (List.mem_of_getElem? f2)
    have e1 : kv y = .agg #[.string a, .int .u32 i] := hk.symm.trans f3
    obtain ⟨h1, h2⟩ : y.id = a ∧ y.ix = i := by simpa [kv] using e1
    have e2 : atE l a i = y := by rw [← h1, ← h2]; exact atE_some hg.srt.apart hy
    rw [e2]
    exact .inr ⟨j, e, f1, f2, hk, hv, hasB_iff.2 ⟨y, hy, h1, h2⟩⟩

theorem MapIs.look {w : World} {b : Nat} {l : List EnD} (h : MapIs w b l) (hg : Good l) {a : ByteArray} {i : Int} (hx : PtOk a i) :
    (Instr.lookup 76 (.map (some b)) (.agg #[.string a, .int .u32 i]) true).run Tryz.prog w = .ok (.tuple #[.agg #[.int .i64 (atE l a i).val, .string (atE l a i).scr, .int .i64 (atE l a i).ht], .bool (hasB l a i)]) w := by
  obtain ⟨es, clock, hb, h1, h2, hp⟩ := h
  obtain ⟨kl, hl⟩ := key_of a i hx
  have hch := keyed.check w es.isEmpty hl
  rcases MapIs.find (w := w) hg hx hp with ⟨f1, f2⟩ | ⟨j, e, f1, _, _, hv, f2⟩
  · rw [atE_none f2, f2]
    simp [Instr.lookup, run_underlying Tryz.underlying76, MapKept.run_getObj_map hb, hch, f1, e0, Result.andThen]
  · rw [f2]
    simp [Instr.lookup, run_underlying Tryz.underlying76, MapKept.run_getObj_map hb, hch, f1, hv, cv, Result.andThen]

theorem set_heap_at {w : World} {b : Nat} (o : Obj) (h : b < w.heap.size) : (setBlock w b o).heap[b]? = some o := by
  simp [setBlock, h]
theorem set_heap_other {w : World} {b k : Nat} (o : Obj) (h : k ≠ b) : (setBlock w b o).heap[k]? = w.heap[k]? := by
  simp [setBlock, Array.getElem?_setIfInBounds]
  intro e; exact absurd e.symm h
theorem set_size (w : World) (b : Nat) (o : Obj) : (setBlock w b o).heap.size = w.heap.size := by simp [setBlock]

/-- One entry more: laid with the zero coin, then stored. -/
theorem MapIs.push {w : World} {b : Nat} {l : List EnD} (h : MapIs w b l) (hg : Good l) {x : EnD} (hx : PtOk x.id x.ix) (hn : hasB l x.id x.ix = false) :
    ∃ (st : Nat) (o1 o2 : Obj), (∀ W : World, W.heap[b]? = w.heap[b]? → (Instr.mapEntry 76 (.map (some b)) (.agg #[.string x.id, .int .u32 x.ix])).run Tryz.prog W = .ok (.tuple #[.agg #[.int .i64 0, .string ⟨#[]⟩, .int .i64 0], .int .i64 (st : Int)]) (setBlock W b o1)) ∧
      (∀ W : World, W.heap[b]? = some o1 → (Instr.entryStore 76 (.map (some b)) (.int .i64 (st : Int)) (.agg #[.int .i64 x.val, .string x.scr, .int .i64 x.ht])).run Tryz.prog W = .ok () (setBlock W b o2)) ∧
      ∀ W : World, W.heap[b]? = some o2 → MapIs W b (insR x l) := by
  obtain ⟨es, clock, hb, h1, h2, hp⟩ := h
  obtain ⟨kl, hl⟩ := key_of x.id x.ix hx
  refine ⟨clock, .map (es.push ⟨kv x, .agg #[.int .i64 0, .string ⟨#[]⟩, .int .i64 0], clock⟩) (clock + 1), .map (es.push ⟨kv x, cv x, clock⟩) (clock + 1), fun W hW => ?_, fun W hW => ?_, fun W hW => ?_⟩
  · have hbW := hW.trans hb
    have hch := keyed.check W false hl
    rcases MapIs.find (w := W) hg hx hp with ⟨f1, f2⟩ | ⟨j, e, f1, _, _, hv, f2⟩
    · simp [Instr.mapEntry, run_underlying Tryz.underlying76, MapKept.run_getObj_map hbW, hch, f1, MapKept.run_setObj_map _ hbW, Result.andThen, setBlock, goInt, kv]
    · rw [f2] at hn; cases hn
  · have hidx : (es.push ⟨kv x, .agg #[.int .i64 0, .string ⟨#[]⟩, .int .i64 0], clock⟩).findIdx? (fun e => ((e.born : Nat) : Int) == ((clock : Nat) : Int)) = some es.size := by
      rw [WideElems.findIdx_arr]
      exact WideElems.findIdx_born (l := (es.push ⟨kv x, .agg #[.int .i64 0, .string ⟨#[]⟩, .int .i64 0], clock⟩).toList) (j := es.size) (e0 := ⟨kv x, .agg #[.int .i64 0, .string ⟨#[]⟩, .int .i64 0], clock⟩) (by
        simp only [Array.toList_push, List.map_append, List.map_cons, List.map_nil]
        refine List.nodup_append.2 ⟨h2, by simp, fun a ha c hc e1 => ?_⟩
        simp only [List.mem_singleton] at hc
        obtain ⟨y, hy, rfl⟩ := List.mem_map.1 ha
        have := h1 y hy
        omega) (by simp)
    have hmod : (es.push ⟨kv x, .agg #[.int .i64 0, .string ⟨#[]⟩, .int .i64 0], clock⟩).modify es.size (fun e => { e with val := cv x }) = es.push ⟨kv x, cv x, clock⟩ := by
      apply Array.ext'
      rw [Array.toList_modify, Array.toList_push, Array.toList_push, ← Array.length_toList, WideElems.modify_last]
    show (Instr.entryStore 76 (.map (some b)) (.int .i64 (clock : Int)) (cv x)).run Tryz.prog W = _
    simp [Instr.entryStore, MapKept.run_getObj_map hW, asInt, asIntOf, hidx, hmod, MapKept.run_setObj_map _ hW, Result.andThen, setBlock]
  · refine ⟨_, _, hW, ?_, ?_, ?_⟩
    · intro e he
      simp only [Array.toList_push, List.mem_append, List.mem_singleton] at he
      rcases he with he | rfl
      · have := h1 e he; omega
      · exact Nat.lt_succ_self _
    · simp only [Array.toList_push, List.map_append, List.map_cons, List.map_nil]
      refine List.nodup_append.2 ⟨h2, by simp, fun a ha c hc e1 => ?_⟩
      simp only [List.mem_singleton] at hc
      obtain ⟨y, hy, rfl⟩ := List.mem_map.1 ha
      have := h1 y hy
      omega
    · simp only [Array.toList_push, List.map_append, List.map_cons, List.map_nil]
      refine (List.perm_append_singleton _ _).trans ?_
      refine ((hp.cons (kv x, cv x))).trans ?_
      exact ((insR_perm x l).map fun x => (kv x, cv x)).symm

/-- One entry less. -/
theorem MapIs.drop {w : World} {b : Nat} {l : List EnD} (h : MapIs w b l) (hg : Good l) {a : ByteArray} {i : Int} (hx : PtOk a i) (hh : hasB l a i = true) (ty : TypeId) :
    ∃ o1 : Obj, (∀ W : World, W.heap[b]? = w.heap[b]? → (Builtin.delete_ #[76, 60] ty #[.map (some b), .agg #[.string a, .int .u32 i]]).run Tryz.prog W = .ok (.tuple #[]) (setBlock W b o1)) ∧
      ∀ W : World, W.heap[b]? = some o1 → MapIs W b (delL l a i) := by
  obtain ⟨es, clock, hb, h1, h2, hp⟩ := h
  obtain ⟨kl, hl⟩ := key_of a i hx
  rcases MapIs.find (w := w) hg hx hp with ⟨_, f2⟩ | ⟨j, e, _, f3, fk, fv, _⟩
  · rw [f2] at hh; cases hh
  refine ⟨.map (es.eraseIdxIfInBounds j) clock, fun W hW => ?_, fun W hW => ?_⟩
  · have hbW := hW.trans hb
    have hch := keyed.check W es.isEmpty hl
    rcases MapIs.find (w := W) hg hx hp with ⟨f1, f2⟩ | ⟨j', e', f1, g3, gk, _, _⟩
    · rw [f2] at hh; cases hh
    · have hj : j' = j := by
        have hap : (es.toList.map fun e => (e.key, e.val)).Pairwise fun x y => x.1 ≠ y.1 := by
          refine (hp.symm.pairwise_iff (fun {x y} (hxy : x.1 ≠ y.1) => hxy.symm)).1 ?_
          rw [List.pairwise_map]
          exact hg.srt.apart.imp fun {x y} hxy e1 => by
            obtain ⟨q1, q2⟩ := kv_inj e1
            rw [show same x y = true from ptB_iff.2 ⟨q1, q2⟩] at hxy
            cases hxy
        rw [List.pairwise_map] at hap
        have hl1 := (List.getElem?_eq_some_iff.1 f3)
        have hl2 := (List.getElem?_eq_some_iff.1 g3)
        obtain ⟨p1, p2⟩ := hl1
        obtain ⟨q1, q2⟩ := hl2
        rcases Nat.lt_trichotomy j' j with hlt | heq | hgt
        · have := List.pairwise_iff_getElem.1 hap j' j q1 p1 hlt
          rw [p2, q2] at this
          exact absurd (gk.trans fk.symm) this
        · exact heq
        · have := List.pairwise_iff_getElem.1 hap j j' p1 q1 hgt
          rw [p2, q2] at this
          exact absurd (fk.trans gk.symm) this
      subst hj
      simp [Builtin.delete_, run_underlying Tryz.underlying76, MapKept.run_getObj_map hbW, hch, f1, MapKept.run_setObj_map _ hbW, Result.andThen, setBlock]
  · have hjl : j < es.size := by have := (List.getElem?_eq_some_iff.1 f3).1; simpa using this
    have hsub : (es.eraseIdxIfInBounds j).toList = es.toList.eraseIdx j := by
      unfold Array.eraseIdxIfInBounds
      rw [dif_pos hjl]
      simp
    refine ⟨_, _, hW, ?_, ?_, ?_⟩
    · intro e he
      rw [hsub] at he
      exact h1 e ((List.eraseIdx_sublist _ _).subset he)
    · rw [hsub]
      exact ((List.eraseIdx_sublist _ _).map _).nodup h2
    · rw [hsub]
      obtain ⟨m1, m2, m3⟩ := atE_mem hh
      have q := del_perm hg.srt.apart m1
      rw [m2, m3] at q
      have q2 := (hp.trans (q.map fun x => (kv x, cv x)))
      have q3 : (es.toList.map fun e => (e.key, e.val)).Perm ((kv (atE l a i), cv (atE l a i)) :: (es.toList.eraseIdx j).map fun e => (e.key, e.val)) := by
        have : es.toList.Perm (e :: es.toList.eraseIdx j) := by
          exact perm_erase f3
        have := this.map fun e => (e.key, e.val)
        rw [List.map_cons, fk, fv] at this
        exact this
      exact List.Perm.cons_inv (q3.symm.trans q2)

end Go.Proofs.YtnmfjnfdnjjngaaGreatDoor.Co

namespace Go.Proofs.YtnmfjnfdnjjngaaGreatDoor.Co
open Go.RowKit
set_option maxRecDepth 100000

/-! ### Amounts -/

set_option maxHeartbeats 400000 in
theorem within_any (n m : Int) (w : World) : Calls Tryz.prog 100 #[.int .i64 n, .int .i64 m] w fun e w' => e = .returned (.bool (decide (0 ≤ n) && decide (n ≤ m))) ∧ w' = w := by
  by_cases h : 0 ≤ n
  · go_enter Tryz.func100, Tryz.ntmps100
    go_wp2
    go_ret
    exact ⟨ret_bool (by simp [h]), rfl⟩
  · go_enter Tryz.func100, Tryz.ntmps100
    go_wp2
    go_ret
    exact ⟨ret_bool (by simp; intro _; omega), rfl⟩

set_option maxHeartbeats 400000 in
theorem agood_any (n : Int) (w : World) : Calls Tryz.prog 73 #[.int .i64 n] w fun e w' => e = .returned (.bool (goodB n)) ∧ w' = w := by
  have H := Lib.hid (within_any n 2100000000000000 w)
  unfold goodB
  generalize (decide (0 ≤ n) && decide (n ≤ 2100000000000000)) = r at H ⊢
  go_enter Tryz.func73, Tryz.ntmps73
  go_wp2_with fail
  refine H.out.mono ?_
  rintro e w' ⟨rfl, rfl⟩
  go_wp2_with fail
  go_ret
  exact ⟨rfl, rfl⟩

set_option maxHeartbeats 400000 in
theorem rgood_any (n : Int) (w : World) : Calls Tryz.prog 81 #[.int .i64 n] w fun e w' => e = .returned (.bool (goodB n)) ∧ w' = w := by
  have G : Hid (goodB n = (decide (0 ≤ n) && decide (n ≤ 2100000000000000))) := Lib.hid rfl
  by_cases h : 0 ≤ n
  · have h' : ¬ n < 0 := by omega
    go_enter Tryz.func81, Tryz.ntmps81
    go_wp2
    go_ret
    exact ⟨ret_bool (by rw [G.out]; simp [h]), rfl⟩
  · have h' : n < 0 := by omega
    go_enter Tryz.func81, Tryz.ntmps81
    go_wp2
    go_ret
    exact ⟨ret_bool (by rw [G.out]; simp; intro _; omega), rfl⟩

set_option maxHeartbeats 400000 in
theorem add_any (a b : Int) (w : World) (ha : goodB a = true) (hb : goodB b = true) :
    Calls Tryz.prog 48 #[.int .i64 a, .int .i64 b] w fun e w' => e = .returned (.tuple #[.int .i64 (if goodB (a + b) = true then a + b else 0), .int .i64 (if goodB (a + b) = true then 0 else 3)]) ∧ w' = w := by
  have h1 := goodB_iff.1 ha
  have h2 := goodB_iff.1 hb
  have hw : IntKind.i64.wrap (a + b) = a + b := IntWalk.i64_in _ (by omega)
  have A := Lib.hid (fun W => agood_any a W)
  have B := Lib.hid (fun W => agood_any b W)
  have C := Lib.hid (fun W => agood_any (a + b) W)
  rw [ha] at A
  rw [hb] at B
  clear ha hb h1 h2
  cases hc : goodB (a + b) with
  | true =>
    rw [hc] at C
    clear hc
    go_enter Tryz.func48, Tryz.ntmps48
    go_wp2_with (first | (refine (A.out _).mono ?_; rintro e w' ⟨rfl, rfl⟩) | (refine (B.out _).mono ?_; rintro e w' ⟨rfl, rfl⟩) | (refine (C.out _).mono ?_; rintro e w' ⟨rfl, rfl⟩))
    go_ret2
    exact ⟨by simp, rfl⟩
  | false =>
    rw [hc] at C
    clear hc
    go_enter Tryz.func48, Tryz.ntmps48
    go_wp2_with (first | (refine (A.out _).mono ?_; rintro e w' ⟨rfl, rfl⟩) | (refine (B.out _).mono ?_; rintro e w' ⟨rfl, rfl⟩) | (refine (C.out _).mono ?_; rintro e w' ⟨rfl, rfl⟩))
    go_ret2
    exact ⟨by simp, rfl⟩

/-! ### Points -/

set_option maxHeartbeats 400000 in
theorem less_any (a : ByteArray) (i : Int) (b : ByteArray) (j : Int) (w : World) :
    Calls Tryz.prog 72 #[.agg #[.string a, .int .u32 i], .agg #[.string b, .int .u32 j]] w fun e w' => e = .returned (.bool (lessB a i b j)) ∧ w' = (w.alloc (.cells #[.string a, .int .u32 i] 60)).alloc (.cells #[.string b, .int .u32 j] 60) := by
  cases h : a.toList == b.toList
  · have H := Lib.hid (less_other (i := i) (j := j) h)
    go_enter Tryz.func72, Tryz.ntmps72
    go_wp2
    go_ret
    exact ⟨ret_bool (by rw [H.out]), rfl⟩
  · have H := Lib.hid (less_same (i := i) (j := j) h)
    go_enter Tryz.func72, Tryz.ntmps72
    go_wp2
    go_ret
    exact ⟨ret_bool (by rw [H.out]), rfl⟩

set_option maxHeartbeats 400000 in
theorem rless_any (a : ByteArray) (i : Int) (b : ByteArray) (j : Int) (w : World) :
    Calls Tryz.prog 83 #[.agg #[.string a, .int .u32 i], .agg #[.string b, .int .u32 j]] w fun e w' => e = .returned (.bool (lessB a i b j)) ∧ Below w.heap.size w w' := by
  cases h : a.toList == b.toList
  · have H := Lib.hid (less_other (i := i) (j := j) h)
    go_enter Tryz.func83, Tryz.ntmps83
    go_wp2
    go_ret
    exact ⟨ret_bool (by rw [H.out]), ((Below.refl _ _).alloc (Nat.le_refl _) _).alloc (by simp) _⟩
  · have H := Lib.hid (less_same (i := i) (j := j) h)
    go_enter Tryz.func83, Tryz.ntmps83
    go_wp2
    go_ret
    exact ⟨ret_bool (by rw [H.out]), ((Below.refl _ _).alloc (Nat.le_refl _) _).alloc (by simp) _⟩

set_option maxHeartbeats 400000 in
theorem rsame_any (a : ByteArray) (i : Int) (b : ByteArray) (j : Int) (w : World) :
    Calls Tryz.prog 67 #[.agg #[.string a, .int .u32 i], .agg #[.string b, .int .u32 j]] w fun e w' => e = .returned (.bool (ptB a i b j)) ∧ Below w.heap.size w w' := by
  cases h : a.toList == b.toList
  · have H : Hid (ptB a i b j = false) := Lib.hid (by unfold ptB; rw [h]; rfl)
    go_enter Tryz.func67, Tryz.ntmps67
    go_wp2
    go_ret
    exact ⟨ret_bool (by rw [H.out]), ((Below.refl _ _).alloc (Nat.le_refl _) _).alloc (by simp) _⟩
  · have H : Hid (ptB a i b j = (i == j)) := Lib.hid (by unfold ptB; rw [h]; rfl)
    go_enter Tryz.func67, Tryz.ntmps67
    go_wp2
    go_ret
    exact ⟨ret_bool (by rw [H.out]), ((Below.refl _ _).alloc (Nat.le_refl _) _).alloc (by simp) _⟩

/-! ### A set -/

/-- The set in block a, with its map in block b, has the coins l. -/
structure SetIs (w : World) (a b : Nat) (l : List EnD) : Prop where
  ne : a ≠ b
  blk : w.heap[a]? = some (.cells #[.map (some b), .int .i64 (tot l)] 78 (0, 0))
  map : MapIs w b l
  good : Good l
theorem SetIs.keep {w w' : World} {a b : Nat} {l : List EnD} (h : SetIs w a b l) (h1 : w'.heap[a]? = w.heap[a]?) (h2 : w'.heap[b]? = w.heap[b]?) : SetIs w' a b l := ⟨h.ne, h1.trans h.blk, h.map.keep h2, h.good⟩
theorem SetIs.lta {w : World} {a b : Nat} {l : List EnD} (h : SetIs w a b l) : a < w.heap.size := lt_of_heap h.blk
theorem SetIs.ltb {w : World} {a b : Nat} {l : List EnD} (h : SetIs w a b l) : b < w.heap.size := h.map.lt
theorem SetIs.below {w w' : World} {a b B : Nat} {l : List EnD} (h : SetIs w a b l) (hb : Below B w w') (h1 : a < B) (h2 : b < B) : SetIs w' a b l := h.keep (hb.block a h1) (hb.block b h2)
theorem cell_of_block {w : World} {a : Nat} {cs : Array Value} {t : TypeId} {fr : Nat × Nat} (h : w.heap[a]? = some (.cells cs t fr)) (o : Nat) : w.cell? ⟨a, o, none⟩ = cs[o]? := by
  simp [World.cell?, h]
theorem cell_in {w : World} {a : Nat} {cs : Array Value} {t : TypeId} {fr : Nat × Nat} {o : Nat} {v : Value} (h : w.heap[a]? = some (.cells cs t fr)) (hv : cs[o]? = some v) : w.cell? ⟨a, o, none⟩ = some v := (cell_of_block h o).trans hv
theorem SetIs.cell0 {w : World} {a b : Nat} {l : List EnD} (h : SetIs w a b l) : w.cell? ⟨a, 0, none⟩ = some (.map (some b)) := by rw [cell_of_block h.blk]; rfl
theorem SetIs.cell1 {w : World} {a b : Nat} {l : List EnD} (h : SetIs w a b l) : w.cell? ⟨a, 1, none⟩ = some (.int .i64 (tot l)) := by rw [cell_of_block h.blk]; rfl
theorem SetIs.free {w : World} {a b : Nat} {l : List EnD} (h : SetIs w a b l) (o : Nat) : w.frozen? ⟨a, o, none⟩ = false := Lib.frozen_of_heap h.blk o
theorem MapIs.len {w : World} {b : Nat} {l : List EnD} (h : MapIs w b l) : ∃ es clock, w.heap[b]? = some (.map es clock) ∧ es.size = l.length := by
  obtain ⟨es, clock, hb, _, _, hp⟩ := h
  have := hp.length_eq
  simp at this
  exact ⟨es, clock, hb, this⟩

set_option maxHeartbeats 400000 in
theorem new_any (w : World) : Calls Tryz.prog 9 #[] w fun e w' => e = .returned (.pointer (some ⟨w.heap.size + 1, 0, none⟩)) ∧ SetIs w' (w.heap.size + 1) w.heap.size [] ∧ Below w.heap.size w w' ∧ w'.heap.size = w.heap.size + 2 := by
  have hmm := @run_makeMap Tryz.prog
  have S := Lib.hid (show SetIs ((w.alloc (.map #[] 0)).alloc (.cells #[.map (some w.heap.size), .int .i64 0] 78)) (w.heap.size + 1) w.heap.size [] from
    ⟨by omega, by rw [show w.heap.size + 1 = (w.alloc (.map #[] 0)).heap.size from by simp]; exact heap_alloc_new _ _, (MapIs.made w).keep (Below.heap_alloc _ _ _ (by simp)), Good.nil⟩)
  have B := Lib.hid (show Below w.heap.size w ((w.alloc (.map #[] 0)).alloc (.cells #[.map (some w.heap.size), .int .i64 0] 78)) from ((Below.refl _ _).alloc (Nat.le_refl _) _).alloc (by simp) _)
  go_enter Tryz.func9, Tryz.ntmps9
  go_wp2
  go_ret
  exact ⟨by simp, S.out, B.out, by simp⟩

/-- A coin stored into a block of three cells. -/
def setCo (w : World) (n : Nat) (v : Int) (s : ByteArray) (t : Int) : World := ((w.setCell ⟨n, 0, none⟩ (.int .i64 v)).setCell ⟨n, 1, none⟩ (.string s)).setCell ⟨n, 2, none⟩ (.int .i64 t)
theorem setCo_cells {w : World} {n : Nat} {x y z : Value} (h0 : w.cell? ⟨n, 0, none⟩ = some x) (h1 : w.cell? ⟨n, 1, none⟩ = some y) (h2 : w.cell? ⟨n, 2, none⟩ = some z) (v : Int) (s : ByteArray) (t : Int) :
    (setCo w n v s t).cell? ⟨n, 0, none⟩ = some (.int .i64 v) ∧ (setCo w n v s t).cell? ⟨n, 1, none⟩ = some (.string s) ∧ (setCo w n v s t).cell? ⟨n, 2, none⟩ = some (.int .i64 t) := by
  unfold setCo
  refine ⟨?_, ?_, ?_⟩
  · exact (World.cell?_setCell_other _ _ _ _ (by simp)).trans ((World.cell?_setCell_other _ _ _ _ (by simp)).trans (World.cell?_setCell_same _ _ _ h0))
  · exact (World.cell?_setCell_other _ _ _ _ (by simp)).trans (World.cell?_setCell_same _ _ _ ((World.cell?_setCell_other _ _ _ _ (by simp)).trans h1))
  · exact World.cell?_setCell_same _ _ _ ((World.cell?_setCell_other _ _ _ _ (by simp)).trans ((World.cell?_setCell_other _ _ _ _ (by simp)).trans h2))
theorem setCo_below {B n : Nat} {a w : World} (h : Below B a w) (hn : B ≤ n) (v : Int) (s : ByteArray) (t : Int) : Below B a (setCo w n v s t) := ((h.setCell hn _).setCell hn _).setCell hn _

/-- What turns: the blocks a and b, and new ones. -/
structure But2 (a b : Nat) (w w' : World) : Prop where
  os : w'.os = w.os
  tape : w'.tape = w.tape
  output : w'.output = w.output
  size : w.heap.size ≤ w'.heap.size
  block : ∀ k, k < w.heap.size → k ≠ a → k ≠ b → w'.heap[k]? = w.heap[k]?
theorem But2.of_below {a b : Nat} {w w' : World} (h : Below w.heap.size w w') : But2 a b w w' := ⟨h.os, h.tape, h.output, h.size, fun k hk _ _ => h.block k hk⟩
theorem But2.trans {a b : Nat} {x y z : World} (h : But2 a b x y) (k : But2 a b y z) : But2 a b x z :=
  ⟨k.os.trans h.os, k.tape.trans h.tape, k.output.trans h.output, Nat.le_trans h.size k.size, fun i h1 h2 h3 => (k.block i (Nat.lt_of_lt_of_le h1 h.size) h2 h3).trans (h.block i h1 h2 h3)⟩
theorem But2.below {a b B : Nat} {x y z : World} (h : Below B x y) (k : But2 a b y z) (ha : B ≤ a) (hb : B ≤ b) (hs : B ≤ y.heap.size) : Below B x z :=
  ⟨k.os.trans h.os, k.tape.trans h.tape, k.output.trans h.output, Nat.le_trans h.size k.size, fun i hi => (k.block i (by omega) (by omega) (by omega)).trans (h.block i hi)⟩
theorem But2.kept {a b lo hi : Nat} {w w' : World} (h : But2 a b w w') (ha : a < lo ∨ hi ≤ a) (hb : b < lo ∨ hi ≤ b) (hh : hi ≤ w.heap.size) : Kept lo hi w w' := fun i h1 h2 => h.block i (by omega) (by omega) (by omega)

set_option maxHeartbeats 400000 in
theorem isgood_any (x : EnD) (w : World) :
    Calls Tryz.prog 47 #[.agg #[.int .i64 x.val, .string x.scr, .int .i64 x.ht]] w fun e w' => e = .returned (.bool (decide (0 ≤ x.ht) && decide (x.ht ≤ 1000000) && goodB x.val)) ∧ Below w.heap.size w w' := by
  obtain ⟨pid, pix, v, s, h⟩ := x
  have C := Lib.hid (fun W => agood_any v W)
  simp only
  generalize goodB v = r at C ⊢
  have B := Lib.hid (show Below w.heap.size w (w.alloc (.cells #[.int .i64 v, .string s, .int .i64 h] 64)) from (Below.refl _ _).alloc (Nat.le_refl _) _)
  by_cases h1 : 0 ≤ h
  · by_cases h2 : h ≤ 1000000
    · go_enter Tryz.func47, Tryz.ntmps47
      go_wp2_with (refine (C.out _).mono ?_; rintro e w' ⟨rfl, rfl⟩)
      go_ret
      exact ⟨ret_bool (by simp [h1, h2]), B.out⟩
    · go_enter Tryz.func47, Tryz.ntmps47
      go_wp2_with fail
      go_ret
      exact ⟨ret_bool (by simp; intro hh; omega), B.out⟩
  · go_enter Tryz.func47, Tryz.ntmps47
    go_wp2_with fail
    go_ret
    exact ⟨ret_bool (by simp; intro _ _; omega), B.out⟩

set_option maxHeartbeats 400000 in
theorem len_any (a b : Nat) (l : List EnD) (w : World) (h : SetIs w a b l) : Calls Tryz.prog 26 #[.pointer (some ⟨a, 0, none⟩)] w fun e w' => e = .returned (.int .i64 (l.length : Int)) ∧ w' = w := by
  have c0 := h.cell0
  obtain ⟨es, clock, hb, hl⟩ := h.map.len
  rw [← hl]
  have hn := run_len_map (P := Tryz.prog) w 76 3 b es clock (by kernel_rfl) hb
  generalize es.size = n at hn ⊢
  clear h hb hl
  go_enter Tryz.func26, Tryz.ntmps26
  go_wp2_with fail
  go_ret
  exact ⟨rfl, rfl⟩

set_option maxHeartbeats 400000 in
theorem total_any (a b : Nat) (l : List EnD) (w : World) (h : SetIs w a b l) : Calls Tryz.prog 25 #[.pointer (some ⟨a, 0, none⟩)] w fun e w' => e = .returned (.int .i64 (tot l)) ∧ w' = w := by
  have c1 := h.cell1
  clear h
  generalize tot l = t at c1 ⊢
  go_enter Tryz.func25, Tryz.ntmps25
  go_wp2_with fail
  go_ret
  exact ⟨rfl, rfl⟩

end Go.Proofs.YtnmfjnfdnjjngaaGreatDoor.Co
