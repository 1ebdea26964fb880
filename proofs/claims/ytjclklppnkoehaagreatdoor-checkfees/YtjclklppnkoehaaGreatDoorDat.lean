/-
  Coins as plain data, and how they lie in memory.
-/
import Derived.Test.YtjclklppnkoehaaGreatDoorRows
import Derived.WalkKit
import Derived.WalkSpells
import Derived.WalkLawsBesides
import Derived.Deep.Draws
import Derived.Deep.QuietTactic
import Derived.Deep.OwnRows
import Derived.BigQuiet
import Derived.Lib.Hide
import Derived.Laws.StructEq
import Derived.Shelf.SlicesE.Kit
import Derived.Deep.AppendLies
namespace Go.Proofs.YtjclklppnkoehaaGreatDoor.Co
open Go.RowKit
set_option maxRecDepth 100000

theorem ret_int {k : IntKind} {a b : Int} (h : a = b) : Ending.returned (.int k a) = .returned (.int k b) := by rw [h]
theorem ret_bool {a b : Bool} (h : a = b) : Ending.returned (.bool a) = .returned (.bool b) := by rw [h]

/-- A coin at its point. -/
structure EnD where
  id : ByteArray
  ix : Int
  val : Int
  scr : ByteArray
  ht : Int
/-- No coin. -/
def e0 : EnD := ⟨⟨#[]⟩, 0, 0, ⟨#[]⟩, 0⟩
instance : Inhabited EnD := ⟨e0⟩
/-- A point that may be looked for. -/
def PtOk (a : ByteArray) (i : Int) : Prop := a.size ≤ 64 ∧ 0 ≤ i ∧ i ≤ 4294967295
/-- A coin that may be put. -/
def CoOk (x : EnD) : Prop := -9223372036854775808 ≤ x.val ∧ x.val ≤ 9223372036854775807 ∧ x.scr.size ≤ 64 ∧ -9223372036854775808 ≤ x.ht ∧ x.ht ≤ 9223372036854775807
def EnD.Ok (x : EnD) : Prop := PtOk x.id x.ix ∧ CoOk x
/-- Its five cells. -/
def encE (x : EnD) : List Value := [.string x.id, .int .u32 x.ix, .int .i64 x.val, .string x.scr, .int .i64 x.ht]
theorem encE_len (x : EnD) : (encE x).length = 5 := rfl
theorem encE_one (x : EnD) : ∀ v ∈ encE x, v.oneCell' = true := by
  intro v hv
  simp only [encE, List.mem_cons, List.not_mem_nil, or_false] at hv
  rcases hv with rfl | rfl | rfl | rfl | rfl <;> rfl
/-- All cells of a list of coins. -/
def cellsE (xs : List EnD) : List Value := xs.flatMap encE
theorem cellsE_len (xs : List EnD) : (cellsE xs).length = xs.length * 5 := by
  induction xs with
  | nil => rfl
  | cons x r ih => simp only [cellsE, List.flatMap_cons, List.length_append, encE_len, List.length_cons] at *; rw [ih]; omega
theorem cellsE_snoc (xs : List EnD) (x : EnD) : cellsE (xs ++ [x]) = cellsE xs ++ encE x := by simp [cellsE]
theorem cellsE_get {xs : List EnD} {k : Nat} {x : EnD} (h : xs[k]? = some x) {i : Nat} (hi : i < 5) : (cellsE xs)[k * 5 + i]? = (encE x)[i]? := by
  induction xs generalizing k with
  | nil => simp at h
  | cons y r ih =>
    show (encE y ++ cellsE r)[k * 5 + i]? = _
    cases k with
    | zero =>
      simp at h
      subst h
      rw [List.getElem?_append_left (by rw [encE_len]; omega)]
      simp
    | succ k =>
      simp at h
      rw [List.getElem?_append_right (by rw [encE_len]; omega), encE_len, show (k + 1) * 5 + i - 5 = k * 5 + i from by omega]
      exact ih h

/-- The blocks from lo on, ahead of hi, are in w' as they were in w. -/
def Kept (lo hi : Nat) (w w' : World) : Prop := ∀ b, lo ≤ b → b < hi → w'.heap[b]? = w.heap[b]?

theorem Kept.refl (lo hi : Nat) (w : World) : Kept lo hi w w := fun _ _ _ => rfl
theorem Kept.trans {lo hi : Nat} {a b c : World} (h : Kept lo hi a b) (k : Kept lo hi b c) : Kept lo hi a c := fun i h1 h2 => (k i h1 h2).trans (h i h1 h2)
theorem Kept.of_below {lo hi B : Nat} {w w' : World} (h : Below B w w') (hB : hi ≤ B) : Kept lo hi w w' := fun b _ hb => h.block b (by omega)
theorem Kept.cell {lo hi : Nat} {w w' : World} (h : Kept lo hi w w') {b o : Nat} (h1 : lo ≤ b) (h2 : b < hi) : w'.cell? ⟨b, o, none⟩ = w.cell? ⟨b, o, none⟩ := World.cell?_of_block (w := w) (h b h1 h2)
theorem Kept.alloc {lo hi : Nat} {w : World} (hi' : hi ≤ w.heap.size) (o : Obj) : Kept lo hi w (w.alloc o) := fun b _ hb => Below.heap_alloc _ _ _ (by omega)
theorem Kept.setCell {lo hi : Nat} {w : World} {p : Addr} (hp : p.block < lo ∨ hi ≤ p.block) (u : Value) : Kept lo hi w (w.setCell p u) := fun b h1 h2 => Below.heap_setCell _ _ _ _ (by omega)
theorem Kept.mono {lo hi lo' hi' : Nat} {w w' : World} (h : Kept lo hi w w') (h1 : lo ≤ lo') (h2 : hi' ≤ hi) : Kept lo' hi' w w' := fun b a c => h b (by omega) (by omega)

theorem below_drewN {B : Nat} {a w : World} (h : Below B a w) (n : Nat) : Below B a (w.drewN n) := ⟨h.os, h.tape, h.output, h.size, h.block⟩
/-- A step from a world to the next, each as below its own size. -/
theorem below_next {B : Nat} {a w w' : World} (h : Below B a w) (hB : B ≤ w.heap.size) (k : Below w.heap.size w w') : Below B a w' := h.trans (k.mono hB)
theorem lt_of_cell {w : World} {b o : Nat} {v : Value} (h : w.cell? ⟨b, o, none⟩ = some v) : b < w.heap.size := by
  rcases Nat.lt_or_ge b w.heap.size with hlt | hge
  · exact hlt
  · simp [World.cell?, Array.getElem?_eq_none hge] at h

/-- A row of the call's own, in a block ahead of top. -/
def OwnAt (w : World) (base top : Nat) (e : TypeId) (size : Nat) (v : Value) (n : Nat) (xs : List Value) : Prop := w.ownsRow base e size v n xs ∧ ∀ g, v.ownBlock = some g → g < top

/-- The blocks of element type e, from base on, ahead of top, are as they were. -/
def StayE (base top : Nat) (e : TypeId) (w w' : World) : Prop := ∀ b cur, base ≤ b → b < top → w.heap[b]? = some (.cells cur e (0, 0)) → w'.heap[b]? = w.heap[b]?

theorem StayE.of_below {base top : Nat} {e : TypeId} {B : Nat} {w w' : World} (h : Below B w w') (hB : top ≤ B) : StayE base top e w w' := fun b _ _ hb _ => h.block b (by omega)
theorem StayE.trans {base top : Nat} {e : TypeId} {a b c : World} (h : StayE base top e a b) (k : StayE base top e b c) : StayE base top e a c := fun i cur h1 h2 h3 => by
  have e1 := h i cur h1 h2 h3
  exact (k i cur h1 h2 (e1.trans h3)).trans e1
theorem StayE.alloc {base top : Nat} {e : TypeId} {w : World} (o : Obj) (h : top ≤ w.heap.size) : StayE base top e w (w.alloc o) := fun b _ _ hb _ => Below.heap_alloc _ _ _ (by omega)
theorem StayE.setCell {base top : Nat} {e : TypeId} {w : World} {p : Addr} (hp : p.block < base ∨ top ≤ p.block) (u : Value) : StayE base top e w (w.setCell p u) := fun b _ h1 h2 _ => Below.heap_setCell _ _ _ _ (by omega)
theorem StayE.drew {base top : Nat} {e : TypeId} {w w' : World} (h : StayE base top e w w') : StayE base top e w w'.drew := h
/-- Behind an append to a row of another element type. -/
theorem StayE.grown {base top : Nat} {e e2 : TypeId} {w w' : World} {base2 size n : Nat} {v : Value} {xs : List Value} (hown : w.ownsRow base2 e2 size v n xs) (hg : w.grownBy w' v.ownBlock) (ht : top ≤ w.heap.size) (hne : e ≠ e2) : StayE base top e w w' := by
  intro b cur _ hb hbl
  refine hg.block b (by omega) (fun h => ?_)
  rcases hown.2 with ⟨rfl, _⟩ | ⟨g, cap, cur2, rfl, _, hh, _⟩
  · simp [Value.ownBlock] at h
  · simp [Value.ownBlock] at h
    subst h
    rw [hbl] at hh
    injection hh with hh
    injection hh with _ ht
    exact hne ht

theorem OwnAt.keep {w w' : World} {base top top' : Nat} {e : TypeId} {size : Nat} {v : Value} {n : Nat} {xs : List Value} (h : OwnAt w base top e size v n xs) (hs : StayE base top e w w') (ht : top ≤ top') : OwnAt w' base top' e size v n xs := by
  obtain ⟨⟨h1, h2⟩, h3⟩ := h
  refine ⟨⟨h1, ?_⟩, fun g hg => by have := h3 g hg; omega⟩
  rcases h2 with h2 | ⟨g, cap, cur, rfl, hb, hh, r⟩
  · exact .inl h2
  · exact .inr ⟨g, cap, cur, rfl, hb, by rw [hs g cur hb (h3 g rfl) hh]; exact hh, r⟩
theorem OwnAt.of_own {w : World} {base : Nat} {e : TypeId} {size : Nat} {v : Value} {n : Nat} {xs : List Value} (h : w.ownsRow base e size v n xs) : OwnAt w base w.heap.size e size v n xs := by
  refine ⟨h, fun g hg => ?_⟩
  rcases h.2 with ⟨rfl, _⟩ | ⟨g', cap, cur, rfl, _, hh, _⟩
  · simp [Value.ownBlock] at hg
  · simp [Value.ownBlock] at hg
    subst hg
    rcases Nat.lt_or_ge g' w.heap.size with hlt | hge
    · exact hlt
    · rw [Array.getElem?_eq_none hge] at hh; cases hh
theorem OwnAt.base {w : World} {base base' top : Nat} {e : TypeId} {size : Nat} {v : Value} {n : Nat} {xs : List Value} (h : OwnAt w base top e size v n xs) (hb : base' ≤ base) : OwnAt w base' top e size v n xs := by
  obtain ⟨⟨h1, h2⟩, h3⟩ := h
  refine ⟨⟨h1, ?_⟩, h3⟩
  rcases h2 with h2 | ⟨g, cap, cur, rfl, hb', r⟩
  · exact .inl h2
  · exact .inr ⟨g, cap, cur, rfl, by omega, r⟩

/-- The five cells of a coin, from offset o of block b on. -/
def EntAt (w : World) (b o : Nat) (x : EnD) : Prop :=
  w.cell? ⟨b, o, none⟩ = some (.string x.id) ∧ w.cell? ⟨b, o + 1, none⟩ = some (.int .u32 x.ix) ∧ w.cell? ⟨b, o + 2, none⟩ = some (.int .i64 x.val) ∧ w.cell? ⟨b, o + 3, none⟩ = some (.string x.scr) ∧ w.cell? ⟨b, o + 4, none⟩ = some (.int .i64 x.ht)
theorem EntAt.keep {w w' : World} {lo hi b o : Nat} {x : EnD} (h : EntAt w b o x) (h1 : lo ≤ b) (h2 : b < hi) (hk : Kept lo hi w w') : EntAt w' b o x :=
  ⟨(hk.cell h1 h2).trans h.1, (hk.cell h1 h2).trans h.2.1, (hk.cell h1 h2).trans h.2.2.1, (hk.cell h1 h2).trans h.2.2.2.1, (hk.cell h1 h2).trans h.2.2.2.2⟩
/-- The coins xs lie in the slice v. -/
def Ents (w : World) (lo hi : Nat) (v : Value) (xs : List EnD) : Prop :=
  ∃ (A : Option Addr) (c : Nat), v = .slice A xs.length c ∧ xs.length ≤ c ∧ (xs = [] ∨ ∃ b off, A = some ⟨b, off, none⟩ ∧ lo ≤ b ∧ b < hi ∧ ∀ k x, xs[k]? = some x → EntAt w b (off + k * 5) x)
theorem Ents.keep {w w' : World} {lo hi : Nat} {v : Value} {xs : List EnD} (h : Ents w lo hi v xs) (hk : Kept lo hi w w') : Ents w' lo hi v xs := by
  obtain ⟨A, c, rfl, hc, h⟩ := h
  refine ⟨A, c, rfl, hc, ?_⟩
  rcases h with h | ⟨b, off, rfl, h1, h2, h⟩
  · exact .inl h
  · exact .inr ⟨b, off, rfl, h1, h2, fun k s hs => (h k s hs).keep h1 h2 hk⟩
theorem Ents.wide {w : World} {lo hi lo' hi' : Nat} {v : Value} {xs : List EnD} (h : Ents w lo hi v xs) (h1 : lo' ≤ lo) (h2 : hi ≤ hi') : Ents w lo' hi' v xs := by
  obtain ⟨A, c, rfl, hc, h⟩ := h
  refine ⟨A, c, rfl, hc, ?_⟩
  rcases h with h | ⟨b, off, rfl, h3, h4, h⟩
  · exact .inl h
  · exact .inr ⟨b, off, rfl, by omega, by omega, h⟩
theorem Ents.nil (w : World) (lo hi : Nat) : Ents w lo hi (.slice none 0 0) [] := ⟨none, 0, rfl, Nat.le_refl _, .inl rfl⟩
theorem Ents.form {w : World} {lo hi : Nat} {v : Value} {xs : List EnD} (h : Ents w lo hi v xs) : ∃ A c, v = .slice A xs.length c := by
  obtain ⟨A, c, rfl, _⟩ := h
  exact ⟨A, c, rfl⟩
theorem Ents.at {w : World} {lo hi : Nat} {A : Option Addr} {n c : Nat} {xs : List EnD} (h : Ents w lo hi (.slice A n c) xs) {k : Nat} {x : EnD} (hx : xs[k]? = some x) :
    ∃ b off, A = some ⟨b, off, none⟩ ∧ lo ≤ b ∧ b < hi ∧ EntAt w b (off + k * 5) x := by
  obtain ⟨A', c', hv, hc, h⟩ := h
  injection hv with hA
  subst hA
  rcases h with rfl | ⟨b, off, rfl, h1, h2, h⟩
  · simp at hx
  · exact ⟨b, off, rfl, h1, h2, h k x hx⟩
/-- A row of the call's own, read. -/
theorem OwnAt.ents {w : World} {base top : Nat} {e : TypeId} {v : Value} {xs : List EnD} (h : OwnAt w base top e 5 v xs.length (cellsE xs)) : Ents w base top v xs := by
  obtain ⟨hown, ht⟩ := h
  rcases hown.2 with ⟨rfl, h0⟩ | ⟨g, cap, cur, rfl, hb, hg, hn, hm, hs, htk⟩
  · have : xs = [] := List.eq_nil_of_length_eq_zero h0
    subst this
    exact Ents.nil _ _ _
  · refine ⟨_, cap, rfl, hn, .inr ⟨g, 0, rfl, hb, ht g rfl, fun k x hk => ?_⟩⟩
    have hc := hown.cells (g := g) rfl
    have a0 := hc _ _ (cellsE_get hk (i := 0) (by omega))
    have a1 := hc _ _ (cellsE_get hk (i := 1) (by omega))
    have a2 := hc _ _ (cellsE_get hk (i := 2) (by omega))
    have a3 := hc _ _ (cellsE_get hk (i := 3) (by omega))
    have a4 := hc _ _ (cellsE_get hk (i := 4) (by omega))
    simp only [Addr.add_lit, Nat.zero_add, Nat.add_zero] at a0 a1 a2 a3 a4
    unfold EntAt
    rw [Nat.zero_add]
    exact ⟨a0, a1, a2, a3, a4⟩

end Go.Proofs.YtjclklppnkoehaaGreatDoor.Co
