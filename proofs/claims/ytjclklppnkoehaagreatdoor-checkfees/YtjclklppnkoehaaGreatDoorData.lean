/-
  Transactions as plain data, and how they lie in memory: texts, inputs, outputs, each in a block of a given range.
-/
import Derived.Test.YtjclklppnkoehaaGreatDoorRows
import Derived.WalkKit
import Derived.Deep.Draws
namespace Go.Proofs.YtjclklppnkoehaaGreatDoor
open Go.RowKit
set_option maxRecDepth 100000

/-- An input: its point, its Sequence, its Witness. -/
structure InD where
  id : ByteArray
  ix : Int
  sq : Int
  wit : List ByteArray

/-- An output. -/
structure OutD where
  val : Int
  scr : ByteArray

/-- A transaction. -/
structure TxD where
  ver : Int
  ins : List InD
  outs : List OutD
  lock : Int

/-- The blocks from lo on, ahead of hi, are in w' as they were in w. -/
def Kept (lo hi : Nat) (w w' : World) : Prop := ∀ b, lo ≤ b → b < hi → w'.heap[b]? = w.heap[b]?

theorem Kept.refl (lo hi : Nat) (w : World) : Kept lo hi w w := fun _ _ _ => rfl
theorem Kept.trans {lo hi : Nat} {a b c : World} (h : Kept lo hi a b) (k : Kept lo hi b c) : Kept lo hi a c := fun i h1 h2 => (k i h1 h2).trans (h i h1 h2)
theorem Kept.of_below {lo hi B : Nat} {w w' : World} (h : Below B w w') (hB : hi ≤ B) : Kept lo hi w w' := fun b _ hb => h.block b (by omega)
theorem Kept.cell {lo hi : Nat} {w w' : World} (h : Kept lo hi w w') {b o : Nat} (h1 : lo ≤ b) (h2 : b < hi) : w'.cell? ⟨b, o, none⟩ = w.cell? ⟨b, o, none⟩ := World.cell?_of_block (w := w) (h b h1 h2)
theorem Kept.alloc {lo hi : Nat} {w : World} (hi' : hi ≤ w.heap.size) (o : Obj) : Kept lo hi w (w.alloc o) := fun b _ hb => Below.heap_alloc _ _ _ (by omega)
theorem Kept.setCell {lo hi : Nat} {w : World} {p : Addr} (hp : p.block < lo ∨ hi ≤ p.block) (u : Value) : Kept lo hi w (w.setCell p u) := fun b h1 h2 => Below.heap_setCell _ _ _ _ (by omega)
theorem Kept.mono {lo hi lo' hi' : Nat} {w w' : World} (h : Kept lo hi w w') (h1 : lo ≤ lo') (h2 : hi' ≤ hi) : Kept lo' hi' w w' := fun b a c => h b (by omega) (by omega)

theorem below_drewN {B : Nat} {a w : World} (h : Below B a w) (n : Nat) : Below B a (w.drewN n) := ⟨h.os, h.tape, h.output, h.size, h.block⟩
/-- A step from a world to the next, each as below its own size. -/
theorem below_next {B : Nat} {a w w' : World} (h : Below B a w) (hB : B ≤ w.heap.size) (k : Below w.heap.size w w') : Below B a w' := h.trans (k.mono hB)
theorem lt_of_cell {w : World} {b o : Nat} {v : Value} (h : w.cell? ⟨b, o, none⟩ = some v) : b < w.heap.size := by
  rcases Nat.lt_or_ge b w.heap.size with hlt | hge
  · exact hlt
  · simp [World.cell?, Array.getElem?_eq_none hge] at h

/-- The texts ss lie in the slice v. -/
def Strs (w : World) (lo hi : Nat) (v : Value) (ss : List ByteArray) : Prop :=
  ∃ (A : Option Addr) (c : Nat), v = .slice A ss.length c ∧ ss.length ≤ c ∧ (ss = [] ∨ ∃ b off, A = some ⟨b, off, none⟩ ∧ lo ≤ b ∧ b < hi ∧ ∀ k s, ss[k]? = some s → w.cell? ⟨b, off + k, none⟩ = some (.string s))

theorem Strs.keep {w w' : World} {lo hi : Nat} {v : Value} {ss : List ByteArray} (h : Strs w lo hi v ss) (hk : Kept lo hi w w') : Strs w' lo hi v ss := by
  obtain ⟨A, c, rfl, hc, h⟩ := h
  refine ⟨A, c, rfl, hc, ?_⟩
  rcases h with h | ⟨b, off, rfl, h1, h2, h⟩
  · exact .inl h
  · exact .inr ⟨b, off, rfl, h1, h2, fun k s hs => (hk.cell h1 h2).trans (h k s hs)⟩
theorem Strs.wide {w : World} {lo hi lo' hi' : Nat} {v : Value} {ss : List ByteArray} (h : Strs w lo hi v ss) (h1 : lo' ≤ lo) (h2 : hi ≤ hi') : Strs w lo' hi' v ss := by
  obtain ⟨A, c, rfl, hc, h⟩ := h
  refine ⟨A, c, rfl, hc, ?_⟩
  rcases h with h | ⟨b, off, rfl, h3, h4, h⟩
  · exact .inl h
  · exact .inr ⟨b, off, rfl, by omega, by omega, h⟩
theorem Strs.nil (w : World) (lo hi : Nat) : Strs w lo hi (.slice none 0 0) [] := ⟨none, 0, rfl, Nat.le_refl _, .inl rfl⟩
theorem Strs.at {w : World} {lo hi : Nat} {A : Option Addr} {n c : Nat} {ss : List ByteArray} (h : Strs w lo hi (.slice A n c) ss) {k : Nat} (hk : k < ss.length) :
    ∃ b off, A = some ⟨b, off, none⟩ ∧ lo ≤ b ∧ b < hi ∧ w.cell? ⟨b, off + k, none⟩ = some (.string (ss.getD k ByteArray.empty)) := by
  obtain ⟨A', c', hv, hc, h⟩ := h
  injection hv with hA
  subst hA
  rcases h with rfl | ⟨b, off, rfl, h1, h2, h⟩
  · simp at hk
  · exact ⟨b, off, rfl, h1, h2, h k _ (by simp [List.getD_eq_getElem?_getD, hk])⟩

/-- The four cells of an input, from offset o of block b on. -/
def InAt (w : World) (lo hi b o : Nat) (x : InD) : Prop :=
  w.cell? ⟨b, o, none⟩ = some (.string x.id) ∧ w.cell? ⟨b, o + 1, none⟩ = some (.int .u32 x.ix) ∧ w.cell? ⟨b, o + 2, none⟩ = some (.int .u32 x.sq) ∧
    ∃ v, w.cell? ⟨b, o + 3, none⟩ = some v ∧ Strs w lo hi v x.wit

theorem InAt.keep {w w' : World} {lo hi b o : Nat} {x : InD} (h : InAt w lo hi b o x) (h1 : lo ≤ b) (h2 : b < hi) (hk : Kept lo hi w w') : InAt w' lo hi b o x := by
  obtain ⟨c0, c1, c2, v, c3, hs⟩ := h
  exact ⟨(hk.cell h1 h2).trans c0, (hk.cell h1 h2).trans c1, (hk.cell h1 h2).trans c2, v, (hk.cell h1 h2).trans c3, hs.keep hk⟩
theorem InAt.wide {w : World} {lo hi lo' hi' b o : Nat} {x : InD} (h : InAt w lo hi b o x) (h1 : lo' ≤ lo) (h2 : hi ≤ hi') : InAt w lo' hi' b o x := by
  obtain ⟨c0, c1, c2, v, c3, hs⟩ := h
  exact ⟨c0, c1, c2, v, c3, hs.wide h1 h2⟩

/-- The inputs xs lie in the slice v. -/
def Ins (w : World) (lo hi : Nat) (v : Value) (xs : List InD) : Prop :=
  ∃ (A : Option Addr) (c : Nat), v = .slice A xs.length c ∧ xs.length ≤ c ∧ (xs = [] ∨ ∃ b off, A = some ⟨b, off, none⟩ ∧ lo ≤ b ∧ b < hi ∧ ∀ k x, xs[k]? = some x → InAt w lo hi b (off + k * 4) x)

theorem Ins.keep {w w' : World} {lo hi : Nat} {v : Value} {xs : List InD} (h : Ins w lo hi v xs) (hk : Kept lo hi w w') : Ins w' lo hi v xs := by
  obtain ⟨A, c, rfl, hc, h⟩ := h
  refine ⟨A, c, rfl, hc, ?_⟩
  rcases h with h | ⟨b, off, rfl, h1, h2, h⟩
  · exact .inl h
  · exact .inr ⟨b, off, rfl, h1, h2, fun k s hs => (h k s hs).keep h1 h2 hk⟩
theorem Ins.wide {w : World} {lo hi lo' hi' : Nat} {v : Value} {xs : List InD} (h : Ins w lo hi v xs) (h1 : lo' ≤ lo) (h2 : hi ≤ hi') : Ins w lo' hi' v xs := by
  obtain ⟨A, c, rfl, hc, h⟩ := h
  refine ⟨A, c, rfl, hc, ?_⟩
  rcases h with h | ⟨b, off, rfl, h3, h4, h⟩
  · exact .inl h
  · exact .inr ⟨b, off, rfl, by omega, by omega, fun k s hs => (h k s hs).wide h1 h2⟩
theorem Ins.nil (w : World) (lo hi : Nat) : Ins w lo hi (.slice none 0 0) [] := ⟨none, 0, rfl, Nat.le_refl _, .inl rfl⟩
theorem Ins.at {w : World} {lo hi : Nat} {A : Option Addr} {n c : Nat} {xs : List InD} (h : Ins w lo hi (.slice A n c) xs) {k : Nat} {x : InD} (hx : xs[k]? = some x) :
    ∃ b off, A = some ⟨b, off, none⟩ ∧ lo ≤ b ∧ b < hi ∧ InAt w lo hi b (off + k * 4) x := by
  obtain ⟨A', c', hv, hc, h⟩ := h
  injection hv with hA
  subst hA
  rcases h with rfl | ⟨b, off, rfl, h1, h2, h⟩
  · simp at hx
  · exact ⟨b, off, rfl, h1, h2, h k x hx⟩

/-- The two cells of an output. -/
def OutAt (w : World) (b o : Nat) (x : OutD) : Prop := w.cell? ⟨b, o, none⟩ = some (.int .i64 x.val) ∧ w.cell? ⟨b, o + 1, none⟩ = some (.string x.scr)

/-- The outputs xs lie in the slice v. -/
def Outs (w : World) (lo hi : Nat) (v : Value) (xs : List OutD) : Prop :=
  ∃ (A : Option Addr) (c : Nat), v = .slice A xs.length c ∧ xs.length ≤ c ∧ (xs = [] ∨ ∃ b off, A = some ⟨b, off, none⟩ ∧ lo ≤ b ∧ b < hi ∧ ∀ k x, xs[k]? = some x → OutAt w b (off + k * 2) x)

theorem Outs.keep {w w' : World} {lo hi : Nat} {v : Value} {xs : List OutD} (h : Outs w lo hi v xs) (hk : Kept lo hi w w') : Outs w' lo hi v xs := by
  obtain ⟨A, c, rfl, hc, h⟩ := h
  refine ⟨A, c, rfl, hc, ?_⟩
  rcases h with h | ⟨b, off, rfl, h1, h2, h⟩
  · exact .inl h
  · exact .inr ⟨b, off, rfl, h1, h2, fun k s hs => ⟨(hk.cell h1 h2).trans (h k s hs).1, (hk.cell h1 h2).trans (h k s hs).2⟩⟩
theorem Outs.wide {w : World} {lo hi lo' hi' : Nat} {v : Value} {xs : List OutD} (h : Outs w lo hi v xs) (h1 : lo' ≤ lo) (h2 : hi ≤ hi') : Outs w lo' hi' v xs := by
  obtain ⟨A, c, rfl, hc, h⟩ := h
  refine ⟨A, c, rfl, hc, ?_⟩
  rcases h with h | ⟨b, off, rfl, h3, h4, h⟩
  · exact .inl h
  · exact .inr ⟨b, off, rfl, by omega, by omega, h⟩
theorem Outs.nil (w : World) (lo hi : Nat) : Outs w lo hi (.slice none 0 0) [] := ⟨none, 0, rfl, Nat.le_refl _, .inl rfl⟩
theorem Outs.at {w : World} {lo hi : Nat} {A : Option Addr} {n c : Nat} {xs : List OutD} (h : Outs w lo hi (.slice A n c) xs) {k : Nat} {x : OutD} (hx : xs[k]? = some x) :
    ∃ b off, A = some ⟨b, off, none⟩ ∧ lo ≤ b ∧ b < hi ∧ OutAt w b (off + k * 2) x := by
  obtain ⟨A', c', hv, hc, h⟩ := h
  injection hv with hA
  subst hA
  rcases h with rfl | ⟨b, off, rfl, h1, h2, h⟩
  · simp at hx
  · exact ⟨b, off, rfl, h1, h2, h k x hx⟩

/-- A transaction as a value. -/
def txV (t : TxD) (vi vo : Value) : Value := .agg #[.int .u32 t.ver, vi, vo, .int .u32 t.lock]

/-- Its lists lie in memory. -/
def TxAt (w : World) (lo hi : Nat) (vi vo : Value) (t : TxD) : Prop := Ins w lo hi vi t.ins ∧ Outs w lo hi vo t.outs

theorem TxAt.keep {w w' : World} {lo hi : Nat} {vi vo : Value} {t : TxD} (h : TxAt w lo hi vi vo t) (hk : Kept lo hi w w') : TxAt w' lo hi vi vo t := ⟨h.1.keep hk, h.2.keep hk⟩
theorem TxAt.wide {w : World} {lo hi lo' hi' : Nat} {vi vo : Value} {t : TxD} (h : TxAt w lo hi vi vo t) (h1 : lo' ≤ lo) (h2 : hi ≤ hi') : TxAt w lo' hi' vi vo t := ⟨h.1.wide h1 h2, h.2.wide h1 h2⟩

/-- What is asked of an input, an output, a transaction that the calls are held at: not too many parts, none too long. -/
def InD.Ok (x : InD) : Prop := x.id.size ≤ 64 ∧ 0 ≤ x.ix ∧ x.ix ≤ 4294967295 ∧ 0 ≤ x.sq ∧ x.sq ≤ 4294967295 ∧ x.wit.length ≤ 8 ∧ ∀ s ∈ x.wit, s.size ≤ 128
def OutD.Ok (x : OutD) : Prop := -9223372036854775808 ≤ x.val ∧ x.val ≤ 9223372036854775807 ∧ x.scr.size ≤ 64
def TxD.Ok (t : TxD) : Prop := t.ins.length ≤ 512 ∧ t.outs.length ≤ 512 ∧ (∀ x ∈ t.ins, x.Ok) ∧ (∀ x ∈ t.outs, x.Ok) ∧ 0 ≤ t.ver ∧ t.ver ≤ 4294967295 ∧ 0 ≤ t.lock ∧ t.lock ≤ 4294967295

end Go.Proofs.YtjclklppnkoehaaGreatDoor
