/-
  What the statements of layer 11 are given, as plain data, and how it lies in memory.
-/
import Derived.Test.YtjclklppnkoehaaGreatDoorRput
import Derived.Test.YtjclklppnkoehaaGreatDoorPut
namespace Go.Proofs.YtjclklppnkoehaaGreatDoor
open Go.RowKit
set_option maxRecDepth 100000

/-- A coin as it is given. -/
structure CnD where
  id8 : Int
  ix8 : Int
  val : Int
  ht : Int
  brs : List BrD
  scr : ByteArray
  raw : Bool
/-- An input as it is given. -/
structure SpD where
  co : Int
  br : Int
  tg : Int
  sq : Int
  raw : InD
  odd : Bool
def CnD.Ok (c : CnD) : Prop := 0 ≤ c.id8 ∧ c.id8 ≤ 255 ∧ 0 ≤ c.ix8 ∧ c.ix8 ≤ 255 ∧ -9223372036854775808 ≤ c.val ∧ c.val ≤ 9223372036854775807 ∧ -9223372036854775808 ≤ c.ht ∧ c.ht ≤ 9223372036854775807 ∧ (∀ x ∈ c.brs, x.Ok) ∧ c.brs.length ≤ maxLen ∧ c.scr.size ≤ maxLen
/-- An input of any length. -/
def InD.Any (x : InD) : Prop := x.id.size ≤ maxLen ∧ 0 ≤ x.ix ∧ x.ix ≤ 4294967295 ∧ 0 ≤ x.sq ∧ x.sq ≤ 4294967295 ∧ x.wit.length ≤ maxLen ∧ ∀ s ∈ x.wit, s.size ≤ maxLen
def SpD.Ok (s : SpD) : Prop := 0 ≤ s.co ∧ s.co ≤ 255 ∧ 0 ≤ s.br ∧ s.br ≤ 255 ∧ 0 ≤ s.tg ∧ s.tg ≤ 255 ∧ 0 ≤ s.sq ∧ s.sq ≤ 4294967295 ∧ s.raw.Any
/-- An output of any length. -/
def OutD.Any (x : OutD) : Prop := -9223372036854775808 ≤ x.val ∧ x.val ≤ 9223372036854775807 ∧ x.scr.size ≤ maxLen

/-- The xs lie in the slice v, each of sz cells. -/
def Lst {α : Type} (At : World → Nat → Nat → α → Prop) (sz : Nat) (w : World) (lo hi : Nat) (v : Value) (xs : List α) : Prop :=
  ∃ (A : Option Addr) (c : Nat), v = .slice A xs.length c ∧ xs.length ≤ c ∧ (xs = [] ∨ ∃ b off, A = some ⟨b, off, none⟩ ∧ lo ≤ b ∧ b < hi ∧ ∀ k x, xs[k]? = some x → At w b (off + k * sz) x)
theorem Lst.keep {α : Type} {At : World → Nat → Nat → α → Prop} {sz : Nat} {w w' : World} {lo hi : Nat} {v : Value} {xs : List α} (h : Lst At sz w lo hi v xs) (hk : ∀ b o x, lo ≤ b → b < hi → At w b o x → At w' b o x) : Lst At sz w' lo hi v xs := by
  obtain ⟨A, c, rfl, hc, h⟩ := h
  refine ⟨A, c, rfl, hc, ?_⟩
  rcases h with h | ⟨b, off, rfl, h1, h2, h⟩
  · exact .inl h
  · exact .inr ⟨b, off, rfl, h1, h2, fun k s hs => hk _ _ _ h1 h2 (h k s hs)⟩
theorem Lst.form {α : Type} {At : World → Nat → Nat → α → Prop} {sz : Nat} {w : World} {lo hi : Nat} {v : Value} {xs : List α} (h : Lst At sz w lo hi v xs) : ∃ A c, v = .slice A xs.length c := by
  obtain ⟨A, c, rfl, _⟩ := h
  exact ⟨A, c, rfl⟩
theorem Lst.at {α : Type} {At : World → Nat → Nat → α → Prop} {sz : Nat} {w : World} {lo hi : Nat} {A : Option Addr} {n c : Nat} {xs : List α} (h : Lst At sz w lo hi (.slice A n c) xs) {k : Nat} {x : α} (hx : xs[k]? = some x) :
    ∃ b off, A = some ⟨b, off, none⟩ ∧ lo ≤ b ∧ b < hi ∧ At w b (off + k * sz) x := by
  obtain ⟨A', c', hv, hc, h⟩ := h
  injection hv with hA
  subst hA
  rcases h with rfl | ⟨b, off, rfl, h1, h2, h⟩
  · simp at hx
  · exact ⟨b, off, rfl, h1, h2, h k x hx⟩
theorem Lst.take {α : Type} {At : World → Nat → Nat → α → Prop} {sz : Nat} {w : World} {lo hi : Nat} {A : Option Addr} {n c : Nat} {xs : List α} (h : Lst At sz w lo hi (.slice A n c) xs) {p : Nat} (hp : p ≤ xs.length) : Lst At sz w lo hi (.slice A p c) (xs.take p) := by
  obtain ⟨A', c', hv, hc, h⟩ := h
  injection hv with e1 _ e3
  subst e1 e3
  refine ⟨A, c, by rw [List.length_take, Nat.min_eq_left hp], by rw [List.length_take]; omega, ?_⟩
  rcases h with rfl | ⟨b, off, rfl, h1, h2, h⟩
  · exact .inl (by simp)
  · refine .inr ⟨b, off, rfl, h1, h2, fun k x hx => h k x ?_⟩
    rw [List.getElem?_take] at hx
    split at hx
    · exact hx
    · cases hx
theorem Lst.cap {α : Type} {At : World → Nat → Nat → α → Prop} {sz : Nat} {w : World} {lo hi : Nat} {A : Option Addr} {n c : Nat} {xs : List α} (h : Lst At sz w lo hi (.slice A n c) xs) : xs.length ≤ c := by
  obtain ⟨A', c', hv, hc, h⟩ := h
  injection hv with _ _ e3
  subst e3
  exact hc

/-- The seven cells of a coin as it is given. -/
def CnAt (lo hi : Nat) (w : World) (b o : Nat) (x : CnD) : Prop :=
  w.cell? ⟨b, o, none⟩ = some (.int .u8 x.id8) ∧ w.cell? ⟨b, o + 1, none⟩ = some (.int .u8 x.ix8) ∧ w.cell? ⟨b, o + 2, none⟩ = some (.int .i64 x.val) ∧ w.cell? ⟨b, o + 3, none⟩ = some (.int .i64 x.ht) ∧
    (∃ v, w.cell? ⟨b, o + 4, none⟩ = some v ∧ Brs w lo hi v x.brs) ∧ w.cell? ⟨b, o + 5, none⟩ = some (.string x.scr) ∧ w.cell? ⟨b, o + 6, none⟩ = some (.bool x.raw)
theorem CnAt.keep {w w' : World} {lo hi b o : Nat} {x : CnD} (h : CnAt lo hi w b o x) (h1 : lo ≤ b) (h2 : b < hi) (hk : Kept lo hi w w') : CnAt lo hi w' b o x := by
  obtain ⟨c0, c1, c2, c3, ⟨v, c4, hv⟩, c5, c6⟩ := h
  exact ⟨(hk.cell h1 h2).trans c0, (hk.cell h1 h2).trans c1, (hk.cell h1 h2).trans c2, (hk.cell h1 h2).trans c3, ⟨v, (hk.cell h1 h2).trans c4, hv.keep hk⟩, (hk.cell h1 h2).trans c5, (hk.cell h1 h2).trans c6⟩
/-- The nine cells of an input as it is given. -/
def SpAt (lo hi : Nat) (w : World) (b o : Nat) (x : SpD) : Prop :=
  w.cell? ⟨b, o, none⟩ = some (.int .u8 x.co) ∧ w.cell? ⟨b, o + 1, none⟩ = some (.int .u8 x.br) ∧ w.cell? ⟨b, o + 2, none⟩ = some (.int .u8 x.tg) ∧ w.cell? ⟨b, o + 3, none⟩ = some (.int .u32 x.sq) ∧ InAt w lo hi b (o + 4) x.raw ∧ w.cell? ⟨b, o + 8, none⟩ = some (.bool x.odd)
theorem SpAt.keep {w w' : World} {lo hi b o : Nat} {x : SpD} (h : SpAt lo hi w b o x) (h1 : lo ≤ b) (h2 : b < hi) (hk : Kept lo hi w w') : SpAt lo hi w' b o x := by
  obtain ⟨c0, c1, c2, c3, hi', c8⟩ := h
  exact ⟨(hk.cell h1 h2).trans c0, (hk.cell h1 h2).trans c1, (hk.cell h1 h2).trans c2, (hk.cell h1 h2).trans c3, hi'.keep h1 h2 hk, (hk.cell h1 h2).trans c8⟩
/-- Coins as they are given, inputs as they are given, in a slice. -/
def Cns (w : World) (lo hi : Nat) (v : Value) (xs : List CnD) : Prop := Lst (CnAt lo hi) 7 w lo hi v xs
def Sps (w : World) (lo hi : Nat) (v : Value) (xs : List SpD) : Prop := Lst (SpAt lo hi) 9 w lo hi v xs
theorem Cns.keep {w w' : World} {lo hi : Nat} {v : Value} {xs : List CnD} (h : Cns w lo hi v xs) (hk : Kept lo hi w w') : Cns w' lo hi v xs := Lst.keep h fun _ _ _ h1 h2 hx => hx.keep h1 h2 hk
theorem Sps.keep {w w' : World} {lo hi : Nat} {v : Value} {xs : List SpD} (h : Sps w lo hi v xs) (hk : Kept lo hi w w') : Sps w' lo hi v xs := Lst.keep h fun _ _ _ h1 h2 hx => hx.keep h1 h2 hk

/-- What a statement is given. -/
structure JobD where
  cns : List CnD
  sps : List SpD
  outs : List OutD
  ver : Int
  lock : Int
  ht : Int
structure JobD.Ok (z : JobD) : Prop where
  cns : ∀ x ∈ z.cns, x.Ok
  sps : ∀ x ∈ z.sps, x.Ok
  outs : ∀ x ∈ z.outs, x.Any
  lc : z.cns.length ≤ maxLen
  ls : z.sps.length ≤ maxLen
  lo : z.outs.length ≤ maxLen
  ver : 0 ≤ z.ver ∧ z.ver ≤ 4294967295
  lock : 0 ≤ z.lock ∧ z.lock ≤ 4294967295
  ht : -9223372036854775808 ≤ z.ht ∧ z.ht ≤ 9223372036854775807
/-- Its lists lie in memory. -/
structure JobAt (w : World) (hi : Nat) (vc vs vo : Value) (z : JobD) : Prop where
  cns : Cns w 0 hi vc z.cns
  sps : Sps w 0 hi vs z.sps
  outs : Outs w 0 hi vo z.outs
theorem JobAt.keep {w w' : World} {hi : Nat} {vc vs vo : Value} {z : JobD} (h : JobAt w hi vc vs vo z) (hk : Kept 0 hi w w') : JobAt w' hi vc vs vo z := ⟨h.cns.keep hk, h.sps.keep hk, h.outs.keep hk⟩
/-- A job as a value. -/
def jobV (z : JobD) (vc vs vo : Value) : Value := .agg #[vc, vs, vo, .int .u32 z.ver, .int .u32 z.lock, .int .i64 z.ht]

theorem run_min_nat (c : Nat) (ts : Array TypeId) (t : TypeId) (x : Nat) (w : World) : (Builtin.min_ ts t #[.int .i64 (x : Int), .int .i64 (c : Int)]).run Tryz.prog w = .ok (.int .i64 (min x c : Nat)) w := by
  rw [run_min_int2 w ts t .i64 .i64 x c]
  by_cases h : (c : Int) < x
  · rw [if_pos h, Nat.min_eq_right (by omega)]
  · rw [if_neg h, Nat.min_eq_left (by omega)]
theorem Brs.cap {w : World} {lo hi : Nat} {A : Option Addr} {n c : Nat} {xs : List BrD} (h : Brs w lo hi (.slice A n c) xs) : xs.length ≤ c := by
  obtain ⟨A', c', hv, hc, h⟩ := h
  injection hv with _ _ e3
  subst e3
  exact hc
theorem ptS_size {xs : List BrD} : (ptS xs).size ≤ 64 := by
  unfold ptS
  split
  · rename_i h
    unfold ptE at h
    split at h
    · omega
    · unfold scr
      rw [ByteArray.size_append, put_sz1, cat_size]
      omega
  · decide

end Go.Proofs.YtjclklppnkoehaaGreatDoor
