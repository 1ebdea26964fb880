/-
  Transactions as plain data, and how they lie in memory: texts, inputs, outputs, each in a block of a given range.
  Layer 5's smallest calls: bounds, points and their order, closures that look at one part.
-/
import Derived.Test.YtfobdefncbaooaaDoorRows
import Derived.WalkKit
import Derived.Deep.Draws
import Derived.WalkSpells
import Derived.WalkLawsBesides
import Derived.Deep.QuietTactic
import Derived.BigQuiet
import Derived.Lib.Hide
import Derived.Laws.StructEq
import Derived.Shelf.SlicesE.Kit

namespace Go.Proofs.YtfobdefncbaooaaDoor
open Go.RowKit

/-- An input: its point, its Sequence, its Witness. -/
structure InD where
  id : ByteArray
  ix : Int
  sq : Int
  wit : List ByteArray

/-- An output. -/
structure OutD where
  val : Int
  scr : ByteArray

/-- A transaction. -/
structure TxD where
  ver : Int
  ins : List InD
  outs : List OutD
  lock : Int

/-- The blocks from lo on, ahead of hi, are in w' as they were in w. -/
def Kept (lo hi : Nat) (w w' : World) : Prop := ∀ b, lo ≤ b → b < hi → w'.heap[b]? = w.heap[b]?

theorem Kept.refl (lo hi : Nat) (w : World) : Kept lo hi w w := fun _ _ _ => rfl
theorem Kept.trans {lo hi : Nat} {a b c : World} (h : Kept lo hi a b) (k : Kept lo hi b c) : Kept lo hi a c := fun i h1 h2 => (k i h1 h2).trans (h i h1 h2)
theorem Kept.of_below {lo hi B : Nat} {w w' : World} (h : Below B w w') (hB : hi ≤ B) : Kept lo hi w w' := fun b _ hb => h.block b (by omega)
theorem Kept.cell {lo hi : Nat} {w w' : World} (h : Kept lo hi w w') {b o : Nat} (h1 : lo ≤ b) (h2 : b < hi) : w'.cell? ⟨b, o, none⟩ = w.cell? ⟨b, o, none⟩ := World.cell?_of_block (w := w) (h b h1 h2)
theorem Kept.alloc {lo hi : Nat} {w : World} (hi' : hi ≤ w.heap.size) (o : Obj) : Kept lo hi w (w.alloc o) := fun b _ hb => Below.heap_alloc _ _ _ (by omega)
theorem Kept.setCell {lo hi : Nat} {w : World} {p : Addr} (hp : p.block < lo ∨ hi ≤ p.block) (u : Value) : Kept lo hi w (w.setCell p u) := fun b h1 h2 => Below.heap_setCell _ _ _ _ (by omega)
theorem Kept.mono {lo hi lo' hi' : Nat} {w w' : World} (h : Kept lo hi w w') (h1 : lo ≤ lo') (h2 : hi' ≤ hi) : Kept lo' hi' w w' := fun b a c => h b (by omega) (by omega)

theorem below_drewN {B : Nat} {a w : World} (h : Below B a w) (n : Nat) : Below B a (w.drewN n) := ⟨h.os, h.tape, h.output, h.size, h.block⟩
/-- A step from a world to the next, each as below its own size. -/
theorem below_next {B : Nat} {a w w' : World} (h : Below B a w) (hB : B ≤ w.heap.size) (k : Below w.heap.size w w') : Below B a w' := h.trans (k.mono hB)
theorem lt_of_cell {w : World} {b o : Nat} {v : Value} (h : w.cell? ⟨b, o, none⟩ = some v) : b < w.heap.size := by
  rcases Nat.lt_or_ge b w.heap.size with hlt | hge
  · exact hlt
  · simp [World.cell?, Array.getElem?_eq_none hge] at h

/-- The texts ss lie in the slice v. -/
def Strs (w : World) (lo hi : Nat) (v : Value) (ss : List ByteArray) : Prop :=
  ∃ (A : Option Addr) (c : Nat), v = .slice A ss.length c ∧ ss.length ≤ c ∧ (ss = [] ∨ ∃ b off, A = some ⟨b, off, none⟩ ∧ lo ≤ b ∧ b < hi ∧ ∀ k s, ss[k]? = some s → w.cell? ⟨b, off + k, none⟩ = some (.string s))

theorem Strs.keep {w w' : World} {lo hi : Nat} {v : Value} {ss : List ByteArray} (h : Strs w lo hi v ss) (hk : Kept lo hi w w') : Strs w' lo hi v ss := by
  obtain ⟨A, c, rfl, hc, h⟩ := h
  refine ⟨A, c, rfl, hc, ?_⟩
  rcases h with h | ⟨b, off, rfl, h1, h2, h⟩
  · exact .inl h
  · exact .inr ⟨b, off, rfl, h1, h2, fun k s hs => (hk.cell h1 h2).trans (h k s hs)⟩
theorem Strs.wide {w : World} {lo hi lo' hi' : Nat} {v : Value} {ss : List ByteArray} (h : Strs w lo hi v ss) (h1 : lo' ≤ lo) (h2 : hi ≤ hi') : Strs w lo' hi' v ss := by
  obtain ⟨A, c, rfl, hc, h⟩ := h
  refine ⟨A, c, rfl, hc, ?_⟩
  rcases h with h | ⟨b, off, rfl, h3, h4, h⟩
  · exact .inl h
  · exact .inr ⟨b, off, rfl, by omega, by omega, h⟩
theorem Strs.nil (w : World) (lo hi : Nat) : Strs w lo hi (.slice none 0 0) [] := ⟨none, 0, rfl, Nat.le_refl _, .inl rfl⟩
theorem Strs.at {w : World} {lo hi : Nat} {A : Option Addr} {n c : Nat} {ss : List ByteArray} (h : Strs w lo hi (.slice A n c) ss) {k : Nat} (hk : k < ss.length) :
    ∃ b off, A = some ⟨b, off, none⟩ ∧ lo ≤ b ∧ b < hi ∧ w.cell? ⟨b, off + k, none⟩ = some (.string (ss.getD k ByteArray.empty)) := by
  obtain ⟨A', c', hv, hc, h⟩ := h
  injection hv with hA
  subst hA
  rcases h with rfl | ⟨b, off, rfl, h1, h2, h⟩
  · simp at hk
  · exact ⟨b, off, rfl, h1, h2, h k _ (by simp [List.getD_eq_getElem?_getD, hk])⟩

/-- The four cells of an input, from offset o of block b on. -/
def InAt (w : World) (lo hi b o : Nat) (x : InD) : Prop :=
  w.cell? ⟨b, o, none⟩ = some (.string x.id) ∧ w.cell? ⟨b, o + 1, none⟩ = some (.int .u32 x.ix) ∧ w.cell? ⟨b, o + 2, none⟩ = some (.int .u32 x.sq) ∧
    ∃ v, w.cell? ⟨b, o + 3, none⟩ = some v ∧ Strs w lo hi v x.wit

theorem InAt.keep {w w' : World} {lo hi b o : Nat} {x : InD} (h : InAt w lo hi b o x) (h1 : lo ≤ b) (h2 : b < hi) (hk : Kept lo hi w w') : InAt w' lo hi b o x := by
  obtain ⟨c0, c1, c2, v, c3, hs⟩ := h
  exact ⟨(hk.cell h1 h2).trans c0, (hk.cell h1 h2).trans c1, (hk.cell h1 h2).trans c2, v, (hk.cell h1 h2).trans c3, hs.keep hk⟩
theorem InAt.wide {w : World} {lo hi lo' hi' b o : Nat} {x : InD} (h : InAt w lo hi b o x) (h1 : lo' ≤ lo) (h2 : hi ≤ hi') : InAt w lo' hi' b o x := by
  obtain ⟨c0, c1, c2, v, c3, hs⟩ := h
  exact ⟨c0, c1, c2, v, c3, hs.wide h1 h2⟩

/-- The inputs xs lie in the slice v. -/
def Ins (w : World) (lo hi : Nat) (v : Value) (xs : List InD) : Prop :=
  ∃ (A : Option Addr) (c : Nat), v = .slice A xs.length c ∧ xs.length ≤ c ∧ (xs = [] ∨ ∃ b off, A = some ⟨b, off, none⟩ ∧ lo ≤ b ∧ b < hi ∧ ∀ k x, xs[k]? = some x → InAt w lo hi b (off + k * 4) x)

theorem Ins.keep {w w' : World} {lo hi : Nat} {v : Value} {xs : List InD} (h : Ins w lo hi v xs) (hk : Kept lo hi w w') : Ins w' lo hi v xs := by
  obtain ⟨A, c, rfl, hc, h⟩ := h
  refine ⟨A, c, rfl, hc, ?_⟩
  rcases h with h | ⟨b, off, rfl, h1, h2, h⟩
  · exact .inl h
  · exact .inr ⟨b, off, rfl, h1, h2, fun k s hs => (h k s hs).keep h1 h2 hk⟩
theorem Ins.wide {w : World} {lo hi lo' hi' : Nat} {v : Value} {xs : List InD} (h : Ins w lo hi v xs) (h1 : lo' ≤ lo) (h2 : hi ≤ hi') : Ins w lo' hi' v xs := by
  obtain ⟨A, c, rfl, hc, h⟩ := h
  refine ⟨A, c, rfl, hc, ?_⟩
  rcases h with h | ⟨b, off, rfl, h3, h4, h⟩
  · exact .inl h
  · exact .inr ⟨b, off, rfl, by omega, by omega, fun k s hs => (h k s hs).wide h1 h2⟩
theorem Ins.nil (w : World) (lo hi : Nat) : Ins w lo hi (.slice none 0 0) [] := ⟨none, 0, rfl, Nat.le_refl _, .inl rfl⟩
theorem Ins.at {w : World} {lo hi : Nat} {A : Option Addr} {n c : Nat} {xs : List InD} (h : Ins w lo hi (.slice A n c) xs) {k : Nat} {x : InD} (hx : xs[k]? = some x) :
    ∃ b off, A = some ⟨b, off, none⟩ ∧ lo ≤ b ∧ b < hi ∧ InAt w lo hi b (off + k * 4) x := by
  obtain ⟨A', c', hv, hc, h⟩ := h
  injection hv with hA
  subst hA
  rcases h with rfl | ⟨b, off, rfl, h1, h2, h⟩
  · simp at hx
  · exact ⟨b, off, rfl, h1, h2, h k x hx⟩

/-- The two cells of an output. -/
def OutAt (w : World) (b o : Nat) (x : OutD) : Prop := w.cell? ⟨b, o, none⟩ = some (.int .i64 x.val) ∧ w.cell? ⟨b, o + 1, none⟩ = some (.string x.scr)

/-- The outputs xs lie in the slice v. -/
def Outs (w : World) (lo hi : Nat) (v : Value) (xs : List OutD) : Prop :=
  ∃ (A : Option Addr) (c : Nat), v = .slice A xs.length c ∧ xs.length ≤ c ∧ (xs = [] ∨ ∃ b off, A = some ⟨b, off, none⟩ ∧ lo ≤ b ∧ b < hi ∧ ∀ k x, xs[k]? = some x → OutAt w b (off + k * 2) x)

theorem Outs.keep {w w' : World} {lo hi : Nat} {v : Value} {xs : List OutD} (h : Outs w lo hi v xs) (hk : Kept lo hi w w') : Outs w' lo hi v xs := by
  obtain ⟨A, c, rfl, hc, h⟩ := h
  refine ⟨A, c, rfl, hc, ?_⟩
  rcases h with h | ⟨b, off, rfl, h1, h2, h⟩
  · exact .inl h
  · exact .inr ⟨b, off, rfl, h1, h2, fun k s hs => ⟨(hk.cell h1 h2).trans (h k s hs).1, (hk.cell h1 h2).trans (h k s hs).2⟩⟩
theorem Outs.wide {w : World} {lo hi lo' hi' : Nat} {v : Value} {xs : List OutD} (h : Outs w lo hi v xs) (h1 : lo' ≤ lo) (h2 : hi ≤ hi') : Outs w lo' hi' v xs := by
  obtain ⟨A, c, rfl, hc, h⟩ := h
  refine ⟨A, c, rfl, hc, ?_⟩
  rcases h with h | ⟨b, off, rfl, h3, h4, h⟩
  · exact .inl h
  · exact .inr ⟨b, off, rfl, by omega, by omega, h⟩
theorem Outs.nil (w : World) (lo hi : Nat) : Outs w lo hi (.slice none 0 0) [] := ⟨none, 0, rfl, Nat.le_refl _, .inl rfl⟩
theorem Outs.at {w : World} {lo hi : Nat} {A : Option Addr} {n c : Nat} {xs : List OutD} (h : Outs w lo hi (.slice A n c) xs) {k : Nat} {x : OutD} (hx : xs[k]? = some x) :
    ∃ b off, A = some ⟨b, off, none⟩ ∧ lo ≤ b ∧ b < hi ∧ OutAt w b (off + k * 2) x := by
  obtain ⟨A', c', hv, hc, h⟩ := h
  injection hv with hA
  subst hA
  rcases h with rfl | ⟨b, off, rfl, h1, h2, h⟩
  · simp at hx
  · exact ⟨b, off, rfl, h1, h2, h k x hx⟩

/-- A transaction as a value. -/
def txV (t : TxD) (vi vo : Value) : Value := .agg #[.int .u32 t.ver, vi, vo, .int .u32 t.lock]

/-- Its lists lie in memory. -/
def TxAt (w : World) (lo hi : Nat) (vi vo : Value) (t : TxD) : Prop := Ins w lo hi vi t.ins ∧ Outs w lo hi vo t.outs

theorem TxAt.keep {w w' : World} {lo hi : Nat} {vi vo : Value} {t : TxD} (h : TxAt w lo hi vi vo t) (hk : Kept lo hi w w') : TxAt w' lo hi vi vo t := ⟨h.1.keep hk, h.2.keep hk⟩
theorem TxAt.wide {w : World} {lo hi lo' hi' : Nat} {vi vo : Value} {t : TxD} (h : TxAt w lo hi vi vo t) (h1 : lo' ≤ lo) (h2 : hi ≤ hi') : TxAt w lo' hi' vi vo t := ⟨h.1.wide h1 h2, h.2.wide h1 h2⟩

/-- What is asked of an input, an output, a transaction that the calls are held at: not too many parts, none too long. -/
def InD.Ok (x : InD) : Prop := x.id.size ≤ 64 ∧ 0 ≤ x.ix ∧ x.ix ≤ 4294967295 ∧ 0 ≤ x.sq ∧ x.sq ≤ 4294967295 ∧ x.wit.length ≤ 8 ∧ ∀ s ∈ x.wit, s.size ≤ 128
def OutD.Ok (x : OutD) : Prop := -9223372036854775808 ≤ x.val ∧ x.val ≤ 9223372036854775807 ∧ x.scr.size ≤ 64
def TxD.Ok (t : TxD) : Prop := t.ins.length ≤ 512 ∧ t.outs.length ≤ 512 ∧ (∀ x ∈ t.ins, x.Ok) ∧ (∀ x ∈ t.outs, x.Ok) ∧ 0 ≤ t.ver ∧ t.ver ≤ 4294967295 ∧ 0 ≤ t.lock ∧ t.lock ≤ 4294967295

end Go.Proofs.YtfobdefncbaooaaDoor

namespace Go.Proofs.YtfobdefncbaooaaDoor
open Go.RowKit

theorem ret_int {k : IntKind} {a b : Int} (h : a = b) : Ending.returned (.int k a) = .returned (.int k b) := by rw [h]
theorem ret_bool {a b : Bool} (h : a = b) : Ending.returned (.bool a) = .returned (.bool b) := by rw [h]
theorem ret_pair {k l : IntKind} {a b c d : Int} (h : a = b) (g : c = d) : Ending.returned (.tuple #[.int k a, .int l c]) = .returned (.tuple #[.int k b, .int l d]) := by rw [h, g]

/-- Are two points one? -/
def ptB (a : ByteArray) (i : Int) (b : ByteArray) (j : Int) : Bool := (a.toList == b.toList) && (i == j)

theorem run_eql_pt (w : World) (a : ByteArray) (i : Int) (b : ByteArray) (j : Int) :
    (binOp .eql 41 (.agg #[.string a, .int .u32 i]) (.agg #[.string b, .int .u32 j])).run Tryd.prog w = .ok (.bool (ptB a i b j)) w := by
  have u9 := Tryd.underlying9
  have u22 := Tryd.underlying22
  have a9 := Tryd.isAgg9
  have z9 := Tryd.sizeOf9
  have a22 := Tryd.isAgg22
  have z22 := Tryd.sizeOf22
  have hS : Tryd.prog.underlying 41 = some (.struct (Tryd.prog.fieldsOf 41)) := by kernel_rfl
  have hp : Tryd.prog.stoodInHeld 41 = false := by kernel_rfl
  rw [run_eql_struct, show (10000 : Nat) = 9999 + 1 from rfl, run_equalIn_agg w 9999 41 _ _ hS hp]
  simp only [Program.fieldsOf, Tryd.underlying41]
  go_simp
  unfold ptB
  by_cases h1 : a.toList = b.toList <;> by_cases h2 : i = j <;> simp [h1, h2]

theorem pt_guard (op : BinOp) (x y : Operand) (a : Array Value) (b : Array Value) (w : World) : (eqGuard op 41 x y (.agg a) (.agg b)).run Tryd.prog w = .ok () w := run_eqGuard_agg w op 41 x y a b (by kernel_rfl)

/-- Is a number from one to another? -/
def inR (n a b : Int) : Bool := decide (a ≤ n) && decide (n ≤ b)

set_option maxHeartbeats 400000 in
theorem within_any (n a b : Int) (w : World) :
    Calls Tryd.prog 77 #[.int .i64 n, .int .i64 a, .int .i64 b] w fun e w' => e = .returned (.bool (inR n a b)) ∧ w = w' := by
  by_cases h : a ≤ n
  · go_enter Tryd.func77, Tryd.ntmps77
    go_wp2
    go_ret
    exact ⟨ret_bool (by simp [inR, h]), rfl⟩
  · go_enter Tryd.func77, Tryd.ntmps77
    go_wp2
    go_ret
    exact ⟨ret_bool (by unfold inR; rw [decide_eq_false (by omega)]; rfl), rfl⟩

/-- Has a Witness too many texts? -/
def manyB (n : Nat) : Bool := decide (4 < n)

set_option maxHeartbeats 400000 in
theorem items_any (a : ByteArray) (i q : Int) (A : Option Addr) (n c : Nat) (w : World) :
    Calls Tryd.prog 78 #[.agg #[.string a, .int .u32 i, .int .u32 q, .slice A n c]] w fun e w' => e = .returned (.bool (manyB n)) ∧ Below w.heap.size w w' := by
  go_enter Tryd.func78, Tryd.ntmps78
  go_wp2
  go_ret
  exact ⟨ret_bool (by unfold manyB; simp; omega), (Below.refl _ _).alloc (Nat.le_refl _) _⟩

set_option maxHeartbeats 400000 in
theorem script_any (x : Int) (s : ByteArray) (w : World) :
    Calls Tryd.prog 79 #[.agg #[.int .i64 x, .string s]] w fun e w' => e = .returned (.bool (decide (40 < s.size))) ∧ Below w.heap.size w w' := by
  go_enter Tryd.func79, Tryd.ntmps79
  go_wp2
  go_ret
  exact ⟨ret_bool (by simp; omega), (Below.refl _ _).alloc (Nat.le_refl _) _⟩

set_option maxHeartbeats 400000 in
theorem item_any (s : ByteArray) (w : World) :
    Calls Tryd.prog 80 #[.string s] w fun e w' => e = .returned (.bool (decide (80 < s.size))) ∧ Below w.heap.size w w' := by
  go_enter Tryd.func80, Tryd.ntmps80
  go_wp2
  go_ret
  exact ⟨ret_bool (by simp; omega), Below.refl _ _⟩

/-- The base point's ID: 32 bytes 0. -/
def zeros : ByteArray := ⟨#[0, 0, 0, 0, 0, 0, 0, 0, 0, 0, 0, 0, 0, 0, 0, 0, 0, 0, 0, 0, 0, 0, 0, 0, 0, 0, 0, 0, 0, 0, 0, 0]⟩

set_option maxHeartbeats 400000 in
theorem base_point (w : World) :
    Calls Tryd.prog 45 #[] w fun e w' => e = .returned (.agg #[.string zeros, .int .u32 4294967295]) ∧ Below w.heap.size w w' := by
  go_enter Tryd.func45, Tryd.ntmps45
  go_wp2
  exact bodyPost_ret (v := .agg #[.string zeros, .int .u32 4294967295]) (by simp [results, Tryd.results45, go_sem, zeros]) rfl ⟨rfl, (Below.refl _ _).alloc (Nat.le_refl _) _⟩

/-- Is a point the base point? -/
def baseB (a : ByteArray) (i : Int) : Bool := ptB a i zeros 4294967295

/-- Is an input's point amiss? -/
def amissB (alone : Bool) (a : ByteArray) (i : Int) : Bool := a.size != 32 || (!alone && baseB a i)

set_option maxHeartbeats 400000 in
theorem amiss_any (a : ByteArray) (i q : Int) (A : Option Addr) (n c : Nat) (al : Bool) (g h : Nat) (w : World) (h0 : w.cell? ⟨g, 0, none⟩ = some (.bool al)) (h1 : w.cell? ⟨h, 0, none⟩ = some (.string zeros)) (h2 : w.cell? ⟨h, 1, none⟩ = some (.int .u32 4294967295)) :
    Calls Tryd.prog 84 #[.agg #[.string a, .int .u32 i, .int .u32 q, .slice A n c], .pointer (some ⟨g, 0, none⟩), .pointer (some ⟨h, 0, none⟩)] w fun e w' => e = .returned (.bool (amissB al a i)) ∧ Below w.heap.size w w' := by
  have hg := lt_of_cell h0
  have hh := lt_of_cell h1
  have heq := run_eql_pt
  have hgd := pt_guard
  have e1 : baseB a i = ptB a i zeros 4294967295 := rfl
  generalize zeros = z at h1 e1
  have E1 := Lib.hid e1
  clear e1
  by_cases hs : a.size = 32
  · have hs' : ((a.size : Int) != 32) = false := by rw [bne_eq_false_iff_eq]; omega
    have am : amissB al a i = (!al && baseB a i) := by unfold amissB; rw [show (a.size != 32) = false from by simp [hs]]; rfl
    have AM := Lib.hid am
    have HS := Lib.hid hs
    clear am hs
    cases al
    · go_enter Tryd.func84, Tryd.ntmps84
      go_wp2
      go_ret
      exact ⟨ret_bool (by rw [AM.out, E1.out]; rfl), (Below.refl _ _).alloc (Nat.le_refl _) _⟩
    · go_enter Tryd.func84, Tryd.ntmps84
      go_wp2
      go_ret
      exact ⟨ret_bool (by rw [AM.out]; rfl), (Below.refl _ _).alloc (Nat.le_refl _) _⟩
  · have hs' : ((a.size : Int) != 32) = true := by rw [bne_iff_ne]; omega
    have am : amissB al a i = true := by unfold amissB; rw [show (a.size != 32) = true from by simp [hs]]; rfl
    have AM := Lib.hid am
    have HS := Lib.hid hs
    clear am hs
    go_enter Tryd.func84, Tryd.ntmps84
    go_wp2
    go_ret
    exact ⟨ret_bool (by rw [AM.out]), (Below.refl _ _).alloc (Nat.le_refl _) _⟩

/-- The order of points. -/
def lessB (a : ByteArray) (i : Int) (b : ByteArray) (j : Int) : Bool := if a.toList == b.toList then decide (i < j) else Op.bytesLess a.toList b.toList

theorem less_same {a : ByteArray} {i : Int} {b : ByteArray} {j : Int} (h : (a.toList == b.toList) = true) : lessB a i b j = decide (i < j) := by simp [lessB, h]
theorem less_other {a : ByteArray} {i : Int} {b : ByteArray} {j : Int} (h : (a.toList == b.toList) = false) : lessB a i b j = Op.bytesLess a.toList b.toList := by simp [lessB, h]

end Go.Proofs.YtfobdefncbaooaaDoor
