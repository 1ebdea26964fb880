/-
  Transactions as plain data, and how they lie in memory: texts, inputs, outputs, each in a block of a given range.
  Layer 5's smallest calls: bounds, points and their order, closures that look at one part.
  Sums of amounts: the program's and the document's (layer 1's contracts, at this seat's numbers).
  slices.Clone at outputs, inputs and texts: the same cells, in memory of the call's own.
-/
import Derived.Test.YtnmfjnfdnjjngaaGreatDoorRows
import Derived.WalkKit
import Derived.Deep.Draws
import Derived.WalkSpells
import Derived.WalkLawsBesides
import Derived.Deep.QuietTactic
import Derived.BigQuiet
import Derived.Lib.Hide
import Derived.Laws.StructEq
import Derived.Shelf.SlicesE.Kit
import Derived.OwnWalk
import Derived.Lib.SliceRun

namespace Go.Proofs.YtnmfjnfdnjjngaaGreatDoor
open Go.RowKit
set_option maxRecDepth 100000

/-- An input: its point, its Sequence, its Witness. -/
structure InD where
  id : ByteArray
  ix : Int
  sq : Int
  wit : List ByteArray

/-- An output. -/
structure OutD where
  val : Int
  scr : ByteArray

/-- A transaction. -/
structure TxD where
  ver : Int
  ins : List InD
  outs : List OutD
  lock : Int

/-- The blocks from lo on, ahead of hi, are in w' as they were in w. -/
def Kept (lo hi : Nat) (w w' : World) : Prop := ∀ b, lo ≤ b → b < hi → w'.heap[b]? = w.heap[b]?

theorem Kept.refl (lo hi : Nat) (w : World) : Kept lo hi w w := fun _ _ _ => rfl
theorem Kept.trans {lo hi : Nat} {a b c : World} (h : Kept lo hi a b) (k : Kept lo hi b c) : Kept lo hi a c := fun i h1 h2 => (k i h1 h2).trans (h i h1 h2)
theorem Kept.of_below {lo hi B : Nat} {w w' : World} (h : Below B w w') (hB : hi ≤ B) : Kept lo hi w w' := fun b _ hb => h.block b (by omega)
theorem Kept.cell {lo hi : Nat} {w w' : World} (h : Kept lo hi w w') {b o : Nat} (h1 : lo ≤ b) (h2 : b < hi) : w'.cell? ⟨b, o, none⟩ = w.cell? ⟨b, o, none⟩ := World.cell?_of_block (w := w) (h b h1 h2)
theorem Kept.alloc {lo hi : Nat} {w : World} (hi' : hi ≤ w.heap.size) (o : Obj) : Kept lo hi w (w.alloc o) := fun b _ hb => Below.heap_alloc _ _ _ (by omega)
theorem Kept.setCell {lo hi : Nat} {w : World} {p : Addr} (hp : p.block < lo ∨ hi ≤ p.block) (u : Value) : Kept lo hi w (w.setCell p u) := fun b h1 h2 => Below.heap_setCell _ _ _ _ (by omega)
theorem Kept.mono {lo hi lo' hi' : Nat} {w w' : World} (h : Kept lo hi w w') (h1 : lo ≤ lo') (h2 : hi' ≤ hi) : Kept lo' hi' w w' := fun b a c => h b (by omega) (by omega)

theorem below_drewN {B : Nat} {a w : World} (h : Below B a w) (n : Nat) : Below B a (w.drewN n) := ⟨h.os, h.tape, h.output, h.size, h.block⟩
/-- A step from a world to the next, each as below its own size. -/
theorem below_next {B : Nat} {a w w' : World} (h : Below B a w) (hB : B ≤ w.heap.size) (k : Below w.heap.size w w') : Below B a w' := h.trans (k.mono hB)
theorem lt_of_cell {w : World} {b o : Nat} {v : Value} (h : w.cell? ⟨b, o, none⟩ = some v) : b < w.heap.size := by
  rcases Nat.lt_or_ge b w.heap.size with hlt | hge
  · exact hlt
  · simp [World.cell?, Array.getElem?_eq_none hge] at h

/-- The texts ss lie in the slice v. -/
def Strs (w : World) (lo hi : Nat) (v : Value) (ss : List ByteArray) : Prop :=
  ∃ (A : Option Addr) (c : Nat), v = .slice A ss.length c ∧ ss.length ≤ c ∧ (ss = [] ∨ ∃ b off, A = some ⟨b, off, none⟩ ∧ lo ≤ b ∧ b < hi ∧ ∀ k s, ss[k]? = some s → w.cell? ⟨b, off + k, none⟩ = some (.string s))

theorem Strs.keep {w w' : World} {lo hi : Nat} {v : Value} {ss : List ByteArray} (h : Strs w lo hi v ss) (hk : Kept lo hi w w') : Strs w' lo hi v ss := by
  obtain ⟨A, c, rfl, hc, h⟩ := h
  refine ⟨A, c, rfl, hc, ?_⟩
  rcases h with h | ⟨b, off, rfl, h1, h2, h⟩
  · exact .inl h
  · exact .inr ⟨b, off, rfl, h1, h2, fun k s hs => (hk.cell h1 h2).trans (h k s hs)⟩
theorem Strs.wide {w : World} {lo hi lo' hi' : Nat} {v : Value} {ss : List ByteArray} (h : Strs w lo hi v ss) (h1 : lo' ≤ lo) (h2 : hi ≤ hi') : Strs w lo' hi' v ss := by
  obtain ⟨A, c, rfl, hc, h⟩ := h
  refine ⟨A, c, rfl, hc, ?_⟩
  rcases h with h | ⟨b, off, rfl, h3, h4, h⟩
  · exact .inl h
  · exact .inr ⟨b, off, rfl, by omega, by omega, h⟩
theorem Strs.nil (w : World) (lo hi : Nat) : Strs w lo hi (.slice none 0 0) [] := ⟨none, 0, rfl, Nat.le_refl _, .inl rfl⟩
theorem Strs.at {w : World} {lo hi : Nat} {A : Option Addr} {n c : Nat} {ss : List ByteArray} (h : Strs w lo hi (.slice A n c) ss) {k : Nat} (hk : k < ss.length) :
    ∃ b off, A = some ⟨b, off, none⟩ ∧ lo ≤ b ∧ b < hi ∧ w.cell? ⟨b, off + k, none⟩ = some (.string (ss.getD k ByteArray.empty)) := by
  obtain ⟨A', c', hv, hc, h⟩ := h
  injection hv with hA
  subst hA
  rcases h with rfl | ⟨b, off, rfl, h1, h2, h⟩
  · simp at hk
  · exact ⟨b, off, rfl, h1, h2, h k _ (by simp [List.getD_eq_getElem?_getD, hk])⟩

/-- The four cells of an input, from offset o of block b on. -/
def InAt (w : World) (lo hi b o : Nat) (x : InD) : Prop :=
  w.cell? ⟨b, o, none⟩ = some (.string x.id) ∧ w.cell? ⟨b, o + 1, none⟩ = some (.int .u32 x.ix) ∧ w.cell? ⟨b, o + 2, none⟩ = some (.int .u32 x.sq) ∧
    ∃ v, w.cell? ⟨b, o + 3, none⟩ = some v ∧ Strs w lo hi v x.wit

theorem InAt.keep {w w' : World} {lo hi b o : Nat} {x : InD} (h : InAt w lo hi b o x) (h1 : lo ≤ b) (h2 : b < hi) (hk : Kept lo hi w w') : InAt w' lo hi b o x := by
  obtain ⟨c0, c1, c2, v, c3, hs⟩ := h
  exact ⟨(hk.cell h1 h2).trans c0, (hk.cell h1 h2).trans c1, (hk.cell h1 h2).trans c2, v, (hk.cell h1 h2).trans c3, hs.keep hk⟩
theorem InAt.wide {w : World} {lo hi lo' hi' b o : Nat} {x : InD} (h : InAt w lo hi b o x) (h1 : lo' ≤ lo) (h2 : hi ≤ hi') : InAt w lo' hi' b o x := by
  obtain ⟨c0, c1, c2, v, c3, hs⟩ := h
  exact ⟨c0, c1, c2, v, c3, hs.wide h1 h2⟩

/-- The inputs xs lie in the slice v. -/
def Ins (w : World) (lo hi : Nat) (v : Value) (xs : List InD) : Prop :=
  ∃ (A : Option Addr) (c : Nat), v = .slice A xs.length c ∧ xs.length ≤ c ∧ (xs = [] ∨ ∃ b off, A = some ⟨b, off, none⟩ ∧ lo ≤ b ∧ b < hi ∧ ∀ k x, xs[k]? = some x → InAt w lo hi b (off + k * 4) x)

theorem Ins.keep {w w' : World} {lo hi : Nat} {v : Value} {xs : List InD} (h : Ins w lo hi v xs) (hk : Kept lo hi w w') : Ins w' lo hi v xs := by
  obtain ⟨A, c, rfl, hc, h⟩ := h
  refine ⟨A, c, rfl, hc, ?_⟩
  rcases h with h | ⟨b, off, rfl, h1, h2, h⟩
  · exact .inl h
  · exact .inr ⟨b, off, rfl, h1, h2, fun k s hs => (h k s hs).keep h1 h2 hk⟩
theorem Ins.wide {w : World} {lo hi lo' hi' : Nat} {v : Value} {xs : List InD} (h : Ins w lo hi v xs) (h1 : lo' ≤ lo) (h2 : hi ≤ hi') : Ins w lo' hi' v xs := by
  obtain ⟨A, c, rfl, hc, h⟩ := h
  refine ⟨A, c, rfl, hc, ?_⟩
  rcases h with h | ⟨b, off, rfl, h3, h4, h⟩
  · exact .inl h
  · exact .inr ⟨b, off, rfl, by omega, by omega, fun k s hs => (h k s hs).wide h1 h2⟩
theorem Ins.nil (w : World) (lo hi : Nat) : Ins w lo hi (.slice none 0 0) [] := ⟨none, 0, rfl, Nat.le_refl _, .inl rfl⟩
theorem Ins.at {w : World} {lo hi : Nat} {A : Option Addr} {n c : Nat} {xs : List InD} (h : Ins w lo hi (.slice A n c) xs) {k : Nat} {x : InD} (hx : xs[k]? = some x) :
    ∃ b off, A = some ⟨b, off, none⟩ ∧ lo ≤ b ∧ b < hi ∧ InAt w lo hi b (off + k * 4) x := by
  obtain ⟨A', c', hv, hc, h⟩ := h
  injection hv with hA
  subst hA
  rcases h with rfl | ⟨b, off, rfl, h1, h2, h⟩
  · simp at hx
  · exact ⟨b, off, rfl, h1, h2, h k x hx⟩

/-- The two cells of an output. -/
def OutAt (w : World) (b o : Nat) (x : OutD) : Prop := w.cell? ⟨b, o, none⟩ = some (.int .i64 x.val) ∧ w.cell? ⟨b, o + 1, none⟩ = some (.string x.scr)

/-- The outputs xs lie in the slice v. -/
def Outs (w : World) (lo hi : Nat) (v : Value) (xs : List OutD) : Prop :=
  ∃ (A : Option Addr) (c : Nat), v = .slice A xs.length c ∧ xs.length ≤ c ∧ (xs = [] ∨ ∃ b off, A = some ⟨b, off, none⟩ ∧ lo ≤ b ∧ b < hi ∧ ∀ k x, xs[k]? = some x → OutAt w b (off + k * 2) x)

theorem Outs.keep {w w' : World} {lo hi : Nat} {v : Value} {xs : List OutD} (h : Outs w lo hi v xs) (hk : Kept lo hi w w') : Outs w' lo hi v xs := by
  obtain ⟨A, c, rfl, hc, h⟩ := h
  refine ⟨A, c, rfl, hc, ?_⟩
  rcases h with h | ⟨b, off, rfl, h1, h2, h⟩
  · exact .inl h
  · exact .inr ⟨b, off, rfl, h1, h2, fun k s hs => ⟨(hk.cell h1 h2).trans (h k s hs).1, (hk.cell h1 h2).trans (h k s hs).2⟩⟩
theorem Outs.wide {w : World} {lo hi lo' hi' : Nat} {v : Value} {xs : List OutD} (h : Outs w lo hi v xs) (h1 : lo' ≤ lo) (h2 : hi ≤ hi') : Outs w lo' hi' v xs := by
  obtain ⟨A, c, rfl, hc, h⟩ := h
  refine ⟨A, c, rfl, hc, ?_⟩
  rcases h with h | ⟨b, off, rfl, h3, h4, h⟩
  · exact .inl h
  · exact .inr ⟨b, off, rfl, by omega, by omega, h⟩
theorem Outs.nil (w : World) (lo hi : Nat) : Outs w lo hi (.slice none 0 0) [] := ⟨none, 0, rfl, Nat.le_refl _, .inl rfl⟩
theorem Outs.at {w : World} {lo hi : Nat} {A : Option Addr} {n c : Nat} {xs : List OutD} (h : Outs w lo hi (.slice A n c) xs) {k : Nat} {x : OutD} (hx : xs[k]? = some x) :
    ∃ b off, A = some ⟨b, off, none⟩ ∧ lo ≤ b ∧ b < hi ∧ OutAt w b (off + k * 2) x := by
  obtain ⟨A', c', hv, hc, h⟩ := h
  injection hv with hA
  subst hA
  rcases h with rfl | ⟨b, off, rfl, h1, h2, h⟩
  · simp at hx
  · exact ⟨b, off, rfl, h1, h2, h k x hx⟩

/-- A transaction as a value. -/
def txV (t : TxD) (vi vo : Value) : Value := .agg #[.int .u32 t.ver, vi, vo, .int .u32 t.lock]

/-- Its lists lie in memory. -/
def TxAt (w : World) (lo hi : Nat) (vi vo : Value) (t : TxD) : Prop := Ins w lo hi vi t.ins ∧ Outs w lo hi vo t.outs

theorem TxAt.keep {w w' : World} {lo hi : Nat} {vi vo : Value} {t : TxD} (h : TxAt w lo hi vi vo t) (hk : Kept lo hi w w') : TxAt w' lo hi vi vo t := ⟨h.1.keep hk, h.2.keep hk⟩
theorem TxAt.wide {w : World} {lo hi lo' hi' : Nat} {vi vo : Value} {t : TxD} (h : TxAt w lo hi vi vo t) (h1 : lo' ≤ lo) (h2 : hi ≤ hi') : TxAt w lo' hi' vi vo t := ⟨h.1.wide h1 h2, h.2.wide h1 h2⟩

/-- What is asked of an input, an output, a transaction that the calls are held at: not too many parts, none too long. -/
def InD.Ok (x : InD) : Prop := x.id.size ≤ 64 ∧ 0 ≤ x.ix ∧ x.ix ≤ 4294967295 ∧ 0 ≤ x.sq ∧ x.sq ≤ 4294967295 ∧ x.wit.length ≤ 8 ∧ ∀ s ∈ x.wit, s.size ≤ 128
def OutD.Ok (x : OutD) : Prop := -9223372036854775808 ≤ x.val ∧ x.val ≤ 9223372036854775807 ∧ x.scr.size ≤ 64
def TxD.Ok (t : TxD) : Prop := t.ins.length ≤ 512 ∧ t.outs.length ≤ 512 ∧ (∀ x ∈ t.ins, x.Ok) ∧ (∀ x ∈ t.outs, x.Ok) ∧ 0 ≤ t.ver ∧ t.ver ≤ 4294967295 ∧ 0 ≤ t.lock ∧ t.lock ≤ 4294967295

end Go.Proofs.YtnmfjnfdnjjngaaGreatDoor

namespace Go.Proofs.YtnmfjnfdnjjngaaGreatDoor
open Go.RowKit
set_option maxRecDepth 100000

theorem ret_int {k : IntKind} {a b : Int} (h : a = b) : Ending.returned (.int k a) = .returned (.int k b) := by rw [h]
theorem ret_bool {a b : Bool} (h : a = b) : Ending.returned (.bool a) = .returned (.bool b) := by rw [h]
theorem ret_pair {k l : IntKind} {a b c d : Int} (h : a = b) (g : c = d) : Ending.returned (.tuple #[.int k a, .int l c]) = .returned (.tuple #[.int k b, .int l d]) := by rw [h, g]

/-- Are two points one? -/
def ptB (a : ByteArray) (i : Int) (b : ByteArray) (j : Int) : Bool := (a.toList == b.toList) && (i == j)

theorem run_eql_pt (w : World) (a : ByteArray) (i : Int) (b : ByteArray) (j : Int) :
    (binOp .eql 60 (.agg #[.string a, .int .u32 i]) (.agg #[.string b, .int .u32 j])).run Tryz.prog w = .ok (.bool (ptB a i b j)) w := by
  have u9 := Tryz.underlying9
  have u22 := Tryz.underlying47
  have a9 := Tryz.isAgg9
  have z9 := Tryz.sizeOf9
  have a22 := Tryz.isAgg47
  have z22 := Tryz.sizeOf47
  have hS : Tryz.prog.underlying 60 = some (.struct (Tryz.prog.fieldsOf 60)) := by kernel_rfl
  have hp : Tryz.prog.stoodInHeld 60 = false := by kernel_rfl
  rw [run_eql_struct, show (10000 : Nat) = 9999 + 1 from rfl, run_equalIn_agg w 9999 60 _ _ hS hp]
  simp only [Program.fieldsOf, Tryz.underlying60]
  go_simp
  unfold ptB
  by_cases h1 : a.toList = b.toList <;> by_cases h2 : i = j <;> simp [h1, h2]

theorem pt_guard (op : BinOp) (x y : Operand) (a : Array Value) (b : Array Value) (w : World) : (eqGuard op 60 x y (.agg a) (.agg b)).run Tryz.prog w = .ok () w := run_eqGuard_agg w op 60 x y a b (by kernel_rfl)

/-- Is a number from one to another? -/
def inR (n a b : Int) : Bool := decide (a ≤ n) && decide (n ≤ b)

set_option maxHeartbeats 400000 in
theorem within_any (n a b : Int) (w : World) :
    Calls Tryz.prog 123 #[.int .i64 n, .int .i64 a, .int .i64 b] w fun e w' => e = .returned (.bool (inR n a b)) ∧ w = w' := by
  by_cases h : a ≤ n
  · go_enter Tryz.func123, Tryz.ntmps123
    go_wp2
    go_ret
    exact ⟨ret_bool (by simp [inR, h]), rfl⟩
  · go_enter Tryz.func123, Tryz.ntmps123
    go_wp2
    go_ret
    exact ⟨ret_bool (by unfold inR; rw [decide_eq_false (by omega)]; rfl), rfl⟩

/-- Has a Witness too many texts? -/
def manyB (n : Nat) : Bool := decide (4 < n)

set_option maxHeartbeats 400000 in
theorem items_any (a : ByteArray) (i q : Int) (A : Option Addr) (n c : Nat) (w : World) :
    Calls Tryz.prog 125 #[.agg #[.string a, .int .u32 i, .int .u32 q, .slice A n c]] w fun e w' => e = .returned (.bool (manyB n)) ∧ Below w.heap.size w w' := by
  go_enter Tryz.func125, Tryz.ntmps125
  go_wp2
  go_ret
  exact ⟨ret_bool (by unfold manyB; simp; omega), (Below.refl _ _).alloc (Nat.le_refl _) _⟩

set_option maxHeartbeats 400000 in
theorem script_any (x : Int) (s : ByteArray) (w : World) :
    Calls Tryz.prog 126 #[.agg #[.int .i64 x, .string s]] w fun e w' => e = .returned (.bool (decide (40 < s.size))) ∧ Below w.heap.size w w' := by
  go_enter Tryz.func126, Tryz.ntmps126
  go_wp2
  go_ret
  exact ⟨ret_bool (by simp; omega), (Below.refl _ _).alloc (Nat.le_refl _) _⟩

set_option maxHeartbeats 400000 in
theorem item_any (s : ByteArray) (w : World) :
    Calls Tryz.prog 127 #[.string s] w fun e w' => e = .returned (.bool (decide (80 < s.size))) ∧ Below w.heap.size w w' := by
  go_enter Tryz.func127, Tryz.ntmps127
  go_wp2
  go_ret
  exact ⟨ret_bool (by simp; omega), Below.refl _ _⟩

/-- The base point's ID: 32 bytes 0. -/
def zeros : ByteArray := ⟨#[0, 0, 0, 0, 0, 0, 0, 0, 0, 0, 0, 0, 0, 0, 0, 0, 0, 0, 0, 0, 0, 0, 0, 0, 0, 0, 0, 0, 0, 0, 0, 0]⟩

set_option maxHeartbeats 400000 in
theorem base_point (w : World) :
    Calls Tryz.prog 49 #[] w fun e w' => e = .returned (.agg #[.string zeros, .int .u32 4294967295]) ∧ Below w.heap.size w w' := by
  go_enter Tryz.func49, Tryz.ntmps49
  go_wp2
  exact bodyPost_ret (v := .agg #[.string zeros, .int .u32 4294967295]) (by simp [results, Tryz.results49, go_sem, zeros]) rfl ⟨rfl, (Below.refl _ _).alloc (Nat.le_refl _) _⟩

/-- Is a point the base point? -/
def baseB (a : ByteArray) (i : Int) : Bool := ptB a i zeros 4294967295

/-- Is an input's point amiss? -/
def amissB (alone : Bool) (a : ByteArray) (i : Int) : Bool := a.size != 32 || (!alone && baseB a i)

set_option maxHeartbeats 400000 in
theorem amiss_any (a : ByteArray) (i q : Int) (A : Option Addr) (n c : Nat) (al : Bool) (g h : Nat) (w : World) (h0 : w.cell? ⟨g, 0, none⟩ = some (.bool al)) (h1 : w.cell? ⟨h, 0, none⟩ = some (.string zeros)) (h2 : w.cell? ⟨h, 1, none⟩ = some (.int .u32 4294967295)) :
    Calls Tryz.prog 131 #[.agg #[.string a, .int .u32 i, .int .u32 q, .slice A n c], .pointer (some ⟨g, 0, none⟩), .pointer (some ⟨h, 0, none⟩)] w fun e w' => e = .returned (.bool (amissB al a i)) ∧ Below w.heap.size w w' := by
  have hg := lt_of_cell h0
  have hh := lt_of_cell h1
  have heq := run_eql_pt
  have hgd := pt_guard
  have e1 : baseB a i = ptB a i zeros 4294967295 := rfl
  generalize zeros = z at h1 e1
  have E1 := Lib.hid e1
  clear e1
  by_cases hs : a.size = 32
  · have hs' : ((a.size : Int) != 32) = false := by rw [bne_eq_false_iff_eq]; omega
    have am : amissB al a i = (!al && baseB a i) := by unfold amissB; rw [show (a.size != 32) = false from by simp [hs]]; rfl
    have AM := Lib.hid am
    have HS := Lib.hid hs
    clear am hs
    cases al
    · go_enter Tryz.func131, Tryz.ntmps131
      go_wp2
      go_ret
      exact ⟨ret_bool (by rw [AM.out, E1.out]; rfl), (Below.refl _ _).alloc (Nat.le_refl _) _⟩
    · go_enter Tryz.func131, Tryz.ntmps131
      go_wp2
      go_ret
      exact ⟨ret_bool (by rw [AM.out]; rfl), (Below.refl _ _).alloc (Nat.le_refl _) _⟩
  · have hs' : ((a.size : Int) != 32) = true := by rw [bne_iff_ne]; omega
    have am : amissB al a i = true := by unfold amissB; rw [show (a.size != 32) = true from by simp [hs]]; rfl
    have AM := Lib.hid am
    have HS := Lib.hid hs
    clear am hs
    go_enter Tryz.func131, Tryz.ntmps131
    go_wp2
    go_ret
    exact ⟨ret_bool (by rw [AM.out]), (Below.refl _ _).alloc (Nat.le_refl _) _⟩

/-- The order of points. -/
def lessB (a : ByteArray) (i : Int) (b : ByteArray) (j : Int) : Bool := if a.toList == b.toList then decide (i < j) else Op.bytesLess a.toList b.toList

theorem less_same {a : ByteArray} {i : Int} {b : ByteArray} {j : Int} (h : (a.toList == b.toList) = true) : lessB a i b j = decide (i < j) := by simp [lessB, h]
theorem less_other {a : ByteArray} {i : Int} {b : ByteArray} {j : Int} (h : (a.toList == b.toList) = false) : lessB a i b j = Op.bytesLess a.toList b.toList := by simp [lessB, h]

set_option maxHeartbeats 400000 in
theorem less_any (a : ByteArray) (i : Int) (b : ByteArray) (j : Int) (w : World) :
    Calls Tryz.prog 72 #[.agg #[.string a, .int .u32 i], .agg #[.string b, .int .u32 j]] w fun e w' => e = .returned (.bool (lessB a i b j)) ∧ Below w.heap.size w w' := by
  cases h : a.toList == b.toList
  · have H := Lib.hid (less_other (i := i) (j := j) h)
    go_enter Tryz.func72, Tryz.ntmps72
    go_wp2
    go_ret
    exact ⟨ret_bool (by rw [H.out]), ((Below.refl _ _).alloc (Nat.le_refl _) _).alloc (by simp) _⟩
  · have H := Lib.hid (less_same (i := i) (j := j) h)
    go_enter Tryz.func72, Tryz.ntmps72
    go_wp2
    go_ret
    exact ⟨ret_bool (by rw [H.out]), ((Below.refl _ _).alloc (Nat.le_refl _) _).alloc (by simp) _⟩

set_option maxHeartbeats 400000 in
theorem rless_any (a : ByteArray) (i : Int) (b : ByteArray) (j : Int) (w : World) :
    Calls Tryz.prog 83 #[.agg #[.string a, .int .u32 i], .agg #[.string b, .int .u32 j]] w fun e w' => e = .returned (.bool (lessB a i b j)) ∧ Below w.heap.size w w' := by
  cases h : a.toList == b.toList
  · have H := Lib.hid (less_other (i := i) (j := j) h)
    go_enter Tryz.func83, Tryz.ntmps83
    go_wp2
    go_ret
    exact ⟨ret_bool (by rw [H.out]), ((Below.refl _ _).alloc (Nat.le_refl _) _).alloc (by simp) _⟩
  · have H := Lib.hid (less_same (i := i) (j := j) h)
    go_enter Tryz.func83, Tryz.ntmps83
    go_wp2
    go_ret
    exact ⟨ret_bool (by rw [H.out]), ((Below.refl _ _).alloc (Nat.le_refl _) _).alloc (by simp) _⟩

end Go.Proofs.YtnmfjnfdnjjngaaGreatDoor

namespace Go.Proofs.YtnmfjnfdnjjngaaGreatDoor
open Go.RowKit
set_option maxRecDepth 100000

/-- Is a number from 0 to the most? -/
def uptoB (n m : Int) : Bool := decide (0 ≤ n) && decide (n ≤ m)

theorem uptoB_iff (n m : Int) : uptoB n m = true ↔ 0 ≤ n ∧ n ≤ m := by
  unfold uptoB; simp

theorem uptoB_true {n m : Int} (h1 : 0 ≤ n) (h2 : n ≤ m) : uptoB n m = true := (uptoB_iff n m).2 ⟨h1, h2⟩

theorem uptoB_false {n m : Int} (h : ¬ (0 ≤ n ∧ n ≤ m)) : uptoB n m = false := by
  cases hb : uptoB n m
  · rfl
  · exact absurd ((uptoB_iff n m).1 hb) h

/-- An amount. -/
def goodB (a : Int) : Bool := uptoB a 2100000000000000
theorem goodB_iff (a : Int) : goodB a = true ↔ 0 ≤ a ∧ a ≤ 2100000000000000 := uptoB_iff _ _
theorem goodB_true {a : Int} (h1 : 0 ≤ a) (h2 : a ≤ 2100000000000000) : goodB a = true := uptoB_true h1 h2
theorem goodB_false {a : Int} (h : ¬ (0 ≤ a ∧ a ≤ 2100000000000000)) : goodB a = false := uptoB_false h

def addOk (a b : Int) : Bool := goodB a && goodB b && goodB (a + b)
def addV (a b : Int) : Int := if addOk a b = true then a + b else 0
def addE (a b : Int) : Int := if addOk a b = true then 0 else 3

set_option maxHeartbeats 400000 in
theorem awithin_any (n m : Int) (w : World) :
    Calls Tryz.prog 100 #[.int .i64 n, .int .i64 m] w fun e w' => e = .returned (.bool (uptoB n m)) ∧ w = w' := by
  by_cases h : 0 ≤ n
  · go_enter Tryz.func100, Tryz.ntmps100
    go_wp2
    go_ret
    exact ⟨ret_bool (by simp [uptoB, h]), rfl⟩
  · go_enter Tryz.func100, Tryz.ntmps100
    go_wp2
    go_ret
    exact ⟨ret_bool (uptoB_false (by omega)).symm, rfl⟩

set_option maxHeartbeats 400000 in
theorem good_any (n : Int) (w : World) :
    Calls Tryz.prog 73 #[.int .i64 n] w fun e w' => e = .returned (.bool (goodB n)) ∧ w = w' := by
  go_enter Tryz.func73, Tryz.ntmps73
  go_wp2_with (go_at_call 100; refine (awithin_any _ _ _).mono ?_; rintro e w' ⟨rfl, rfl⟩)
  go_ret
  exact ⟨rfl, rfl⟩

set_option maxHeartbeats 400000 in
theorem add_any (a b : Int) (w : World) :
    Calls Tryz.prog 48 #[.int .i64 a, .int .i64 b] w fun e w' => e = .returned (.tuple #[.int .i64 (addV a b), .int .i64 (addE a b)]) ∧ w = w' := by
  cases h1 : goodB a
  · go_enter Tryz.func48, Tryz.ntmps48
    go_wp2_with (go_at_call 73; refine (good_any _ _).mono ?_; rintro e w' ⟨rfl, rfl⟩)
    go_ret2
    exact ⟨ret_pair (by simp [addV, addOk, h1]) (by simp [addE, addOk, h1]), rfl⟩
  · cases h2 : goodB b
    · go_enter Tryz.func48, Tryz.ntmps48
      go_wp2_with (go_at_call 73; refine (good_any _ _).mono ?_; rintro e w' ⟨rfl, rfl⟩)
      go_ret2
      exact ⟨ret_pair (by simp [addV, addOk, h2]) (by simp [addE, addOk, h2]), rfl⟩
    · have b1 := (goodB_iff a).1 h1
      have b2 := (goodB_iff b).1 h2
      cases h3 : goodB (a + b)
      · go_enter Tryz.func48, Tryz.ntmps48
        go_wp2_with (go_at_call 73; refine (good_any _ _).mono ?_; rintro e w' ⟨rfl, rfl⟩)
        go_ret2
        exact ⟨ret_pair (by simp [addV, addOk, h3]) (by simp [addE, addOk, h3]), rfl⟩
      · go_enter Tryz.func48, Tryz.ntmps48
        go_wp2_with (go_at_call 73; refine (good_any _ _).mono ?_; rintro e w' ⟨rfl, rfl⟩)
        go_ret2
        exact ⟨ret_pair (by simp [addV, addOk, h1, h2, h3]) (by simp [addE, addOk, h1, h2, h3]), rfl⟩

set_option maxHeartbeats 400000 in
theorem rgood_any (n : Int) (w : World) :
    Calls Tryz.prog 81 #[.int .i64 n] w fun e w' => e = .returned (.bool (goodB n)) ∧ w = w' := by
  by_cases h : 0 ≤ n
  · go_enter Tryz.func81, Tryz.ntmps81
    go_wp2
    go_ret
    exact ⟨ret_bool (by simp [goodB, uptoB, h]), rfl⟩
  · go_enter Tryz.func81, Tryz.ntmps81
    go_wp2
    go_ret
    exact ⟨ret_bool (goodB_false (by omega)).symm, rfl⟩

/-- The numbers zs stand at the address A, all of them below block B. -/
def Ints (w : World) (B : Nat) (A : Option Addr) (zs : List Int) : Prop :=
  zs = [] ∨ ∃ b off : Nat, A = some ⟨b, off, none⟩ ∧ b < B ∧ ∀ k : Nat, k < zs.length → w.cell? ⟨b, off + k, none⟩ = some (.int .i64 (zs.getD k 0))

theorem Ints.at {w : World} {B : Nat} {A : Option Addr} {zs : List Int} (h : Ints w B A zs) {k : Nat} (hk : k < zs.length) :
    ∃ b off : Nat, A = some ⟨b, off, none⟩ ∧ b < B ∧ w.cell? ⟨b, off + k, none⟩ = some (.int .i64 (zs.getD k 0)) := by
  rcases h with rfl | ⟨b, off, e, hb, hc⟩
  · simp at hk
  · exact ⟨b, off, e, hb, hc k hk⟩

theorem Ints.keep {w w' : World} {B : Nat} {A : Option Addr} {zs : List Int} (h : Ints w B A zs) (hk : ∀ b o : Nat, b < B → w'.cell? ⟨b, o, none⟩ = w.cell? ⟨b, o, none⟩) : Ints w' B A zs := by
  rcases h with rfl | ⟨b, off, e, hb, hc⟩
  · exact .inl rfl
  · exact .inr ⟨b, off, e, hb, fun k h => (hk _ _ hb).trans (hc k h)⟩

theorem Ints.below {w w' : World} {B : Nat} {A : Option Addr} {zs : List Int} (h : Ints w B A zs) (hb : Below B w w') : Ints w' B A zs := h.keep fun _ _ hp => hb.cell hp
theorem Ints.more {w : World} {B B' : Nat} {A : Option Addr} {zs : List Int} (h : Ints w B A zs) (hB : B ≤ B') : Ints w B' A zs := by
  rcases h with rfl | ⟨b, off, e, hb, hc⟩
  · exact .inl rfl
  · exact .inr ⟨b, off, e, by omega, hc⟩
theorem Ints.alloc {w : World} {B : Nat} {A : Option Addr} {zs : List Int} (h : Ints w B A zs) (hB : B ≤ w.heap.size) (o : Obj) : Ints (w.alloc o) B A zs :=
  h.keep fun b i hb => World.cell?_alloc_lt w o ⟨b, i, none⟩ (by show b < w.heap.size; omega)
theorem Ints.drewN {w : World} {B : Nat} {A : Option Addr} {zs : List Int} (h : Ints w B A zs) (n : Nat) : Ints (w.drewN n) B A zs := h
theorem Ints.take {w : World} {B : Nat} {A : Option Addr} {zs : List Int} (h : Ints w B A zs) (n : Nat) : Ints w B A (zs.take n) := by
  rcases h with rfl | ⟨b, off, e, hb, hc⟩
  · exact .inl (by simp)
  · refine .inr ⟨b, off, e, hb, fun k hk => ?_⟩
    have h1 : k < zs.length := by simp at hk; omega
    have h2 : k < n := by simp at hk; omega
    rw [hc k h1]
    simp [List.getD_eq_getElem?_getD, h2]

/-- The sum of amounts, from s on, and the error beside it. -/
def sumFrom (s : Int) : List Int → Int × Int
  | [] => (s, 0)
  | a :: r => if addOk s a = true then sumFrom (s + a) r else (0, 3)

theorem sumFrom_step (s : Int) (zs : List Int) (k : Nat) (hk : k < zs.length) :
    sumFrom s (zs.drop k) = if addOk s (zs.getD k 0) = true then sumFrom (s + zs.getD k 0) (zs.drop (k + 1)) else (0, 3) := by
  rw [List.drop_eq_getElem_cons hk]
  simp [sumFrom, List.getD_eq_getElem?_getD, hk]

theorem sumFrom_end (s : Int) (zs : List Int) (k : Nat) (hk : zs.length ≤ k) : sumFrom s (zs.drop k) = (s, 0) := by
  rw [List.drop_eq_nil_of_le hk]; rfl

/-- Where a sum stands behind k numbers. -/
def SumAt (zs : List Int) (k : Nat) (s : Int) : Prop := goodB s = true ∧ sumFrom 0 zs = sumFrom s (zs.drop k)

theorem SumAt.zero (zs : List Int) : SumAt zs 0 0 := ⟨by decide, by simp⟩
theorem SumAt.good {zs : List Int} {k : Nat} {s : Int} (h : SumAt zs k s) : goodB s = true := h.1
theorem SumAt.yes {zs : List Int} {k : Nat} {s : Int} (h : SumAt zs k s) (hk : k < zs.length) (ha : addOk s (zs.getD k 0) = true) : SumAt zs (k + 1) (s + zs.getD k 0) := by
  refine ⟨?_, by rw [h.2, sumFrom_step s zs k hk, if_pos ha]⟩
  unfold addOk at ha
  simp only [Bool.and_eq_true] at ha
  exact ha.2
theorem SumAt.no {zs : List Int} {k : Nat} {s : Int} (h : SumAt zs k s) (hk : k < zs.length) (ha : addOk s (zs.getD k 0) = false) : sumFrom 0 zs = (0, 3) := by
  rw [h.2, sumFrom_step s zs k hk, if_neg (by rw [ha]; simp)]
theorem SumAt.fin {zs : List Int} {k : Nat} {s : Int} (h : SumAt zs k s) (hk : zs.length ≤ k) : sumFrom 0 zs = (s, 0) := by
  rw [h.2, sumFrom_end s zs k hk]

theorem addV_yes {a b : Int} (h : addOk a b = true) : addV a b = a + b := by simp [addV, h]
theorem addE_yes {a b : Int} (h : addOk a b = true) : addE a b = 0 := by simp [addE, h]
theorem addV_no {a b : Int} (h : addOk a b = false) : addV a b = 0 := by simp [addV, h]
theorem addE_no {a b : Int} (h : addOk a b = false) : addE a b = 3 := by simp [addE, h]

/-- A counter and a sum, as a loop's head has them. -/
def SumHead (zs : List Int) (t i : Value) : Prop := ∃ (k : Nat) (s : Int), k ≤ zs.length ∧ i = .int .i64 k ∧ t = .int .i64 s ∧ SumAt zs k s

set_option maxHeartbeats 400000 in
theorem sum_any (A : Option Addr) (cap B : Nat) (zs : List Int) (w : World) (h : Ints w B A zs) (hm : zs.length ≤ maxLen) :
    Calls Tryz.prog 50 #[.slice A zs.length cap] w fun e w' => e = .returned (.tuple #[.int .i64 (sumFrom 0 zs).1, .int .i64 (sumFrom 0 zs).2]) ∧ w = w' := by
  unfold maxLen at hm
  go_enter Tryz.func50, Tryz.ntmps50
  go_wp2_with fail
  go_loop [4, 11] (fun t i => SumHead zs t i) (fun _ i => zs.length - (intOf i).toNat)
  case atStart => exact ⟨0, 0, by omega, rfl, rfl, SumAt.zero zs⟩
  case round =>
    obtain ⟨k, s, hk, rfl, rfl, hs⟩ := hrel
    by_cases hlt : k < zs.length
    · obtain ⟨b, off, rfl, _, hc⟩ := h.at hlt
      generalize hx : zs.getD k 0 = x at hc
      have hs' := Lib.hid hs
      have hx' := Lib.hid hx
      clear hs hx
      have hb : decide (k < zs.length) = true := decide_eq_true hlt
      cases ha : addOk s x
      · have a1 := addV_no ha
        have a2 := addE_no ha
        have HA := Lib.hid ha
        clear ha
        go_wp2_with (go_at_call 48; refine (add_any _ _ _).mono ?_; rintro e w' ⟨rfl, rfl⟩)
        go_ret2
        have e := hs'.out.no hlt (by rw [hx'.out]; exact HA.out)
        exact ⟨ret_pair (by rw [e]) (by rw [e]), rfl⟩
      · have a1 := addV_yes ha
        have a2 := addE_yes ha
        have HA := Lib.hid ha
        clear ha
        go_wp2_with (go_at_call 48; refine (add_any _ _ _).mono ?_; rintro e w' ⟨rfl, rfl⟩)
        go_round
        case rel => exact ⟨k + 1, s + x, by omega, by go_num, rfl, by have e := hs'.out.yes hlt (by rw [hx'.out]; exact HA.out); rw [hx'.out] at e; exact e⟩
        case measure => simp [intOf]; omega
    · go_wp2_with fail
      go_ret2
      have e := hs.fin (by omega)
      exact ⟨ret_pair (by rw [e]) (by rw [e]), rfl⟩

theorem addOk_of {s x : Int} (hs : goodB s = true) : addOk s x = (goodB x && goodB (s + x)) := by simp [addOk, hs]

set_option maxHeartbeats 400000 in
theorem rsum_any (A : Option Addr) (cap B : Nat) (zs : List Int) (w : World) (h : Ints w B A zs) (hm : zs.length ≤ maxLen) :
    Calls Tryz.prog 78 #[.slice A zs.length cap] w fun e w' => e = .returned (.tuple #[.int .i64 (sumFrom 0 zs).1, .int .i64 (sumFrom 0 zs).2]) ∧ w = w' := by
  unfold maxLen at hm
  go_enter Tryz.func78, Tryz.ntmps78
  go_wp2_with fail
  go_loop [4, 5] (fun t i => SumHead zs t i) (fun _ i => zs.length - (intOf i).toNat)
  case atStart => exact ⟨0, 0, by omega, rfl, rfl, SumAt.zero zs⟩
  case round =>
    obtain ⟨k, s, hk, rfl, rfl, hs⟩ := hrel
    by_cases hlt : k < zs.length
    · obtain ⟨b, off, rfl, _, hc⟩ := h.at hlt
      generalize hx : zs.getD k 0 = x at hc
      have hs' := Lib.hid hs
      have hx' := Lib.hid hx
      have gs := (goodB_iff s).1 hs.good
      have ho := addOk_of (x := x) hs.good
      have HO := Lib.hid ho
      clear hs hx ho
      have hb : decide (k < zs.length) = true := decide_eq_true hlt
      cases g1 : goodB x
      · go_wp2_with (go_at_call 81; refine (rgood_any _ _).mono ?_; rintro e w' ⟨rfl, rfl⟩)
        go_ret2
        have e := hs'.out.no hlt (by rw [hx'.out, HO.out, g1]; rfl)
        exact ⟨ret_pair (by rw [e]) (by rw [e]), rfl⟩
      · have gx := (goodB_iff x).1 g1
        cases g2 : goodB (s + x)
        · go_wp2_with (go_at_call 81; refine (rgood_any _ _).mono ?_; rintro e w' ⟨rfl, rfl⟩)
          go_ret2
          have e := hs'.out.no hlt (by rw [hx'.out, HO.out, g1, g2]; rfl)
          exact ⟨ret_pair (by rw [e]) (by rw [e]), rfl⟩
        · go_wp2_with (go_at_call 81; refine (rgood_any _ _).mono ?_; rintro e w' ⟨rfl, rfl⟩)
          go_round
          case rel => exact ⟨k + 1, s + x, by omega, by go_num, rfl, by have e := hs'.out.yes hlt (by rw [hx'.out, HO.out, g1, g2]; rfl); rw [hx'.out] at e; exact e⟩
          case measure => simp [intOf]; omega
    · go_wp2_with fail
      go_ret2
      have e := hs.fin (by omega)
      exact ⟨ret_pair (by rw [e]) (by rw [e]), rfl⟩
end Go.Proofs.YtnmfjnfdnjjngaaGreatDoor

namespace Go.Proofs.YtnmfjnfdnjjngaaGreatDoor
open Go.RowKit
set_option maxRecDepth 100000

theorem info52 : (Tryz.prog.info? 62).map (fun i => (i.zero, i.size, i.bytes)) = some (some (.agg #[.int .i64 0, .string ⟨#[]⟩]), 2, 24) := by kernel_rfl
theorem info43 : (Tryz.prog.info? 107).map (fun i => (i.zero, i.size, i.bytes)) = some (some (.agg #[.string ⟨#[]⟩, .int .u32 0, .int .u32 0, .slice none 0 0]), 4, 56) := by kernel_rfl
theorem info9 : (Tryz.prog.info? 9).map (fun i => (i.zero, i.size, i.bytes)) = some (some (.string ⟨#[]⟩), 1, 16) := by kernel_rfl
theorem info3 : (Tryz.prog.info? 3).map (fun i => (i.zero, i.size, i.bytes)) = some (some (.int .i64 0), 1, 8) := by kernel_rfl

/-- What a copy of a slice of n elements, of 'size' cells each, is. -/
def Cloned (w : World) (A : Option Addr) (n size : Nat) (e : TypeId) (v' : Value) (w' : World) : Prop :=
  (n = 0 ∧ ∃ A' c', v' = .slice A' 0 c') ∨ ∃ b off g cap cur, A = some ⟨b, off, none⟩ ∧ v' = .slice (some ⟨g, 0, none⟩) n cap ∧ n ≤ cap ∧ w.heap.size ≤ g ∧ g < w'.heap.size ∧
    w'.heap[g]? = some (.cells cur e (0, 0)) ∧ cur.size = cap * size ∧ ∀ j, j < n * size → w'.cell? ⟨g, j, none⟩ = w.cell? ⟨b, off + j, none⟩

/-- The cells behind an address. -/
def cellsAt (w : World) (b off m : Nat) : List Value := (List.range m).map fun j => (w.cell? ⟨b, off + j, none⟩).getD undef
theorem cellsAt_get {w : World} {b off m j : Nat} {u : Value} (h : (cellsAt w b off m)[j]? = some u) : j < m ∧ u = (w.cell? ⟨b, off + j, none⟩).getD undef := by
  have hj : j < m := by
    have := (List.getElem?_eq_some_iff.1 h).1
    simpa [cellsAt] using this
  refine ⟨hj, ?_⟩
  simp [cellsAt, hj] at h
  exact h.symm

theorem cellsAt_cell {w : World} {b off m : Nat} (h : ∀ j, j < m → ∃ u, w.cell? ⟨b, off + j, none⟩ = some u ∧ u.oneCell' = true) (o : Obj) : ∀ j u, (cellsAt w b off m)[j]? = some u → (w.alloc o).cell? ((⟨b, off, none⟩ : Addr).add j) = some u := by
  intro j u hj
  obtain ⟨hj', rfl⟩ := cellsAt_get hj
  obtain ⟨u, hu, _⟩ := h j hj'
  rw [Addr.add_lit]
  exact Lib.cell?_alloc_some _ (by rw [hu]; rfl)
theorem cellsAt_one {w : World} {b off m : Nat} (h : ∀ j, j < m → ∃ u, w.cell? ⟨b, off + j, none⟩ = some u ∧ u.oneCell' = true) : ∀ u ∈ cellsAt w b off m, u.oneCell' = true := by
  intro u hu
  obtain ⟨j, hj⟩ := List.getElem?_of_mem hu
  obtain ⟨hj', rfl⟩ := cellsAt_get hj
  obtain ⟨u, hu, h1⟩ := h j hj'
  rw [hu]
  exact h1

theorem Cloned.of_own {w w' : World} {b off n size : Nat} {e : TypeId} {v' : Value} (hown : w'.ownsRow w.heap.size e size v' n (cellsAt w b off (n * size)))
    (hc : ∀ j, j < n * size → ∃ u, w.cell? ⟨b, off + j, none⟩ = some u) : Cloned w (some ⟨b, off, none⟩) n size e v' w' := by
  rcases hown.2 with ⟨rfl, h0⟩ | ⟨g, cap, cur, rfl, hb, hg, hn, hm, hs, ht⟩
  · exact .inl ⟨h0, none, 0, rfl⟩
  · refine .inr ⟨b, off, g, cap, cur, rfl, rfl, hn, hb, ?_, hg, hs, fun j hj => ?_⟩
    · rcases Nat.lt_or_ge g w'.heap.size with hlt | hge
      · exact hlt
      · rw [Array.getElem?_eq_none hge] at hg; cases hg
    · obtain ⟨u, hu⟩ := hc j hj
      have h1 := hown.cells (g := g) rfl j u (by simp [cellsAt, hj, hu])
      rw [hu, ← h1]
      simp [Addr.add]
      split <;> simp_all

set_option maxHeartbeats 1000000 in
theorem clone_out (A : Option Addr) (n c : Nat) (w : World) (hn : n ≤ 512) (hA : n = 0 ∨ ∃ b off, A = some ⟨b, off, none⟩ ∧ ∀ j, j < n * 2 → ∃ u, w.cell? ⟨b, off + j, none⟩ = some u ∧ u.oneCell' = true) :
    Calls Tryz.prog 68 #[.slice A n c] w fun e w' => ∃ v', e = .returned v' ∧ Cloned w A n 2 62 v' w' ∧ Below w.heap.size w w' := by
  obtain ⟨i0, hi, hz0, hz1, hz2⟩ := info_parts info52
  have q22 : ∀ (w : World) (a : Option Addr) (n c n' c' : Nat), (binOp .eql 49 (.slice a n c) (.slice none n' c')).run Tryz.prog w = .ok (.bool a.isNone) w := fun w a n c n' c' => Lib.run_eql_slice_nil w _ _ a n c n' c' Tryz.underlying49
  have HA := Lib.hid hA
  clear hA
  rcases A with _ | ⟨b, off, sub⟩
  · have h0 : n = 0 := by
      rcases HA.out with h | ⟨b, off, h, _⟩
      · exact h
      · cases h
    have H0 := Lib.hid h0
    clear h0
    go_enter Tryz.func68, Tryz.ntmps68
    go_wp2
    go_ret
    exact ⟨_, rfl, .inl ⟨H0.out, none, 0, rfl⟩, Below.refl _ _⟩
  · rcases Nat.eq_zero_or_pos n with h0 | h0
    · subst h0
      go_enter Tryz.func68, Tryz.ntmps68
      go_wp2_with (at_builtin; refine wpList_append_own _ rfl _ _ 49 rfl w.heap.size 62 i0 _ 2 24 Tryz.underlying49 hi hz0 hz1 hz2 rfl (by decide) _ _ _ rfl (World.ownsRow_made w #[] 0 (Nat.le_refl _) (Nat.zero_le _) (by simp)) ⟨b, off, sub⟩ 0 c [] rfl rfl (by intro j u hj; simp at hj) (by intro u hu; simp at hu) (by unfold maxLen; omega) (by omega) (by simp) ?_; intro v' w1 hown hgrow hnil)
      go_ret
      refine ⟨v', rfl, .inl ⟨rfl, ?_⟩, ((Below.refl _ w).alloc (Nat.le_refl _) _).grown hgrow (by simp) (fun k hk => by have h2 : some w.heap.size = some k := hk; injection h2 with h2; omega)⟩
      rcases hown.2 with ⟨rfl, _⟩ | ⟨g, cap, cur, rfl, _⟩
      · exact ⟨none, 0, rfl⟩
      · exact ⟨_, cap, rfl⟩
    · obtain ⟨b', off', hA', hcell⟩ : ∃ b' off', (some (⟨b, off, sub⟩ : Addr)) = some ⟨b', off', none⟩ ∧ ∀ j, j < n * 2 → ∃ u, w.cell? ⟨b', off' + j, none⟩ = some u ∧ u.oneCell' = true := by
        rcases HA.out with h | h
        · omega
        · exact h
      injection hA' with hA'
      injection hA' with e1 e2 e3
      subst e1 e2 e3
      have HC := Lib.hid hcell
      clear hcell HA
      go_enter Tryz.func68, Tryz.ntmps68
      go_wp2_with (at_builtin; refine wpList_append_own _ rfl _ _ 49 rfl w.heap.size 62 i0 _ 2 24 Tryz.underlying49 hi hz0 hz1 hz2 rfl (by decide) _ _ _ rfl (World.ownsRow_made w #[] 0 (Nat.le_refl _) (Nat.zero_le _) (by simp)) ⟨b, off, none⟩ n c (cellsAt w b off (n * 2)) rfl (by simp [cellsAt]) (cellsAt_cell HC.out _) (cellsAt_one HC.out) (by unfold maxLen; omega) (by omega) (by simp) ?_; intro v' w1 hown hgrow hnil)
      go_ret
      refine ⟨v', rfl, Cloned.of_own (by simpa using hown) (fun j hj => by obtain ⟨u, hu, _⟩ := HC.out j hj; exact ⟨u, hu⟩), ((Below.refl _ w).alloc (Nat.le_refl _) _).grown hgrow (by simp) (fun k hk => by have h2 : some w.heap.size = some k := hk; injection h2 with h2; omega)⟩

end Go.Proofs.YtnmfjnfdnjjngaaGreatDoor
