/-
  Plain mathematics of layer 5: lists that are the same, part by part.
  Are two transactions the same: slices.Equal, slices.EqualFunc, tx.Equal.
  Are two transactions the same: the closure over inputs, slices.EqualFunc, tx.Equal.
  What a transaction pays in all: the program's Total and the document's.
  Copies of lists, read again.
-/
import Derived.Test.YtnmfjnfdnjjngaaGreatDoorMData
import Derived.Deep.LoopGhost
import Derived.Shelf.Abstract
import Derived.Shelf.AbstractIn
import Derived.Deep.OwnRows

namespace Go.Proofs.YtnmfjnfdnjjngaaGreatDoor

/-- Are two lists the same, element by element? -/
def allB {α : Type} (r : α → α → Bool) : List α → List α → Bool
  | [], [] => true
  | x :: xs, y :: ys => r x y && allB r xs ys
  | _, _ => false

theorem allB_iff {α : Type} (r : α → α → Bool) (xs ys : List α) : allB r xs ys = true ↔ xs.length = ys.length ∧ ∀ (k : Nat) (x y : α), xs[k]? = some x → ys[k]? = some y → r x y = true := by
  induction xs generalizing ys with
  | nil => cases ys <;> simp [allB]
  | cons x xs ih =>
    cases ys with
    | nil => simp [allB]
    | cons y ys =>
      simp only [allB, Bool.and_eq_true, ih, List.length_cons, Nat.add_right_cancel_iff]
      constructor
      · rintro ⟨h1, h2, h3⟩
        refine ⟨h2, fun k a b ha hb => ?_⟩
        cases k with
        | zero => simp at ha hb; subst ha hb; exact h1
        | succ k => exact h3 k a b (by simpa using ha) (by simpa using hb)
      · rintro ⟨h2, h3⟩
        exact ⟨h3 0 x y rfl rfl, h2, fun k a b ha hb => h3 (k + 1) a b (by simpa using ha) (by simpa using hb)⟩
theorem allB_len {α : Type} {r : α → α → Bool} {xs ys : List α} (h : xs.length ≠ ys.length) : allB r xs ys = false := by
  rw [Bool.eq_false_iff]; intro h2; exact h ((allB_iff r xs ys).1 h2).1
theorem allB_miss {α : Type} {r : α → α → Bool} {xs ys : List α} {k : Nat} {x y : α} (hx : xs[k]? = some x) (hy : ys[k]? = some y) (h : r x y = false) : allB r xs ys = false := by
  rw [Bool.eq_false_iff]; intro h2
  have := ((allB_iff r xs ys).1 h2).2 k x y hx hy
  rw [h] at this; cases this
theorem allB_full {α : Type} {r : α → α → Bool} {xs ys : List α} (hl : xs.length = ys.length) (h : ∀ (k : Nat) (x y : α), xs[k]? = some x → ys[k]? = some y → r x y = true) : allB r xs ys = true := (allB_iff r xs ys).2 ⟨hl, h⟩
theorem allB_refl {α : Type} {r : α → α → Bool} (hr : ∀ x, r x x = true) (xs : List α) : allB r xs xs = true :=
  allB_full rfl fun _ x y hx hy => by rw [hx] at hy; injection hy with hy; subst hy; exact hr x
theorem allB_symm {α : Type} {r : α → α → Bool} (hr : ∀ x y, r x y = r y x) (xs ys : List α) : allB r xs ys = allB r ys xs := by
  rw [Bool.eq_iff_iff, allB_iff, allB_iff]
  exact ⟨fun h => ⟨h.1.symm, fun k x y hx hy => by rw [hr]; exact h.2 k y x hy hx⟩, fun h => ⟨h.1.symm, fun k x y hx hy => by rw [hr]; exact h.2 k y x hy hx⟩⟩

/-- Where two lists are the same up to k. -/
def SoFar {α : Type} (r : α → α → Bool) (xs ys : List α) (k : Nat) : Prop := ∀ (j : Nat) (x y : α), j < k → xs[j]? = some x → ys[j]? = some y → r x y = true
theorem SoFar.zero {α : Type} (r : α → α → Bool) (xs ys : List α) : SoFar r xs ys 0 := fun _ _ _ h => absurd h (Nat.not_lt_zero _)
theorem SoFar.step {α : Type} {r : α → α → Bool} {xs ys : List α} {k : Nat} {x y : α} (h : SoFar r xs ys k) (hx : xs[k]? = some x) (hy : ys[k]? = some y) (hr : r x y = true) : SoFar r xs ys (k + 1) := by
  intro j a b hj ha hb
  rcases Nat.lt_or_ge j k with hlt | hge
  · exact h j a b hlt ha hb
  · obtain rfl : j = k := by omega
    rw [hx] at ha; rw [hy] at hb; injection ha with ha; injection hb with hb; subst ha hb; exact hr
theorem SoFar.full {α : Type} {r : α → α → Bool} {xs ys : List α} {k : Nat} (h : SoFar r xs ys k) (hk : xs.length ≤ k) (hl : xs.length = ys.length) : allB r xs ys = true :=
  allB_full hl fun j x y hx hy => h j x y (by have := (List.getElem?_eq_some_iff.1 hx).1; omega) hx hy

end Go.Proofs.YtnmfjnfdnjjngaaGreatDoor

namespace Go.Proofs.YtnmfjnfdnjjngaaGreatDoor
open Go.RowKit
set_option maxRecDepth 100000

def strB (a b : ByteArray) : Bool := a.toList == b.toList
def strsB (xs ys : List ByteArray) : Bool := allB strB xs ys
def outB (x y : OutD) : Bool := (x.val == y.val) && strB x.scr y.scr
def inB (x y : InD) : Bool := ptB x.id x.ix y.id y.ix && (x.sq == y.sq) && strsB x.wit y.wit
def txB (t u : TxD) : Bool := (t.ver == u.ver) && (t.lock == u.lock) && allB inB t.ins u.ins && allB outB t.outs u.outs

theorem run_neq_out (w : World) (a : Int) (s : ByteArray) (b : Int) (r : ByteArray) :
    (binOp .neq 62 (.agg #[.int .i64 a, .string s]) (.agg #[.int .i64 b, .string r])).run Tryz.prog w = .ok (.bool !(outB ⟨a, s⟩ ⟨b, r⟩)) w := by
  have u9 := Tryz.underlying9
  have u3 := Tryz.underlying3
  have a9 := Tryz.isAgg9
  have z9 := Tryz.sizeOf9
  have a3 := Tryz.isAgg3
  have z3 := Tryz.sizeOf3
  have hS : Tryz.prog.underlying 62 = some (.struct (Tryz.prog.fieldsOf 62)) := by kernel_rfl
  have hp : Tryz.prog.stoodInHeld 62 = false := by kernel_rfl
  rw [run_neq_struct, show (10000 : Nat) = 9999 + 1 from rfl, run_equalIn_agg w 9999 62 _ _ hS hp]
  simp only [Program.fieldsOf, Tryz.underlying62]
  go_simp
  unfold outB strB
  by_cases h1 : s.toList = r.toList <;> by_cases h2 : a = b <;> simp [h1, h2]
theorem out_guard (op : BinOp) (x y : Operand) (a : Array Value) (b : Array Value) (w : World) : (eqGuard op 62 x y (.agg a) (.agg b)).run Tryz.prog w = .ok () w := run_eqGuard_agg w op 62 x y a b (by kernel_rfl)

/-- A counter and a world, as a loop over two lists has them. -/
def EqHead {α : Type} (r : α → α → Bool) (xs ys : List α) (w : World) (gg : Nat) (s : Value) (wr : World) : Prop :=
  ∃ kk : Nat, kk ≤ xs.length ∧ xs.length - kk ≤ gg ∧ s = .int .i64 kk ∧ Below w.heap.size w wr ∧ SoFar r xs ys kk

end Go.Proofs.YtnmfjnfdnjjngaaGreatDoor

namespace Go.Proofs.YtnmfjnfdnjjngaaGreatDoor
open Go.RowKit
set_option maxRecDepth 100000

theorem inB_pt {x y : InD} (h : ptB x.id x.ix y.id y.ix = false) : inB x y = false := by simp [inB, h]
theorem inB_sq {x y : InD} (h : ptB x.id x.ix y.id y.ix = true) (h2 : (x.sq == y.sq) = false) : inB x y = false := by simp [inB, h, h2]
theorem inB_wit {x y : InD} (h : ptB x.id x.ix y.id y.ix = true) (h2 : (x.sq == y.sq) = true) : inB x y = strsB x.wit y.wit := by simp [inB, h, h2]

theorem Ins.form {w : World} {lo hi : Nat} {v : Value} {xs : List InD} (h : Ins w lo hi v xs) : ∃ A c, v = .slice A xs.length c := by obtain ⟨A, c, h, _⟩ := h; exact ⟨A, c, h⟩
theorem Outs.form {w : World} {lo hi : Nat} {v : Value} {xs : List OutD} (h : Outs w lo hi v xs) : ∃ A c, v = .slice A xs.length c := by obtain ⟨A, c, h, _⟩ := h; exact ⟨A, c, h⟩
theorem Strs.form {w : World} {lo hi : Nat} {v : Value} {xs : List ByteArray} (h : Strs w lo hi v xs) : ∃ A c, v = .slice A xs.length c := by obtain ⟨A, c, h, _⟩ := h; exact ⟨A, c, h⟩

theorem txB_ver {t u : TxD} (h : (t.ver == u.ver) = false) : txB t u = false := by simp [txB, h]
theorem txB_lock {t u : TxD} (h : (t.lock == u.lock) = false) : txB t u = false := by simp [txB, h]
theorem txB_ins {t u : TxD} (h : allB inB t.ins u.ins = false) : txB t u = false := by simp [txB, h]
theorem txB_outs {t u : TxD} (h1 : (t.ver == u.ver) = true) (h2 : (t.lock == u.lock) = true) (h3 : allB inB t.ins u.ins = true) : txB t u = allB outB t.outs u.outs := by simp [txB, h1, h2, h3]

end Go.Proofs.YtnmfjnfdnjjngaaGreatDoor

namespace Go.Proofs.YtnmfjnfdnjjngaaGreatDoor
open Go.RowKit
set_option maxRecDepth 100000

/-- The Values of outputs. -/
def vals (xs : List OutD) : List Int := xs.map (·.val)
/-- What all outputs pay together, and the error beside it. -/
def totalD (xs : List OutD) : Int × Int := sumFrom 0 (vals xs)

theorem vals_get {xs : List OutD} {k : Nat} {x : OutD} (h : xs[k]? = some x) : (vals xs).getD k 0 = x.val := by
  simp [vals, List.getD_eq_getElem?_getD, h]

/-- What a row of numbers holds behind k of them. -/
def fillF (xs : List OutD) (k : Nat) : Nat → Value := fun i => .int .i64 (if i < k then (vals xs).getD i 0 else 0)

theorem fill_step {w : World} {g n : Nat} {xs : List OutD} {k : Nat} {x : OutD} (hx : xs[k]? = some x) (h : w.rowIs g 3 n (fillF xs k)) : (w.setCell ⟨g, k, none⟩ (.int .i64 x.val)).rowIs g 3 n (fillF xs (k + 1)) := by
  refine (h.set k (.int .i64 x.val)).congr fun i _ => ?_
  unfold fillF
  by_cases e : i = k
  · subst e
    rw [if_pos rfl, if_pos (by omega), vals_get hx]
  · rw [if_neg e]
    by_cases h2 : i < k
    · rw [if_pos h2, if_pos (by omega)]
    · rw [if_neg h2, if_neg (by omega)]

theorem fill_ints {w : World} {g : Nat} {xs : List OutD} (h : w.rowIs g 3 xs.length (fillF xs xs.length)) : Ints w w.heap.size (some ⟨g, 0, none⟩) (vals xs) := by
  refine .inr ⟨g, 0, rfl, h.lt, fun k hk => ?_⟩
  have hk : k < xs.length := by simpa [vals] using hk
  rw [Nat.zero_add, h.cell hk]
  unfold fillF
  rw [if_pos hk]

/-- A counter and a row that is filled, as the loop's head has them. -/
def FillHead (xs : List OutD) (w : World) (g gg : Nat) (s : Value) (wr : World) : Prop :=
  ∃ k : Nat, k ≤ xs.length ∧ xs.length - k ≤ gg ∧ s = .int .i64 k ∧ wr.rowIs g 3 xs.length (fillF xs k) ∧ Below w.heap.size w wr

set_option maxHeartbeats 1000000 in
theorem total_any (t : TxD) (vi vo : Value) (w : World) (lo hi : Nat) (ht : Outs w lo hi vo t.outs) (hhi : hi ≤ w.heap.size) (hl : t.outs.length ≤ 512) :
    Calls Tryz.prog 30 #[.agg #[.int .u32 t.ver, vi, vo, .int .u32 t.lock]] w fun e w' => e = .returned (.tuple #[.int .i64 (totalD t.outs).1, .int .i64 (totalD t.outs).2]) ∧ Below w.heap.size w w' := by
  obtain ⟨tv, ti, tz, tl⟩ := t
  obtain ⟨A, c, rfl⟩ := ht.form
  simp only at ht hl ⊢
  have HT := Lib.hid ht
  clear ht
  have hmk := run_make_row' (P := Tryz.prog) 118 3 (.int .i64 0) 8 Tryz.underlying118 info3 rfl .i64 .i64 tz.length (by omega) (by omega)
  go_enter Tryz.func30, Tryz.ntmps30
  go_wp2_with fail
  go_loopg [5, 6, 14] tz.length (fun gg _ _ s wr => FillHead tz w (w.heap.size + 1) gg s wr)
  case atStart =>
    refine ⟨0, Nat.zero_le _, by omega, rfl, ?_, ((Below.refl _ _).alloc (Nat.le_refl _) _).alloc (by simp) _⟩
    have h := World.rowIs_made (w.alloc (.cells #[.int .u32 tv, vi, .slice A tz.length c, .int .u32 tl] 51)) (.int .i64 0) tz.length 3
    simp only [World.size_alloc] at h
    exact h.congr fun i _ => by simp [fillF]
  case round =>
    obtain ⟨k, hk, hg, rfl, hrow, BW⟩ := hrel
    have hsz : w.heap.size + 1 < wr.heap.size := hrow.lt
    have BW := Lib.hid BW
    by_cases hlt : k < tz.length
    · have hltz : (k : Int) < (tz.length : Int) := by omega
      have hd : decide (k < tz.length) = true := decide_eq_true hlt
      obtain ⟨x, hxk⟩ : ∃ x, tz[k]? = some x := ⟨_, List.getElem?_eq_getElem hlt⟩
      obtain ⟨b, off, rfl, h1, h2, c0, c1⟩ := (HT.out.keep (Kept.of_below BW.out hhi)).at hxk
      have hc := hrow.cell hlt
      have hf := hrow.frozen k
      have HR := Lib.hid hrow
      have HXK := Lib.hid hxk
      clear hrow hxk
      go_wp2_with fail
      go_roundg (tz.length - (k + 1))
      case measure => omega
      case rel => exact ⟨k + 1, by omega, by omega, by go_num, (fill_step HXK.out HR.out).alloc _, (BW.out.setCell (p := ⟨w.heap.size + 1, k, none⟩) (by show w.heap.size ≤ w.heap.size + 1; omega) _).alloc (by simp [World.setCell]; omega) _⟩
    · have hltz : ¬ (k : Int) < (tz.length : Int) := by omega
      obtain rfl : k = tz.length := by omega
      have HR := Lib.hid hrow
      clear hrow
      go_wp2_with fail
      have hin := fill_ints HR.out
      have hlen : (vals tz).length = tz.length := by simp [vals]
      have hs := sum_any (some ⟨w.heap.size + 1, 0, none⟩) tz.length wr.heap.size (vals tz) wr hin (by rw [hlen]; unfold maxLen; omega)
      rw [hlen] at hs
      refine hs.mono ?_
      rintro e w' ⟨rfl, rfl⟩
      go_wp2_with fail
      go_ret2
      exact ⟨rfl, BW.out⟩

/-- A counter and a slice that grows, as the loop's head has them. -/
def GrowHead (xs : List OutD) (w : World) (gg : Nat) (v s : Value) (wr : World) : Prop :=
  ∃ k : Nat, k ≤ xs.length ∧ xs.length - k ≤ gg ∧ s = .int .i64 k ∧ wr.ownsRow w.heap.size 3 1 v k (((vals xs).take k).map (Value.int .i64)) ∧ Below w.heap.size w wr

theorem own_ints {w : World} {base : Nat} {v : Value} {zs : List Int} (h : w.ownsRow base 3 1 v zs.length (zs.map (Value.int .i64))) : ∃ A c, v = .slice A zs.length c ∧ Ints w w.heap.size A zs := by
  rcases h.2 with ⟨rfl, h0⟩ | ⟨g, cap, cur, rfl, hb, hg, hn, _, _, ht⟩
  · have : zs = [] := List.eq_nil_of_length_eq_zero h0
    subst this
    exact ⟨none, 0, rfl, .inl rfl⟩
  · refine ⟨_, cap, rfl, .inr ⟨g, 0, rfl, ?_, fun k hk => ?_⟩⟩
    · rcases Nat.lt_or_ge g w.heap.size with hlt | hge
      · exact hlt
      · rw [Array.getElem?_eq_none hge] at hg; cases hg
    · have h1 := World.ownsRow.cellAt h k (by omega)
      rw [Nat.zero_add, h1]
      simp [List.getD_eq_getElem?_getD, hk]
theorem own_block {w : World} {base : Nat} {e : TypeId} {size n : Nat} {v : Value} {xs : List Value} (h : w.ownsRow base e size v n xs) : ∀ k, v.ownBlock = some k → base ≤ k := by
  intro k hk
  rcases h.2 with ⟨rfl, _⟩ | ⟨g, cap, cur, rfl, hb, _⟩
  · simp [Value.ownBlock] at hk
  · simp [Value.ownBlock] at hk; omega
theorem one_new (w : World) (v : Value) (t : TypeId) : ∀ j u, [v][j]? = some u → (w.alloc (.cells #[v] t)).cell? ((⟨w.heap.size, 0, none⟩ : Addr).add j) = some u := by
  intro j u hj
  match j, hj with
  | 0, hj => simp at hj; subst hj; simp [Addr.add]
theorem vals_step {xs : List OutD} {k : Nat} {x : OutD} (h : xs[k]? = some x) : ((vals xs).take (k + 1)).map (Value.int .i64) = ((vals xs).take k).map (Value.int .i64) ++ [.int .i64 x.val] := by
  obtain ⟨hk, rfl⟩ := List.getElem?_eq_some_iff.1 h
  have hk' : k < (vals xs).length := by simpa [vals] using hk
  rw [List.take_succ_eq_append_getElem hk']
  simp [vals]

set_option maxHeartbeats 1000000 in
theorem rtotal_any (t : TxD) (vi vo : Value) (w : World) (lo hi : Nat) (ht : Outs w lo hi vo t.outs) (hhi : hi ≤ w.heap.size) (hl : t.outs.length ≤ 512) :
    Calls Tryz.prog 75 #[.agg #[.int .u32 t.ver, vi, vo, .int .u32 t.lock]] w fun e w' => e = .returned (.tuple #[.int .i64 (totalD t.outs).1, .int .i64 (totalD t.outs).2]) ∧ Below w.heap.size w w' := by
  obtain ⟨tv, ti, tz, tl⟩ := t
  obtain ⟨A, c, rfl⟩ := ht.form
  simp only at ht hl ⊢
  obtain ⟨i0, hi0, hz0, hz1, hz2⟩ := info_parts info3
  obtain ⟨w0, hw0⟩ : ∃ w0, w0 = w.alloc (.cells #[.int .u32 tv, vi, .slice A tz.length c, .int .u32 tl] 51) := ⟨_, rfl⟩
  have q1 : w0.cell? ⟨w.heap.size, 2, none⟩ = some (.slice A tz.length c) := by rw [hw0]; simp
  have z0 : w0.heap.size = w.heap.size + 1 := by rw [hw0]; simp
  have bw0 : Below w.heap.size w w0 := by rw [hw0]; exact (Below.refl _ _).alloc (Nat.le_refl _) _
  have Q := Lib.hid q1
  have HT := Lib.hid ht
  have HW0 := Lib.hid hw0
  have Z0 := Lib.hid z0
  have BW0 := Lib.hid bw0
  clear ht hw0 z0 q1 bw0
  go_enter Tryz.func75, Tryz.ntmps75
  go_wp2_with fail
  go_loopg [4, 5] tz.length (fun gg v s wr => GrowHead tz w0 gg v s wr)
  case atStart => exact ⟨0, Nat.zero_le _, by omega, rfl, by simpa using World.ownsRow_nil _ _ 3 1, by rw [HW0.out]; exact Below.refl _ _⟩
  case round =>
    obtain ⟨k, hk, hg, rfl, hown, BW⟩ := hrel
    have hz : w.heap.size < wr.heap.size := by have := BW.size; have := Z0.out; omega
    have f1 := (BW.cell (p := ⟨w.heap.size, 2, none⟩) (by have := Z0.out; show w.heap.size < _; omega)).trans Q.out
    have BV := Lib.hid (below_next BW0.out (by have := Z0.out; omega) BW)
    have hs0 := BW.size
    have BW := Lib.hid BW
    have HOWN := Lib.hid hown
    clear hown
    by_cases hlt : k < tz.length
    · have hltz : (k : Int) < (tz.length : Int) := by omega
      have hd : decide (k < tz.length) = true := decide_eq_true hlt
      obtain ⟨x, hxk⟩ : ∃ x, tz[k]? = some x := ⟨_, List.getElem?_eq_getElem hlt⟩
      obtain ⟨b, off, rfl, h1, h2, c0, c1⟩ := (HT.out.keep (Kept.of_below BV.out hhi)).at hxk
      have HXK := Lib.hid hxk
      clear hxk
      go_wp2_with (at_builtin; refine wpList_append_own _ rfl _ _ 118 rfl w0.heap.size 3 i0 (.int .i64 0) 1 8 Tryz.underlying118 hi0 hz0 hz1 hz2 rfl (by decide) _ _ _ rfl (HOWN.out.alloc _) ⟨wr.heap.size, 0, none⟩ 1 1 [.int .i64 x.val] rfl rfl (one_new _ _ _) (by intro u hu; simp at hu; subst hu; rfl) (by unfold maxLen; omega) (by omega) (by simp; omega) ?_; intro v' w1 hown' hgrow _)
      have BN := Lib.hid ((BW.out.alloc hs0 (.cells #[.int .i64 x.val] 3)).grown hgrow (by simp; omega) (own_block HOWN.out))
      have OWN := Lib.hid hown'
      clear hown' hgrow
      go_roundg (tz.length - (k + 1))
      case measure => omega
      case rel => exact ⟨k + 1, by omega, by omega, by go_num, by rw [vals_step HXK.out]; exact OWN.out, BN.out⟩
    · have hltz : ¬ (k : Int) < (tz.length : Int) := by omega
      obtain rfl : k = tz.length := by omega
      have hlen : (vals tz).length = tz.length := by simp [vals]
      obtain ⟨A', c', rfl, hin⟩ := own_ints (zs := vals tz) (by rw [hlen]; have := HOWN.out; rw [← hlen, List.take_length] at this; rw [← hlen]; exact this)
      have hs := rsum_any A' c' wr.heap.size (vals tz) wr hin (by rw [hlen]; unfold maxLen; omega)
      rw [hlen] at hs ⊢
      have HS := Lib.hid hs
      clear hs hlen hin
      go_wp2_with fail
      refine HS.out.mono ?_
      rintro e w' ⟨rfl, rfl⟩
      go_wp2_with fail
      go_ret2
      exact ⟨rfl, BV.out⟩

end Go.Proofs.YtnmfjnfdnjjngaaGreatDoor

namespace Go.Proofs.YtnmfjnfdnjjngaaGreatDoor
open Go.RowKit
set_option maxRecDepth 100000

theorem Outs.source {w : World} {lo hi : Nat} {A : Option Addr} {n c : Nat} {xs : List OutD} (h : Outs w lo hi (.slice A n c) xs) :
    n = 0 ∨ ∃ b off, A = some ⟨b, off, none⟩ ∧ ∀ j, j < n * 2 → ∃ u, w.cell? ⟨b, off + j, none⟩ = some u ∧ u.oneCell' = true := by
  obtain ⟨A', c', hv, hc, h⟩ := h
  injection hv with hA hn
  subst hA hn
  rcases h with rfl | ⟨b, off, rfl, h1, h2, h⟩
  · exact .inl rfl
  · refine .inr ⟨b, off, rfl, fun j hj => ?_⟩
    obtain ⟨x, hx⟩ : ∃ x, xs[j / 2]? = some x := ⟨_, List.getElem?_eq_getElem (by omega)⟩
    obtain ⟨c0, c1⟩ := h _ x hx
    rcases Nat.mod_two_eq_zero_or_one j with e | e
    · rw [show off + j / 2 * 2 = off + j from by omega] at c0
      exact ⟨_, c0, rfl⟩
    · rw [show off + j / 2 * 2 + 1 = off + j from by omega] at c1
      exact ⟨_, c1, rfl⟩
theorem Strs.source {w : World} {lo hi : Nat} {A : Option Addr} {n c : Nat} {xs : List ByteArray} (h : Strs w lo hi (.slice A n c) xs) :
    n = 0 ∨ ∃ b off, A = some ⟨b, off, none⟩ ∧ ∀ j, j < n * 1 → ∃ u, w.cell? ⟨b, off + j, none⟩ = some u ∧ u.oneCell' = true := by
  obtain ⟨A', c', hv, hc, h⟩ := h
  injection hv with hA hn
  subst hA hn
  rcases h with rfl | ⟨b, off, rfl, h1, h2, h⟩
  · exact .inl rfl
  · refine .inr ⟨b, off, rfl, fun j hj => ?_⟩
    obtain ⟨x, hx⟩ : ∃ x, xs[j]? = some x := ⟨_, List.getElem?_eq_getElem (by omega)⟩
    exact ⟨_, h _ x hx, rfl⟩
theorem Ins.source {w : World} {lo hi : Nat} {A : Option Addr} {n c : Nat} {xs : List InD} (h : Ins w lo hi (.slice A n c) xs) :
    n = 0 ∨ ∃ b off, A = some ⟨b, off, none⟩ ∧ ∀ j, j < n * 4 → ∃ u, w.cell? ⟨b, off + j, none⟩ = some u ∧ u.oneCell' = true := by
  obtain ⟨A', c', hv, hc, h⟩ := h
  injection hv with hA hn
  subst hA hn
  rcases h with rfl | ⟨b, off, rfl, h1, h2, h⟩
  · exact .inl rfl
  · refine .inr ⟨b, off, rfl, fun j hj => ?_⟩
    obtain ⟨x, hx⟩ : ∃ x, xs[j / 4]? = some x := ⟨_, List.getElem?_eq_getElem (by omega)⟩
    obtain ⟨c0, c1, c2, v, c3, hs⟩ := h _ x hx
    obtain ⟨A1, m1, rfl, _⟩ := hs
    rcases (show j % 4 = 0 ∨ j % 4 = 1 ∨ j % 4 = 2 ∨ j % 4 = 3 from by omega) with e | e | e | e
    · rw [show off + j / 4 * 4 = off + j from by omega] at c0
      exact ⟨_, c0, rfl⟩
    · rw [show off + j / 4 * 4 + 1 = off + j from by omega] at c1
      exact ⟨_, c1, rfl⟩
    · rw [show off + j / 4 * 4 + 2 = off + j from by omega] at c2
      exact ⟨_, c2, rfl⟩
    · rw [show off + j / 4 * 4 + 3 = off + j from by omega] at c3
      exact ⟨_, c3, rfl⟩

theorem Cloned.outs {w w' : World} {lo hi : Nat} {A : Option Addr} {n c : Nat} {v' : Value} {xs : List OutD} (h : Outs w lo hi (.slice A n c) xs) (hc : Cloned w A n 2 62 v' w') : Outs w' w.heap.size w'.heap.size v' xs := by
  obtain ⟨A', c', hv, hcc, h⟩ := h
  injection hv with hA hn
  subst hA hn
  rcases hc with ⟨h0, A1, c1, rfl⟩ | ⟨b, off, g, cap, cur, rfl, rfl, hle, h1, h2, _, _, hcell⟩
  · have : xs = [] := List.eq_nil_of_length_eq_zero h0
    subst this
    exact ⟨A1, c1, rfl, by simp, .inl rfl⟩
  · refine ⟨_, cap, rfl, hle, ?_⟩
    rcases h with h | ⟨b', off', hA, _, _, h⟩
    · exact .inl h
    · injection hA with hA
      injection hA with e1 e2
      subst e1 e2
      refine .inr ⟨g, 0, rfl, h1, h2, fun k x hx => ?_⟩
      have hk := (List.getElem?_eq_some_iff.1 hx).1
      obtain ⟨c0, c1⟩ := h k x hx
      rw [Nat.zero_add]
      exact ⟨(hcell _ (by omega)).trans c0, (hcell _ (by omega)).trans c1⟩
theorem Cloned.strs {w w' : World} {lo hi : Nat} {A : Option Addr} {n c : Nat} {v' : Value} {xs : List ByteArray} (h : Strs w lo hi (.slice A n c) xs) (hc : Cloned w A n 1 9 v' w') : Strs w' w.heap.size w'.heap.size v' xs := by
  obtain ⟨A', c', hv, hcc, h⟩ := h
  injection hv with hA hn
  subst hA hn
  rcases hc with ⟨h0, A1, c1, rfl⟩ | ⟨b, off, g, cap, cur, rfl, rfl, hle, h1, h2, _, _, hcell⟩
  · have : xs = [] := List.eq_nil_of_length_eq_zero h0
    subst this
    exact ⟨A1, c1, rfl, by simp, .inl rfl⟩
  · refine ⟨_, cap, rfl, hle, ?_⟩
    rcases h with h | ⟨b', off', hA, _, _, h⟩
    · exact .inl h
    · injection hA with hA
      injection hA with e1 e2
      subst e1 e2
      refine .inr ⟨g, 0, rfl, h1, h2, fun k x hx => ?_⟩
      have hk := (List.getElem?_eq_some_iff.1 hx).1
      rw [Nat.zero_add]
      exact (hcell _ (by omega)).trans (h k x hx)

end Go.Proofs.YtnmfjnfdnjjngaaGreatDoor
