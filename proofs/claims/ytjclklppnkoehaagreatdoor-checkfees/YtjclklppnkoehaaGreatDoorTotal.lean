/-
  What a transaction pays in all: the program's Total and the document's.
-/
import Derived.Test.YtjclklppnkoehaaGreatDoorSum
import Derived.Test.YtjclklppnkoehaaGreatDoorClone
import Derived.Test.YtjclklppnkoehaaGreatDoorEqual
import Derived.Deep.OwnRows
namespace Go.Proofs.YtjclklppnkoehaaGreatDoor
open Go.RowKit
set_option maxRecDepth 100000

/-- The Values of outputs. -/
def vals (xs : List OutD) : List Int := xs.map (·.val)
/-- What all outputs pay together, and the error beside it. -/
def totalD (xs : List OutD) : Int × Int := sumFrom 0 (vals xs)

theorem vals_get {xs : List OutD} {k : Nat} {x : OutD} (h : xs[k]? = some x) : (vals xs).getD k 0 = x.val := by
  simp [vals, List.getD_eq_getElem?_getD, h]

/-- What a row of numbers holds behind k of them. -/
def fillF (xs : List OutD) (k : Nat) : Nat → Value := fun i => .int .i64 (if i < k then (vals xs).getD i 0 else 0)

theorem fill_step {w : World} {g n : Nat} {xs : List OutD} {k : Nat} {x : OutD} (hx : xs[k]? = some x) (h : w.rowIs g 3 n (fillF xs k)) : (w.setCell ⟨g, k, none⟩ (.int .i64 x.val)).rowIs g 3 n (fillF xs (k + 1)) := by
  refine (h.set k (.int .i64 x.val)).congr fun i _ => ?_
  unfold fillF
  by_cases e : i = k
  · subst e
    rw [if_pos rfl, if_pos (by omega), vals_get hx]
  · rw [if_neg e]
    by_cases h2 : i < k
    · rw [if_pos h2, if_pos (by omega)]
    · rw [if_neg h2, if_neg (by omega)]

theorem fill_ints {w : World} {g : Nat} {xs : List OutD} (h : w.rowIs g 3 xs.length (fillF xs xs.length)) : Ints w w.heap.size (some ⟨g, 0, none⟩) (vals xs) := by
  refine .inr ⟨g, 0, rfl, h.lt, fun k hk => ?_⟩
  have hk : k < xs.length := by simpa [vals] using hk
  rw [Nat.zero_add, h.cell hk]
  unfold fillF
  rw [if_pos hk]

/-- A counter and a row that is filled, as the loop's head has them. -/
def FillHead (xs : List OutD) (w : World) (g gg : Nat) (s : Value) (wr : World) : Prop :=
  ∃ k : Nat, k ≤ xs.length ∧ xs.length - k ≤ gg ∧ s = .int .i64 k ∧ wr.rowIs g 3 xs.length (fillF xs k) ∧ Below w.heap.size w wr

set_option maxHeartbeats 1000000 in
theorem total_any (t : TxD) (vi vo : Value) (w : World) (lo hi : Nat) (ht : Outs w lo hi vo t.outs) (hhi : hi ≤ w.heap.size) (hl : t.outs.length ≤ 512) :
    Calls Tryz.prog 23 #[.agg #[.int .u32 t.ver, vi, vo, .int .u32 t.lock]] w fun e w' => e = .returned (.tuple #[.int .i64 (totalD t.outs).1, .int .i64 (totalD t.outs).2]) ∧ Below w.heap.size w w' := by
  obtain ⟨tv, ti, to, tl⟩ := t
  obtain ⟨A, c, rfl⟩ := ht.form
  simp only at ht hl ⊢
  have HT := Lib.hid ht
  clear ht
  have hmk := run_make_row' (P := Tryz.prog) 36 3 (.int .i64 0) 8 Tryz.underlying36 info3 rfl .i64 .i64 to.length (by omega) (by omega)
  go_enter Tryz.func23, Tryz.ntmps23
  go_wp2_with fail
  go_loopg [5, 6, 14] to.length (fun gg _ _ s wr => FillHead to w (w.heap.size + 1) gg s wr)
  case atStart =>
    refine ⟨0, Nat.zero_le _, by omega, rfl, ?_, ((Below.refl _ _).alloc (Nat.le_refl _) _).alloc (by simp) _⟩
    have h := World.rowIs_made (w.alloc (.cells #[.int .u32 tv, vi, .slice A to.length c, .int .u32 tl] 34)) (.int .i64 0) to.length 3
    simp only [World.size_alloc] at h
    exact h.congr fun i _ => by simp [fillF]
  case round =>
    obtain ⟨k, hk, hg, rfl, hrow, BW⟩ := hrel
    have hsz : w.heap.size + 1 < wr.heap.size := hrow.lt
    have BW := Lib.hid BW
    by_cases hlt : k < to.length
    · have hltz : (k : Int) < (to.length : Int) := by omega
      have hd : decide (k < to.length) = true := decide_eq_true hlt
      obtain ⟨x, hxk⟩ : ∃ x, to[k]? = some x := ⟨_, List.getElem?_eq_getElem hlt⟩
      obtain ⟨b, off, rfl, h1, h2, c0, c1⟩ := (HT.out.keep (Kept.of_below BW.out hhi)).at hxk
      have hc := hrow.cell hlt
      have hf := hrow.frozen k
      have HR := Lib.hid hrow
      have HXK := Lib.hid hxk
      clear hrow hxk
      go_wp2_with fail
      go_roundg (to.length - (k + 1))
      case measure => omega
      case rel => exact ⟨k + 1, by omega, by omega, by go_num, (fill_step HXK.out HR.out).alloc _, (BW.out.setCell (p := ⟨w.heap.size + 1, k, none⟩) (by show w.heap.size ≤ w.heap.size + 1; omega) _).alloc (by simp [World.setCell]; omega) _⟩
    · have hltz : ¬ (k : Int) < (to.length : Int) := by omega
      obtain rfl : k = to.length := by omega
      have HR := Lib.hid hrow
      clear hrow
      go_wp2_with fail
      have hin := fill_ints HR.out
      have hlen : (vals to).length = to.length := by simp [vals]
      have hs := sum_any (some ⟨w.heap.size + 1, 0, none⟩) to.length wr.heap.size (vals to) wr hin (by rw [hlen]; unfold maxLen; omega)
      rw [hlen] at hs
      refine hs.mono ?_
      rintro e w' ⟨rfl, rfl⟩
      go_wp2_with fail
      go_ret2
      exact ⟨rfl, BW.out⟩

/-- A counter and a slice that grows, as the loop's head has them. -/
def GrowHead (xs : List OutD) (w : World) (gg : Nat) (v s : Value) (wr : World) : Prop :=
  ∃ k : Nat, k ≤ xs.length ∧ xs.length - k ≤ gg ∧ s = .int .i64 k ∧ wr.ownsRow w.heap.size 3 1 v k (((vals xs).take k).map (Value.int .i64)) ∧ Below w.heap.size w wr

theorem own_ints {w : World} {base : Nat} {v : Value} {zs : List Int} (h : w.ownsRow base 3 1 v zs.length (zs.map (Value.int .i64))) : ∃ A c, v = .slice A zs.length c ∧ Ints w w.heap.size A zs := by
  rcases h.2 with ⟨rfl, h0⟩ | ⟨g, cap, cur, rfl, hb, hg, hn, _, _, ht⟩
  · have : zs = [] := List.eq_nil_of_length_eq_zero h0
    subst this
    exact ⟨none, 0, rfl, .inl rfl⟩
  · refine ⟨_, cap, rfl, .inr ⟨g, 0, rfl, ?_, fun k hk => ?_⟩⟩
    · rcases Nat.lt_or_ge g w.heap.size with hlt | hge
      · exact hlt
      · rw [Array.getElem?_eq_none hge] at hg; cases hg
    · have h1 := World.ownsRow.cellAt h k (by omega)
      rw [Nat.zero_add, h1]
      simp [List.getD_eq_getElem?_getD, hk]
theorem own_block {w : World} {base : Nat} {e : TypeId} {size n : Nat} {v : Value} {xs : List Value} (h : w.ownsRow base e size v n xs) : ∀ k, v.ownBlock = some k → base ≤ k := by
  intro k hk
  rcases h.2 with ⟨rfl, _⟩ | ⟨g, cap, cur, rfl, hb, _⟩
  · simp [Value.ownBlock] at hk
  · simp [Value.ownBlock] at hk; omega
theorem one_new (w : World) (v : Value) (t : TypeId) : ∀ j u, [v][j]? = some u → (w.alloc (.cells #[v] t)).cell? ((⟨w.heap.size, 0, none⟩ : Addr).add j) = some u := by
  intro j u hj
  match j, hj with
  | 0, hj => simp at hj; subst hj; simp [Addr.add]
theorem vals_step {xs : List OutD} {k : Nat} {x : OutD} (h : xs[k]? = some x) : ((vals xs).take (k + 1)).map (Value.int .i64) = ((vals xs).take k).map (Value.int .i64) ++ [.int .i64 x.val] := by
  obtain ⟨hk, rfl⟩ := List.getElem?_eq_some_iff.1 h
  have hk' : k < (vals xs).length := by simpa [vals] using hk
  rw [List.take_succ_eq_append_getElem hk']
  simp [vals]

set_option maxHeartbeats 1000000 in
theorem rtotal_any (t : TxD) (vi vo : Value) (w : World) (lo hi : Nat) (ht : Outs w lo hi vo t.outs) (hhi : hi ≤ w.heap.size) (hl : t.outs.length ≤ 512) :
    Calls Tryz.prog 30 #[.agg #[.int .u32 t.ver, vi, vo, .int .u32 t.lock]] w fun e w' => e = .returned (.tuple #[.int .i64 (totalD t.outs).1, .int .i64 (totalD t.outs).2]) ∧ Below w.heap.size w w' := by
  obtain ⟨tv, ti, to, tl⟩ := t
  obtain ⟨A, c, rfl⟩ := ht.form
  simp only at ht hl ⊢
  obtain ⟨i0, hi0, hz0, hz1, hz2⟩ := info_parts info3
  obtain ⟨w0, hw0⟩ : ∃ w0, w0 = w.alloc (.cells #[.int .u32 tv, vi, .slice A to.length c, .int .u32 tl] 34) := ⟨_, rfl⟩
  have q1 : w0.cell? ⟨w.heap.size, 2, none⟩ = some (.slice A to.length c) := by rw [hw0]; simp
  have z0 : w0.heap.size = w.heap.size + 1 := by rw [hw0]; simp
  have bw0 : Below w.heap.size w w0 := by rw [hw0]; exact (Below.refl _ _).alloc (Nat.le_refl _) _
  have Q := Lib.hid q1
  have HT := Lib.hid ht
  have HW0 := Lib.hid hw0
  have Z0 := Lib.hid z0
  have BW0 := Lib.hid bw0
  clear ht hw0 z0 q1 bw0
  go_enter Tryz.func30, Tryz.ntmps30
  go_wp2_with fail
  go_loopg [4, 5] to.length (fun gg v s wr => GrowHead to w0 gg v s wr)
  case atStart => exact ⟨0, Nat.zero_le _, by omega, rfl, by simpa using World.ownsRow_nil _ _ 3 1, by rw [HW0.out]; exact Below.refl _ _⟩
  case round =>
    obtain ⟨k, hk, hg, rfl, hown, BW⟩ := hrel
    have hz : w.heap.size < wr.heap.size := by have := BW.size; have := Z0.out; omega
    have f1 := (BW.cell (p := ⟨w.heap.size, 2, none⟩) (by have := Z0.out; show w.heap.size < _; omega)).trans Q.out
    have BV := Lib.hid (below_next BW0.out (by have := Z0.out; omega) BW)
    have hs0 := BW.size
    have BW := Lib.hid BW
    have HOWN := Lib.hid hown
    clear hown
    by_cases hlt : k < to.length
    · have hltz : (k : Int) < (to.length : Int) := by omega
      have hd : decide (k < to.length) = true := decide_eq_true hlt
      obtain ⟨x, hxk⟩ : ∃ x, to[k]? = some x := ⟨_, List.getElem?_eq_getElem hlt⟩
      obtain ⟨b, off, rfl, h1, h2, c0, c1⟩ := (HT.out.keep (Kept.of_below BV.out hhi)).at hxk
      have HXK := Lib.hid hxk
      clear hxk
      go_wp2_with (at_builtin; refine wpList_append_own _ rfl _ _ 36 rfl w0.heap.size 3 i0 (.int .i64 0) 1 8 Tryz.underlying36 hi0 hz0 hz1 hz2 rfl (by decide) _ _ _ rfl (HOWN.out.alloc _) ⟨wr.heap.size, 0, none⟩ 1 1 [.int .i64 x.val] rfl rfl (one_new _ _ _) (by intro u hu; simp at hu; subst hu; rfl) (by unfold maxLen; omega) (by omega) (by simp; omega) ?_; intro v' w1 hown' hgrow _)
      have BN := Lib.hid ((BW.out.alloc hs0 (.cells #[.int .i64 x.val] 3)).grown hgrow (by simp; omega) (own_block HOWN.out))
      have OWN := Lib.hid hown'
      clear hown' hgrow
      go_roundg (to.length - (k + 1))
      case measure => omega
      case rel => exact ⟨k + 1, by omega, by omega, by go_num, by rw [vals_step HXK.out]; exact OWN.out, BN.out⟩
    · have hltz : ¬ (k : Int) < (to.length : Int) := by omega
      obtain rfl : k = to.length := by omega
      have hlen : (vals to).length = to.length := by simp [vals]
      obtain ⟨A', c', rfl, hin⟩ := own_ints (zs := vals to) (by rw [hlen]; have := HOWN.out; rw [← hlen, List.take_length] at this; rw [← hlen]; exact this)
      have hs := rsum_any A' c' wr.heap.size (vals to) wr hin (by rw [hlen]; unfold maxLen; omega)
      rw [hlen] at hs ⊢
      have HS := Lib.hid hs
      clear hs hlen hin
      go_wp2_with fail
      refine HS.out.mono ?_
      rintro e w' ⟨rfl, rfl⟩
      go_wp2_with fail
      go_ret2
      exact ⟨rfl, BV.out⟩

end Go.Proofs.YtjclklppnkoehaaGreatDoor
