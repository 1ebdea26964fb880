/-
  Slices of numbers that the call itself makes; a length cut off; the builtin min.
-/
import Derived.Test.YtndjbobgccpdfaaSum
import Derived.OwnWalk
namespace Go.Proofs.Ytndjbobgccpdfaa
open Go.RowKit

/-- A length, but at most c. -/
def cutN (c n : Nat) : Nat := if n < c then n else c
theorem cutN_le (c n : Nat) : cutN c n ≤ c ∧ cutN c n ≤ n := by unfold cutN; split <;> omega
theorem run_min_at (w : World) (c : Nat) (ts : Array TypeId) (t : TypeId) (x : Nat) : (Builtin.min_ ts t #[.int .i64 (x : Int), .int .i64 (c : Int)]).run Try.prog w = .ok (.int .i64 (cutN c x : Nat)) w := by
  rw [run_min_int2 w ts t .i64 .i64 x c]
  unfold cutN
  by_cases h : x < c
  · rw [if_pos h, if_neg (by omega)]
  · rw [if_neg h]
    by_cases h2 : x = c
    · subst h2; simp
    · rw [if_pos (by omega)]
theorem run_min50 (w : World) (ts : Array TypeId) (t : TypeId) (x : Nat) : (Builtin.min_ ts t #[.int .i64 (x : Int), .int .i64 50]).run Try.prog w = .ok (.int .i64 (cutN 50 x : Nat)) w := run_min_at w 50 ts t x
theorem run_min30 (w : World) (ts : Array TypeId) (t : TypeId) (x : Nat) : (Builtin.min_ ts t #[.int .i64 (x : Int), .int .i64 30]).run Try.prog w = .ok (.int .i64 (cutN 30 x : Nat)) w := run_min_at w 30 ts t x

theorem info3 : (Try.prog.info? 3).map (fun i => (i.zero, i.size, i.bytes)) = some (some (.int .i64 0), 1, 8) := by kernel_rfl

/-- The value v is a slice of the call's own, of the numbers zs. -/
def Own (w : World) (base : Nat) (v : Value) (zs : List Int) : Prop := w.ownsRow base 3 1 v zs.length (zs.map (Value.int .i64))

theorem Own.nil (w : World) (base : Nat) : Own w base (.slice none 0 0) [] := World.ownsRow_nil w base 3 1
theorem Own.push {w : World} {base : Nat} {v : Value} {zs : List Int} {x : Int} (h : w.ownsRow base 3 1 v (zs.length + 1) (zs.map (Value.int .i64) ++ [.int .i64 x])) : Own w base v (zs ++ [x]) := by
  unfold Own
  simpa using h
theorem Own.ints {w : World} {base : Nat} {v : Value} {zs : List Int} (h : Own w base v zs) : ∃ A c, v = .slice A zs.length c ∧ zs.length ≤ c ∧ Ints w w.heap.size A zs := by
  rcases h.2 with ⟨rfl, h0⟩ | ⟨g, cap, cur, rfl, hb, hg, hn, _, _, ht⟩
  · have : zs = [] := List.eq_nil_of_length_eq_zero h0
    subst this
    exact ⟨none, 0, rfl, by simp, .inl rfl⟩
  · refine ⟨_, cap, rfl, hn, .inr ⟨g, 0, rfl, ?_, fun k hk => ?_⟩⟩
    · rcases Nat.lt_or_ge g w.heap.size with hlt | hge
      · exact hlt
      · rw [Array.getElem?_eq_none hge] at hg; cases hg
    · have h1 := World.ownsRow.cellAt h k (by omega)
      rw [Nat.zero_add, h1]
      simp [List.getD_eq_getElem?_getD, hk]
theorem Own.row {w : World} {base : Nat} {v : Value} {zs : List Int} (h : Own w base v zs) : ∀ k, v.ownBlock = some k → base ≤ k := by
  intro k hk
  rcases h.2 with ⟨rfl, _⟩ | ⟨g, cap, cur, rfl, hb, _⟩
  · simp [Value.ownBlock] at hk
  · simp [Value.ownBlock] at hk; omega

/-- A counter and a slice that grows, as a loop's head has them. -/
def NearHead (w : World) (m : Nat) (v i : Value) (wr : World) : Prop := ∃ (k : Nat) (xs : List Int), k ≤ m ∧ i = .int .i64 k ∧ xs.length = k ∧ Own wr w.heap.size v xs ∧ Below w.heap.size w wr

/-- A cell that holds one value. -/
theorem one_new (w : World) (v : Value) (t : TypeId) : ∀ j u, [v][j]? = some u → (w.alloc (.cells #[v] t)).cell? ((⟨w.heap.size, 0, none⟩ : Addr).add j) = some u := by
  intro j u hj
  match j, hj with
  | 0, hj => simp at hj; subst hj; simp [Addr.add]

theorem below_drewN {B : Nat} {a w : World} (h : Below B a w) (n : Nat) : Below B a (w.drewN n) := ⟨h.os, h.tape, h.output, h.size, h.block⟩

theorem sum_two (x y : Int) : sumFrom 0 [x, y] = (addV x y, addE x y) := by
  have e1 : addOk 0 x = goodB x := by
    unfold addOk
    rw [Int.zero_add]
    cases goodB x <;> simp [goodB, inB]
  show (if addOk 0 x = true then (if addOk (0 + x) y = true then (0 + x + y, 0) else (0, 3)) else (0, 3)) = _
  rw [e1, Int.zero_add]
  cases hx : goodB x
  · have : addOk x y = false := by simp [addOk, hx]
    rw [addV_no this, addE_no this]; rfl
  · cases h : addOk x y
    · rw [addV_no h, addE_no h]; rfl
    · rw [addV_yes h, addE_yes h]; rfl

theorem Ints.pair {w : World} {B g : Nat} {x y : Int} (hg : g < B) (h0 : w.cell? ⟨g, 0, none⟩ = some (.int .i64 x)) (h1 : w.cell? ⟨g, 1, none⟩ = some (.int .i64 y)) : Ints w B (some ⟨g, 0, none⟩) [x, y] :=
  .inr ⟨g, 0, rfl, hg, fun k hk => by
    match k, hk with
    | 0, _ => exact h0
    | 1, _ => exact h1⟩

/-- A call that leaves the world as it is, in a region that draws, behind other draws. -/
theorem quiet_more {P : Program} {f : FuncId} {args : Array Value} {w : World} {a n : Nat} {v : Value}
    (h : Calls P f args (w.drewN (a + n)) fun e w' => e = .returned v ∧ w.drewN (a + n) = w') : Calls P f args (w.drewN (a + n)) fun e w'' => e = .returned v ∧ ∃ m, w'' = w.drewN (a + m) :=
  h.mono fun _ _ g => ⟨g.1, n, g.2.symm⟩
theorem quiet_once {P : Program} {f : FuncId} {args : Array Value} {w : World} {n : Nat} {v : Value}
    (h : Calls P f args (w.drewN n) fun e w' => e = .returned v ∧ w.drewN n = w') : Calls P f args (w.drewN n) fun e w'' => e = .returned v ∧ ∃ m, w'' = w.drewN m :=
  h.mono fun _ _ g => ⟨g.1, n, g.2.symm⟩

end Go.Proofs.Ytndjbobgccpdfaa
