/-
  Entries held against one another; a list put into a set from its end.
-/
import Derived.Test.YtdchbeomlfancaaEqs
import Derived.Test.YtdchbeomlfancaaPut
namespace Go.Proofs.Ytdchbeomlfancaa
open Go.RowKit

theorem equalIn_pt (d : Nat) (w : World) (a : ByteArray) (i : Int) (b : ByteArray) (j : Int) :
    (Op.equalIn (d + 1 + 1) 28 (.agg #[.string a, .int .u32 i]) (.agg #[.string b, .int .u32 j])).run Try.prog w = .ok (ptB a i b j) w := by
  have u9 := Try.underlying9
  have u22 := Try.underlying26
  have a9 := Try.isAgg9
  have z9 := Try.sizeOf9
  have a22 := Try.isAgg26
  have z22 := Try.sizeOf26
  have hS : Try.prog.underlying 28 = some (.struct (Try.prog.fieldsOf 28)) := by kernel_rfl
  have hp : Try.prog.stoodInHeld 28 = false := by kernel_rfl
  rw [run_equalIn_agg w (d + 1) 28 _ _ hS hp]
  simp only [Program.fieldsOf, Try.underlying28]
  go_simp
  unfold ptB
  by_cases h1 : a.toList = b.toList <;> by_cases h2 : i = j <;> simp [h1, h2]

theorem equalIn_co (d : Nat) (w : World) (v : Int) (s : ByteArray) (t : Int) (v' : Int) (s' : ByteArray) (t' : Int) :
    (Op.equalIn (d + 1 + 1 + 1) 35 (.agg #[.int .i64 v, .string s, .int .i64 t]) (.agg #[.int .i64 v', .string s', .int .i64 t'])).run Try.prog w = .ok (coB v s t v' s' t') w := by
  have u9 := Try.underlying9
  have u3 := Try.underlying3
  have a9 := Try.isAgg9
  have z9 := Try.sizeOf9
  have a3 := Try.isAgg3
  have z3 := Try.sizeOf3
  have a33 := Try.isAgg33
  have z33 := Try.sizeOf33
  have hS : Try.prog.underlying 35 = some (.struct (Try.prog.fieldsOf 35)) := by kernel_rfl
  have hp : Try.prog.stoodInHeld 35 = false := by kernel_rfl
  have hS' : Try.prog.underlying 33 = some (.struct (Try.prog.fieldsOf 33)) := by kernel_rfl
  have hp' : Try.prog.stoodInHeld 33 = false := by kernel_rfl
  have hE : ∀ W : World, (Op.equalIn (d + 1 + 1) 33 (.agg #[.int .i64 v, .string s]) (.agg #[.int .i64 v', .string s'])).run Try.prog W = .ok ((v == v') && (s.toList == s'.toList)) W := fun W => by
    rw [run_equalIn_agg W (d + 1) 33 _ _ hS' hp']
    simp only [Program.fieldsOf, Try.underlying33]
    go_simp
    by_cases h1 : v = v' <;> by_cases h2 : s.toList = s'.toList <;> simp [h1, h2]
  rw [run_equalIn_agg w (d + 1 + 1) 35 _ _ hS hp]
  simp only [Program.fieldsOf, Try.underlying35]
  go_simp
  unfold coB
  by_cases h1 : v = v' <;> by_cases h2 : s.toList = s'.toList <;> by_cases h3 : t = t' <;> simp [h1, h2, h3]

theorem run_neq_en (w : World) (a : ByteArray) (i v : Int) (s : ByteArray) (t : Int) (a' : ByteArray) (i' v' : Int) (s' : ByteArray) (t' : Int) :
    (binOp .neq 55 (.agg #[.string a, .int .u32 i, .int .i64 v, .string s, .int .i64 t]) (.agg #[.string a', .int .u32 i', .int .i64 v', .string s', .int .i64 t'])).run Try.prog w = .ok (.bool !(ptB a i a' i' && coB v s t v' s' t')) w := by
  have a28 := Try.isAgg28
  have z28 := Try.sizeOf28
  have a35 := Try.isAgg35
  have z35 := Try.sizeOf35
  have hS : Try.prog.underlying 55 = some (.struct (Try.prog.fieldsOf 55)) := by kernel_rfl
  have hp : Try.prog.stoodInHeld 55 = false := by kernel_rfl
  have h1 := fun W => equalIn_pt 9997 W a i a' i'
  have h2 := fun W => equalIn_co 9996 W v s t v' s' t'
  rw [run_neq_struct, show (10000 : Nat) = 9999 + 1 from rfl, run_equalIn_agg w 9999 55 _ _ hS hp]
  simp only [Program.fieldsOf, Try.underlying55]
  go_simp
  cases ptB a i a' i' <;> cases coB v s t v' s' t' <;> simp
theorem en_guard (op : BinOp) (x y : Operand) (a : Array Value) (b : Array Value) (w : World) : (eqGuard op 55 x y (.agg a) (.agg b)).run Try.prog w = .ok () w := run_eqGuard_agg w op 55 x y a b (by kernel_rfl)

/-- Beside a set, another one. -/
theorem SetIs.aside {w w' : World} {a b a' b' : Nat} {l : List EnD} (h : SetIs w a b l) (hk : But2 a' b' w w') (h1 : a ≠ a') (h2 : a ≠ b') (h3 : b ≠ a') (h4 : b ≠ b') : SetIs w' a b l := h.keep (hk.block a h.lta h1 h2) (hk.block b h.ltb h3 h4)

theorem arg_put {l : List EnD} (h : ∀ x ∈ l, argB x = true) (x : EnD) : ∀ y ∈ putL l x, argB y = true := by
  intro y hy
  unfold putL at hy
  split at hy
  · rename_i h0
    rcases List.mem_cons.1 ((insR_perm x l).mem_iff.1 hy) with rfl | hy
    · exact (put_zero h0).1
    · exact h y hy
  · exact h y hy

/-- The last ones of a list, and the one ahead of them. -/
theorem put_back {l : List EnD} (hg : Good l) (ha : ∀ x ∈ l, argB x = true) {i : Nat} {x : EnD} (hx : l[i]? = some x) : putL (l.drop (i + 1)) x = l.drop i := by
  obtain ⟨hlt, hxe⟩ := List.getElem?_eq_some_iff.1 hx
  have hd : l.drop i = x :: l.drop (i + 1) := by rw [List.drop_eq_getElem_cons hlt, hxe]
  have hs : Srt (x :: l.drop (i + 1)) := by rw [← hd]; exact List.Pairwise.sublist (List.drop_sublist i l) hg.srt
  obtain ⟨s1, s2⟩ := List.pairwise_cons.1 hs
  have hmem : x ∈ l := List.mem_of_getElem? hx
  have hn : hasB (l.drop (i + 1)) x.id x.ix = false := by
    rw [Bool.eq_false_iff]
    intro h
    obtain ⟨y, hy, e1, e2⟩ := hasB_iff.1 h
    have h1 := s1 y hy
    rw [same_lt (x := x) (y := y) (ptB_iff.2 ⟨e1.symm, e2.symm⟩)] at h1
    cases h1
  have ht : goodB (tot (l.drop (i + 1)) + x.val) = true := by
    have h1 : tot l = tot (l.take i) + tot (l.drop i) := by rw [← tot_append, List.take_append_drop]
    rw [hd, tot_cons] at h1
    have h2 := (tot_take hg.pos i).1
    have h3 := hg.most
    have h4 := hg.pos x hmem
    have h5 := tot_pos (l := l.drop (i + 1)) fun y hy => hg.pos y (List.mem_of_mem_drop hy)
    exact goodB_iff.2 ⟨by omega, by omega⟩
  obtain ⟨_, h2⟩ := put_yes (ha x hmem) hn ht
  rw [h2, hd]
  cases hc : l.drop (i + 1) with
  | nil => rfl
  | cons y r =>
    unfold insR
    rw [if_pos (s1 y (by rw [hc]; simp))]

end Go.Proofs.Ytdchbeomlfancaa
