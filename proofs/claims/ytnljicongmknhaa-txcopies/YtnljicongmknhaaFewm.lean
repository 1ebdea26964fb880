/-
  Fewer parts may be where all may be; one more input that is there already may not.
-/
import Derived.Test.YtnljicongmknhaaRcheck
import Derived.Test.YtnljicongmknhaaTell
namespace Go.Proofs.Ytnljicongmknhaa
open Go.RowKit

theorem checkD_zero {t : TxD} (h : checkD t = 0) : countsB t = true ∧ longB t = false ∧ pointsB t.ins = true ∧ twiceB t.ins = false ∧ (totalD t.outs).2 = 0 := by
  unfold checkD at h
  cases h1 : countsB t
  · rw [if_pos h1] at h; omega
  · rw [if_neg (by simp [h1])] at h
    cases h2 : longB t
    · rw [if_neg (by simp [h2])] at h
      cases h3 : pointsB t.ins
      · rw [if_pos h3] at h; omega
      · rw [if_neg (by simp [h3])] at h
        cases h4 : twiceB t.ins
        · rw [if_neg (by simp [h4])] at h
          exact ⟨rfl, rfl, rfl, rfl, h⟩
        · rw [if_pos h4] at h; omega
    · rw [if_pos h2] at h; omega
theorem any_take {α : Type} {p : α → Bool} {xs : List α} {n : Nat} (h : xs.any p = false) : (xs.take n).any p = false := by
  rw [List.any_eq_false] at h ⊢
  exact fun x hx => h x (List.mem_of_mem_take hx)
theorem no_pair {xs : List InD} (h : twiceB xs = false) (i k : Nat) (x y : InD) (hki : k < i) (hx : xs[i]? = some x) (hy : xs[k]? = some y) : ptB x.id x.ix y.id y.ix = false := by
  rw [Bool.eq_false_iff]
  intro hp
  rw [twice_yes hki hx hy hp] at h
  cases h
theorem twice_take {xs : List InD} (h : twiceB xs = false) (n : Nat) : twiceB (xs.take n) = false := by
  refine twice_no fun i k x y hki hx hy => ?_
  refine no_pair h i k x y hki ?_ ?_
  · rw [List.getElem?_take] at hx; split at hx <;> first | exact hx | cases hx
  · rw [List.getElem?_take] at hy; split at hy <;> first | exact hy | cases hy
theorem amiss_mono {al al' : Bool} {a : ByteArray} {i : Int} (h : amissB al a i = false) (hal : al = true → al' = true) : amissB al' a i = false := by
  unfold amissB at h ⊢
  cases al <;> cases al' <;> simp_all
theorem points_take {xs : List InD} (h : pointsB xs = true) {n : Nat} (hn : 1 ≤ n) : pointsB (xs.take n) = true := by
  unfold pointsB at h ⊢
  simp only [Bool.not_eq_true'] at h ⊢
  rw [List.any_eq_false] at h ⊢
  intro x hx
  have h1 := h x (List.mem_of_mem_take hx)
  rw [Bool.not_eq_true] at h1 ⊢
  refine amiss_mono h1 (fun he => ?_)
  simp at he ⊢
  omega
theorem addOk_nonneg {s a : Int} (h : addOk s a = true) : 0 ≤ a := by
  by_cases hg : 0 ≤ a ∧ a ≤ 2100000000000000
  · exact hg.1
  · unfold addOk at h
    rw [goodB_false hg] at h
    simp at h
theorem sum_take (s : Int) (zs : List Int) (n : Nat) (h : (sumFrom s zs).2 = 0) : (sumFrom s (zs.take n)).2 = 0 ∧ (sumFrom s (zs.take n)).1 ≤ (sumFrom s zs).1 ∧ s ≤ (sumFrom s zs).1 := by
  induction zs generalizing s n with
  | nil => simp [sumFrom]
  | cons a r ih =>
    cases hok : addOk s a
    · simp [sumFrom, hok] at h
    · simp only [sumFrom, hok, if_true] at h ⊢
      have ha := addOk_nonneg hok
      have h0 := ih (s + a) 0 h
      cases n with
      | zero =>
        simp [sumFrom] at h0 ⊢
        omega
      | succ n =>
        have h1 := ih (s + a) n h
        simp only [List.take_succ_cons, sumFrom, hok, if_true]
        exact ⟨h1.1, h1.2.1, by omega⟩
theorem total_take {ys : List OutD} (h : (totalD ys).2 = 0) (n : Nat) : (totalD (ys.take n)).2 = 0 ∧ (totalD (ys.take n)).1 ≤ (totalD ys).1 := by
  unfold totalD vals at h ⊢
  rw [List.map_take]
  have := sum_take 0 _ n h
  exact ⟨this.1, this.2.1⟩

theorem countsB_parts {t : TxD} (h : countsB t = true) : (1 ≤ t.ins.length ∧ t.ins.length ≤ 256) ∧ (1 ≤ t.outs.length ∧ t.outs.length ≤ 256) ∧ (t.ins.any fun x => manyB x.wit.length) = false := by
  unfold countsB inR at h
  simp only [Bool.and_eq_true, decide_eq_true_eq, Bool.not_eq_true'] at h
  exact ⟨by omega, by omega, h.2⟩
theorem countsB_of {t : TxD} (h1 : 1 ≤ t.ins.length ∧ t.ins.length ≤ 256) (h2 : 1 ≤ t.outs.length ∧ t.outs.length ≤ 256) (h3 : (t.ins.any fun x => manyB x.wit.length) = false) : countsB t = true := by
  unfold countsB
  rw [inR_yes h1.1 h1.2, inR_yes h2.1 h2.2, h3]
  rfl
theorem longB_parts {t : TxD} (h : longB t = false) : (t.outs.any fun o => decide (40 < o.scr.size)) = false ∧ (t.ins.any fun x => x.wit.any fun s => decide (80 < s.size)) = false := by
  unfold longB at h
  rw [Bool.or_eq_false_iff] at h
  exact h

/-- Each part of the Ins and Outs, from the first one on, may be. -/
theorem check_take {t : TxD} (h : checkD t = 0) {p q : Nat} (hp : 1 ≤ p) (hp' : p ≤ t.ins.length) (hq : 1 ≤ q) (hq' : q ≤ t.outs.length) : checkD ⟨t.ver, t.ins.take p, t.outs.take q, t.lock⟩ = 0 := by
  obtain ⟨c, l, pt, tw, tt⟩ := checkD_zero h
  obtain ⟨c1, c2, c3⟩ := countsB_parts c
  obtain ⟨l1, l2⟩ := longB_parts l
  have e1 : countsB ⟨t.ver, t.ins.take p, t.outs.take q, t.lock⟩ = true := countsB_of (by simp; omega) (by simp; omega) (any_take c3)
  have e2 : longB ⟨t.ver, t.ins.take p, t.outs.take q, t.lock⟩ = false := by unfold longB; simp only; rw [any_take l1, any_take l2]; rfl
  rw [checkD_range e1 e2 (points_take pt hp) (twice_take tw p)]
  exact (total_take tt q).1

/-- With an input twice it may not be. -/
theorem check_more {t : TxD} (h : checkD t = 0) (hl : t.ins.length < 256) {j : Nat} {x : InD} (hx : t.ins[j]? = some x) :
    checkD ⟨t.ver, t.ins ++ [x], t.outs, t.lock⟩ = 7 ∨ (checkD ⟨t.ver, t.ins ++ [x], t.outs, t.lock⟩ = 4 ∧ isBase t.ins = true) := by
  obtain ⟨c, l, pt, tw, tt⟩ := checkD_zero h
  obtain ⟨c1, c2, c3⟩ := countsB_parts c
  obtain ⟨l1, l2⟩ := longB_parts l
  have hj := (List.getElem?_eq_some_iff.1 hx).1
  have hm := List.mem_of_getElem? hx
  have m3 : manyB x.wit.length = false := by rw [List.any_eq_false] at c3; simpa using c3 x hm
  have m2 : (x.wit.any fun s => decide (80 < s.size)) = false := by rw [List.any_eq_false] at l2; simpa using l2 x hm
  have e1 : countsB ⟨t.ver, t.ins ++ [x], t.outs, t.lock⟩ = true := countsB_of (by simp; omega) c2 (by simp only [List.any_append, List.any_cons, List.any_nil, c3, m3]; rfl)
  have e2 : longB ⟨t.ver, t.ins ++ [x], t.outs, t.lock⟩ = false := by unfold longB; simp only [List.any_append, List.any_cons, List.any_nil, l1, l2, m2]; rfl
  have e4 : twiceB (t.ins ++ [x]) = true := twice_yes (i := t.ins.length) (k := j) (x := x) (y := x) hj (by simp) (by rw [List.getElem?_append_left hj]; exact hx) ((ptB_iff _ _ _ _).2 ⟨rfl, rfl⟩)
  cases e3 : pointsB (t.ins ++ [x])
  · right
    refine ⟨checkD_form e1 e2 e3, ?_⟩
    by_cases h1 : t.ins.length = 1
    · obtain ⟨y, hy⟩ := List.length_eq_one_iff.1 h1
      rw [hy] at hx e3 pt ⊢
      obtain rfl : j = 0 := by rw [h1] at hj; omega
      simp at hx
      subst hx
      unfold pointsB at e3 pt
      simp [amissB] at e3 pt
      show baseB y.id y.ix = true
      by_cases hb : baseB y.id y.ix = true
      · exact hb
      · simp_all
    · exfalso
      unfold pointsB at e3 pt
      simp only [Bool.not_eq_false', Bool.not_eq_true'] at e3 pt
      obtain ⟨y, hy, hb⟩ := List.any_eq_true.1 e3
      have hy' : y ∈ t.ins := by
        rw [List.mem_append] at hy
        rcases hy with hy | hy
        · exact hy
        · rw [List.mem_singleton] at hy; rw [hy]; exact hm
      rw [List.any_eq_false] at pt
      have h2 := pt y hy'
      rw [Bool.not_eq_true] at h2
      rw [amiss_mono h2 (fun he => absurd (by simpa using he) h1)] at hb
      cases hb
  · left
    exact checkD_twice e1 e2 e3 e4

end Go.Proofs.Ytnljicongmknhaa
