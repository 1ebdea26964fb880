/-
  What the fee of a transaction over coins is, as a plain function (P11.1).
-/
import Derived.Test.YtjclklppnkoehaaGreatDoorRip
import Derived.Test.YtjclklppnkoehaaGreatDoorCut
import Derived.Test.YtjclklppnkoehaaGreatDoorTake
namespace Go.Proofs.YtjclklppnkoehaaGreatDoor
open Go.RowKit

/-- What is wrong with an In: an error's number; 0: nothing is. -/
def spE (l : List Co.EnD) (t : TxD) (h : Int) (x : InD) : Int :=
  if Co.hasB l x.id x.ix = false then 8
  else if opX (Co.atE l x.id x.ix).scr t x ≠ 0 then opX (Co.atE l x.id x.ix).scr t x
  else if (htB (Co.atE l x.id x.ix).ht && htB h && rpX t x (Co.atE l x.id x.ix).ht h) = false then 10 else 0
/-- The Value of the coin that an In spends. -/
def spV (l : List Co.EnD) (x : InD) : Int := (Co.atE l x.id x.ix).val
/-- What an In adds to what is spent: 0, if it is wrong. -/
def spA (l : List Co.EnD) (t : TxD) (h : Int) (x : InD) : Int := if spE l t h x = 0 then spV l x else 0
theorem spA_ok {l : List Co.EnD} {t : TxD} {h : Int} {x : InD} (he : spE l t h x = 0) : spA l t h x = spV l x := if_pos he
theorem spA_no {l : List Co.EnD} {t : TxD} {h : Int} {x : InD} (he : spE l t h x ≠ 0) : spA l t h x = 0 := if_neg he
def sumV (l : List Co.EnD) (xs : List InD) : Int := (xs.map (spV l)).sum
/-- The place of the first In that is wrong; -1: there is none. -/
def badI (l : List Co.EnD) (t : TxD) (h : Int) : Int := idxOf (fun x => spE l t h x != 0) t.ins
/-- A fee, an error's number, a place. -/
structure Ans where
  fee : Int
  code : Int
  at_ : Int
/-- P11.1, where there is a view. -/
def feA (l : List Co.EnD) (t : TxD) (h : Int) : Ans :=
  if checkD t ≠ 0 then ⟨0, checkD t, -1⟩
  else if isBase t.ins = true then ⟨0, 4, -1⟩
  else if 0 ≤ badI l t h then ⟨0, ((t.ins[(badI l t h).toNat]?).map (spE l t h)).getD 0, badI l t h⟩
  else if goodB (sumV l t.ins) = false then ⟨0, 3, -1⟩
  else if sumV l t.ins < (totalD t.outs).1 then ⟨0, 12, -1⟩
  else ⟨sumV l t.ins - (totalD t.outs).1, 0, -1⟩

theorem spE_none {l : List Co.EnD} {t : TxD} {h : Int} {x : InD} (h0 : Co.hasB l x.id x.ix = false) : spE l t h x = 8 := by simp [spE, h0]
theorem spE_open {l : List Co.EnD} {t : TxD} {h : Int} {x : InD} (h0 : Co.hasB l x.id x.ix = true) (h1 : opX (Co.atE l x.id x.ix).scr t x ≠ 0) : spE l t h x = opX (Co.atE l x.id x.ix).scr t x := by simp [spE, h0, h1]
theorem spE_ripe {l : List Co.EnD} {t : TxD} {h : Int} {x : InD} (h0 : Co.hasB l x.id x.ix = true) (h1 : opX (Co.atE l x.id x.ix).scr t x = 0) :
    spE l t h x = if (htB (Co.atE l x.id x.ix).ht && htB h && rpX t x (Co.atE l x.id x.ix).ht h) = false then 10 else 0 := by simp [spE, h0, h1]
theorem spE_ok {l : List Co.EnD} {t : TxD} {h : Int} {x : InD} (he : spE l t h x = 0) :
    Co.hasB l x.id x.ix = true ∧ opX (Co.atE l x.id x.ix).scr t x = 0 ∧ (htB (Co.atE l x.id x.ix).ht && htB h && rpX t x (Co.atE l x.id x.ix).ht h) = true := by
  cases h0 : Co.hasB l x.id x.ix with
  | false => rw [spE_none h0] at he; omega
  | true =>
    by_cases h1 : opX (Co.atE l x.id x.ix).scr t x = 0
    · rw [spE_ripe h0 h1] at he
      cases h2 : (htB (Co.atE l x.id x.ix).ht && htB h && rpX t x (Co.atE l x.id x.ix).ht h) with
      | false => rw [h2] at he; simp at he
      | true => exact ⟨rfl, h1, rfl⟩
    · rw [spE_open h0 h1] at he
      exact absurd he h1
/-- Nothing is wrong with the Ins ahead of k. -/
def OkTo (l : List Co.EnD) (t : TxD) (h : Int) (k : Nat) : Prop := ∀ (j : Nat) (y : InD), j < k → t.ins[j]? = some y → spE l t h y = 0
theorem OkTo.zero (l : List Co.EnD) (t : TxD) (h : Int) : OkTo l t h 0 := fun _ _ h => absurd h (Nat.not_lt_zero _)
theorem OkTo.step {l : List Co.EnD} {t : TxD} {h : Int} {k : Nat} {x : InD} (ho : OkTo l t h k) (hx : t.ins[k]? = some x) (he : spE l t h x = 0) : OkTo l t h (k + 1) := by
  intro j y hj hy
  by_cases hjk : j = k
  · subst hjk; rw [hx] at hy; injection hy with hy; rw [← hy]; exact he
  · exact ho j y (by omega) hy
theorem bad_at {l : List Co.EnD} {t : TxD} {h : Int} {k : Nat} {x : InD} (ho : OkTo l t h k) (hx : t.ins[k]? = some x) (he : spE l t h x ≠ 0) : badI l t h = k :=
  idxOf_hit hx (by simp [he]) fun j y hj hy => by simp [ho j y hj hy]
theorem bad_none {l : List Co.EnD} {t : TxD} {h : Int} (ho : OkTo l t h t.ins.length) : badI l t h = -1 :=
  idxOf_miss fun j y hy => by simp [ho j y (List.getElem?_eq_some_iff.1 hy).1 hy]
theorem ok_or {l : List Co.EnD} {t : TxD} {h : Int} : OkTo l t h t.ins.length ∨ ∃ (k : Nat) (x : InD), t.ins[k]? = some x ∧ OkTo l t h k ∧ spE l t h x ≠ 0 := by
  suffices H : ∀ n, n ≤ t.ins.length → OkTo l t h n ∨ ∃ (k : Nat) (x : InD), t.ins[k]? = some x ∧ OkTo l t h k ∧ spE l t h x ≠ 0 from H _ (Nat.le_refl _)
  intro n
  induction n with
  | zero => exact fun _ => .inl (OkTo.zero _ _ _)
  | succ n ih =>
    intro hn
    rcases ih (by omega) with h1 | h1
    · have hx : t.ins[n]? = some t.ins[n] := List.getElem?_eq_getElem _
      by_cases he : spE l t h t.ins[n] = 0
      · exact .inl (h1.step hx he)
      · exact .inr ⟨n, _, hx, h1, he⟩
    · exact .inr h1

theorem fe_check {l : List Co.EnD} {t : TxD} {h : Int} (h1 : checkD t ≠ 0) : feA l t h = ⟨0, checkD t, -1⟩ := by simp [feA, h1]
theorem fe_base {l : List Co.EnD} {t : TxD} {h : Int} (h1 : checkD t = 0) (h2 : isBase t.ins = true) : feA l t h = ⟨0, 4, -1⟩ := by simp [feA, h1, h2]
theorem fe_bad {l : List Co.EnD} {t : TxD} {h : Int} {k : Nat} {x : InD} (h1 : checkD t = 0) (h2 : isBase t.ins = false) (ho : OkTo l t h k) (hx : t.ins[k]? = some x) (he : spE l t h x ≠ 0) :
    feA l t h = ⟨0, spE l t h x, k⟩ := by
  have hb := bad_at ho hx he
  unfold feA
  rw [if_neg (by simp [h1]), if_neg (by simp [h2]), hb, if_pos (by omega), Int.toNat_natCast, hx]
  rfl
theorem fe_range {l : List Co.EnD} {t : TxD} {h : Int} (h1 : checkD t = 0) (h2 : isBase t.ins = false) (ho : OkTo l t h t.ins.length) (h3 : goodB (sumV l t.ins) = false) : feA l t h = ⟨0, 3, -1⟩ := by
  unfold feA
  rw [if_neg (by simp [h1]), if_neg (by simp [h2]), bad_none ho, if_neg (by omega), if_pos h3]
theorem fe_value {l : List Co.EnD} {t : TxD} {h : Int} (h1 : checkD t = 0) (h2 : isBase t.ins = false) (ho : OkTo l t h t.ins.length) (h3 : goodB (sumV l t.ins) = true) (h4 : sumV l t.ins < (totalD t.outs).1) : feA l t h = ⟨0, 12, -1⟩ := by
  unfold feA
  rw [if_neg (by simp [h1]), if_neg (by simp [h2]), bad_none ho, if_neg (by omega), if_neg (by simp [h3]), if_pos h4]
theorem fe_ok {l : List Co.EnD} {t : TxD} {h : Int} (h1 : checkD t = 0) (h2 : isBase t.ins = false) (ho : OkTo l t h t.ins.length) (h3 : goodB (sumV l t.ins) = true) (h4 : ¬ sumV l t.ins < (totalD t.outs).1) :
    feA l t h = ⟨sumV l t.ins - (totalD t.outs).1, 0, -1⟩ := by
  unfold feA
  rw [if_neg (by simp [h1]), if_neg (by simp [h2]), bad_none ho, if_neg (by omega), if_neg (by simp [h3]), if_neg h4]
/-- What has a fee. -/
theorem fe_has {l : List Co.EnD} {t : TxD} {h : Int} (he : (feA l t h).code = 0) :
    checkD t = 0 ∧ isBase t.ins = false ∧ OkTo l t h t.ins.length ∧ goodB (sumV l t.ins) = true ∧ ¬ sumV l t.ins < (totalD t.outs).1 ∧ feA l t h = ⟨sumV l t.ins - (totalD t.outs).1, 0, -1⟩ := by
  by_cases h1 : checkD t = 0
  · cases h2 : isBase t.ins with
    | true => rw [fe_base h1 h2] at he; simp at he
    | false =>
      rcases ok_or (l := l) (t := t) (h := h) with ho | ⟨k, x, hx, ho, hs⟩
      · cases h3 : goodB (sumV l t.ins) with
        | false => rw [fe_range h1 h2 ho h3] at he; simp at he
        | true =>
          by_cases h4 : sumV l t.ins < (totalD t.outs).1
          · rw [fe_value h1 h2 ho h3 h4] at he; simp at he
          · exact ⟨h1, rfl, ho, rfl, h4, fe_ok h1 h2 ho h3 h4⟩
      · rw [fe_bad h1 h2 ho hx hs] at he; exact absurd he hs
  · rw [fe_check h1] at he; exact absurd he h1

theorem sumV_step {l : List Co.EnD} {xs : List InD} {k : Nat} {x : InD} (hx : xs[k]? = some x) : sumV l (xs.take (k + 1)) = sumV l (xs.take k) + spV l x := by
  unfold sumV
  rw [take_snoc_map (spV l) hx, List.sum_append]
  simp
theorem spV_bd {l : List Co.EnD} (hg : Co.Good l) (x : InD) : 0 ≤ spV l x ∧ spV l x ≤ 2100000000000000 := by
  unfold spV
  cases hh : Co.hasB l x.id x.ix with
  | false => rw [Co.atE_none hh]; decide
  | true =>
    obtain ⟨hm, _⟩ := Co.atE_mem hh
    have h1 := hg.pos _ hm
    obtain ⟨i, hi, e⟩ := List.mem_iff_getElem.1 hm
    have h2 := Co.tot_take hg.pos (i + 1)
    have h3 := Co.tot_take hg.pos i
    have h4 : Co.tot (l.take (i + 1)) = Co.tot (l.take i) + l[i].val := by
      rw [List.take_succ_eq_append_getElem hi, Co.tot_append, Co.tot_cons, Co.tot_nil]; omega
    have := hg.most
    rw [← e] at h1 ⊢
    omega
theorem sumV_bd {l : List Co.EnD} (hg : Co.Good l) : ∀ (xs : List InD), 0 ≤ sumV l xs ∧ sumV l xs ≤ xs.length * 2100000000000000
  | [] => by simp [sumV]
  | x :: r => by
    have h1 := sumV_bd hg r
    have h2 := spV_bd hg x
    have : sumV l (x :: r) = spV l x + sumV l r := by simp [sumV]
    rw [this, show (((x :: r).length : Nat) : Int) = (r.length : Int) + 1 from by simp]
    omega

/-- What a transaction pays is 0, or an amount. -/
theorem sumFrom_fits : ∀ (zs : List Int) (s : Int), 0 ≤ s → s ≤ 2100000000000000 → 0 ≤ (sumFrom s zs).1 ∧ (sumFrom s zs).1 ≤ 2100000000000000
  | [], s, h1, h2 => ⟨h1, h2⟩
  | z :: r, s, h1, h2 => by
    unfold sumFrom
    split
    · rename_i h
      simp only [addOk, goodB, uptoB, Bool.and_eq_true, decide_eq_true_eq] at h
      exact sumFrom_fits r (s + z) (by omega) (by omega)
    · exact ⟨by simp, by simp⟩
theorem total_fits (xs : List OutD) : 0 ≤ (totalD xs).1 ∧ (totalD xs).1 ≤ 2100000000000000 := sumFrom_fits _ 0 (by decide) (by decide)

/-! ### Errors as they lie in memory -/

/-- An error of a number and a place, a fault's block being lo or behind it. -/
def ErrV (lo : Nat) (w : World) (v : Value) (c a : Int) : Prop :=
  (c = 0 ∧ a = -1 ∧ v = .nilIface) ∨ (c ≠ 0 ∧ a = -1 ∧ v = .iface 43 (.int .i64 c)) ∨
    (c ≠ 0 ∧ 0 ≤ a ∧ ∃ b : Nat, v = .iface 92 (.pointer (some ⟨b, 0, none⟩)) ∧ lo ≤ b ∧ b < w.heap.size ∧ w.cell? ⟨b, 0, none⟩ = some (.int .i64 a) ∧ w.cell? ⟨b, 1, none⟩ = some (.iface 43 (.int .i64 c)))
theorem ErrV.keep {lo : Nat} {w w' : World} {v : Value} {c a : Int} (h : ErrV lo w v c a) (hs : w.heap.size ≤ w'.heap.size) (hk : ∀ b, lo ≤ b → b < w.heap.size → w'.heap[b]? = w.heap[b]?) : ErrV lo w' v c a := by
  rcases h with h | h | ⟨h1, h2, b, rfl, h6, h3, h4, h5⟩
  · exact .inl h
  · exact .inr (.inl h)
  · exact .inr (.inr ⟨h1, h2, b, rfl, h6, by omega, (World.cell?_of_block (w := w) (hk b h6 h3)).trans h4, (World.cell?_of_block (w := w) (hk b h6 h3)).trans h5⟩)
theorem ErrV.below {lo : Nat} {w w' : World} {v : Value} {c a : Int} (h : ErrV lo w v c a) (hb : Below w.heap.size w w') : ErrV lo w' v c a := h.keep hb.size fun b _ h => hb.block b h
theorem ErrV.num {lo : Nat} {w : World} {c : Int} (h : c ≠ 0) : ErrV lo w (.iface 43 (.int .i64 c)) c (-1) := .inr (.inl ⟨h, rfl, rfl⟩)
theorem ErrV.zero {lo : Nat} {w : World} : ErrV lo w .nilIface 0 (-1) := .inl ⟨rfl, rfl, rfl⟩

end Go.Proofs.YtjclklppnkoehaaGreatDoor
