/-
  Bytes that are cut, and bytes with more behind them.
-/
import Derived.Test.YtkdkkndccjddnaaPlawc
namespace Go.Proofs.Ytkdkkndccjddnaa
open Go.RowKit

/-- Two texts are the same up to c. -/
def Agr (c : Nat) (s s' : ByteArray) : Prop := c ≤ s.size ∧ c ≤ s'.size ∧ (Vi.nums s).take c = (Vi.nums s').take c
/-- Too short, told at a place that is there. -/
def Five (c : Nat) (s' : ByteArray) (z : St) : Prop := s'.size = c ∧ z.e = 5 ∧ z.a ≤ c
section
variable {c : Nat} {s s' : ByteArray}
theorem Agr.part (h : Agr c s s') {a k : Nat} (hk : a + k ≤ c) : Vi.part s' a k = Vi.part s a k := by
  have q : ∀ l : List Int, (l.drop a).take k = ((l.take c).drop a).take k := fun l => by
    rw [List.drop_take, List.take_take, Nat.min_eq_left (by omega)]
  unfold Vi.part
  rw [q (Vi.nums s'), q (Vi.nums s), h.2.2]
theorem Agr.getN (h : Agr c s s') {a k : Nat} (hs : Vi.szB k = true) (hk : a + k ≤ c) : Vi.getN s' a k = Vi.getN s a k := by
  rw [Vi.getN_yes hs (by have := h.2.1; omega), Vi.getN_yes hs (by have := h.1; omega), h.part hk]
theorem Agr.fst (h : Agr c s s') {a : Nat} (hk : a + 1 ≤ c) : Vi.fst s' a = Vi.fst s a := h.getN (k := 1) (by decide) hk
theorem five_num (k : Nat) (lo hi out : Int) {z : St} (h0 : z.e = 0) (h : s'.size < z.a + k) : numSt s' k lo hi out z = ⟨z.a, 5⟩ := by
  have ho : Vi.okB s' z.a k = false := Vi.okB_far (by omega)
  have hE : numE s' z.a z.e k lo hi out = 5 := by
    unfold numE
    rw [ho, h0]
    show spanE _ _ _ _ (refD 0 5) = 5
    unfold spanE refD
    split <;> simp
  unfold numSt
  rw [hE]
  rfl
theorem num_agr (h : Agr c s s') (H : s'.size = c ∨ s.size = c) {k : Nat} {lo hi out : Int} {z : St} (hk : Vi.szB k = true) (hz : z.a ≤ c) (he : (numSt s k lo hi out z).e = 0) :
    (numSt s' k lo hi out z = numSt s k lo hi out z ∧ (numSt s k lo hi out z).a ≤ c) ∨ Five c s' (numSt s' k lo hi out z) := by
  obtain ⟨h0, ha, hle, _⟩ := num_at hk he
  by_cases hc : z.a + k ≤ c
  · have e : numE s' z.a z.e k lo hi out = numE s z.a z.e k lo hi out := by
      unfold numE
      rw [Vi.okB_yes hk (by have := h.2.1; omega), Vi.okB_yes hk hle, h.getN hk hc]
    refine .inl ⟨?_, by omega⟩
    unfold numSt
    rw [e]
  · rcases H with H | H
    · refine .inr ?_
      rw [five_num k lo hi out h0 (by omega)]
      exact ⟨H, rfl, hz⟩
    · omega
theorem five_cnt (lo hi out : Int) {z : St} (h0 : z.e = 0) (h : Vi.gotE s' z.a = 5) : cntSt s' lo hi out z = ⟨z.a, 5⟩ := by
  have hE : cntE s' z.a z.e lo hi out = 5 := by
    unfold cntE
    rw [h, h0]
    unfold spanE refD
    split <;> simp
  unfold cntSt
  rw [hE]
  rfl
theorem cnt_agr (h : Agr c s s') (H : s'.size = c ∨ s.size = c) {lo hi out : Int} {z : St} (hz : z.a ≤ c) (he : (cntSt s lo hi out z).e = 0) :
    (cntSt s' lo hi out z = cntSt s lo hi out z ∧ (cntSt s lo hi out z).a ≤ c ∧ cntV s' lo hi out z = cntV s lo hi out z) ∨ Five c s' (cntSt s' lo hi out z) := by
  have hzs : z.a ≤ s.size := by have := h.1; omega
  obtain ⟨h0, hle, hlt, hv0, _⟩ := cnt_at hzs he
  have hE : cntE s z.a z.e lo hi out = 0 := he
  have hg := cntE_ok hE
  have hw := Vi.wid_nn (Vi.fst s z.a)
  have hT : Vi.gotT s z.a = z.a + 1 + Vi.wid (Vi.fst s z.a) := by unfold Vi.gotT; rw [if_pos hg]
  have hA : (cntSt s lo hi out z).a = (Vi.gotT s z.a).toNat := by
    show (if cntE s z.a z.e lo hi out = 0 then (Vi.gotT s z.a).toNat else z.a) = _
    rw [if_pos hE]
  obtain ⟨k, hk⟩ : ∃ k : Nat, (k : Int) = Vi.wid (Vi.fst s z.a) := ⟨(Vi.wid (Vi.fst s z.a)).toNat, by omega⟩
  have hA' : (cntSt s lo hi out z).a = z.a + 1 + k := by rw [hA]; omega
  by_cases hc : z.a + 1 + k ≤ c
  · have hf : Vi.fst s' z.a = Vi.fst s z.a := h.fst (by omega)
    have hb : Vi.body s' z.a = Vi.body s z.a := by
      unfold Vi.body
      rw [hf]
      by_cases h3 : Vi.fst s z.a < 253
      · rw [if_pos h3, if_pos h3]
      · rw [if_neg h3, if_neg h3, ← hk]
        have q := h.getN (a := z.a + 1) (k := k) (by rw [hk]; exact Vi.szB_wid h3) hc
        exact q
    have hvl : (Vi.vlen (Vi.body s z.a) : Int) = 1 + Vi.wid (Vi.fst s z.a) := by
      by_cases hh : (Vi.vlen (Vi.body s z.a) : Int) = 1 + Vi.wid (Vi.fst s z.a)
      · exact hh
      · rw [Vi.gotE_form (by omega) (by omega) hh] at hg
        omega
    have hg' : Vi.gotE s' z.a = 0 := Vi.gotE_ok (by omega) (by rw [hf, ← hk]; have := h.2.1; omega) (by rw [hb, hf]; exact hvl)
    have hN : Vi.gotN s' z.a = Vi.gotN s z.a := by unfold Vi.gotN; rw [if_pos hg', if_pos hg, hb]
    have hT' : Vi.gotT s' z.a = Vi.gotT s z.a := by unfold Vi.gotT; rw [if_pos hg', if_pos hg, hf]
    have e : cntE s' z.a z.e lo hi out = cntE s z.a z.e lo hi out := by unfold cntE; rw [hN, hg', hg]
    refine .inl ⟨?_, by omega, ?_⟩
    · unfold cntSt
      rw [e, hT']
    · unfold cntV
      rw [e, hN]
  · rcases H with H | H
    · refine .inr ?_
      have g5 : Vi.gotE s' z.a = 5 := by
        by_cases hzc : z.a = c
        · exact Vi.gotE_end (by omega)
        · have hf : Vi.fst s' z.a = Vi.fst s z.a := h.fst (by omega)
          exact Vi.gotE_short (by omega) (by omega) (by rw [hf, ← hk]; omega)
      rw [five_cnt lo hi out h0 g5]
      exact ⟨H, rfl, hz⟩
    · omega
theorem byt_agr (h : Agr c s s') (H : s'.size = c ∨ s.size = c) {n : Nat} {z : St} (hz : z.a ≤ c) (he : (bytSt s n z).e = 0) :
    (bytSt s' n z = bytSt s n z ∧ (bytSt s n z).a ≤ c) ∨ Five c s' (bytSt s' n z) := by
  obtain ⟨h0, ha, hle, _, _⟩ := byt_at he
  have hE : bytE s z.a z.e n = 0 := he
  by_cases hc : z.a + n ≤ c
  · have e : bytE s' z.a z.e n = 0 := by
      unfold bytE
      rw [if_neg (by have := h.2.1; omega), h0]
    refine .inl ⟨?_, by omega⟩
    unfold bytSt
    rw [e, hE]
  · rcases H with H | H
    · have e : bytE s' z.a z.e n = 5 := by
        unfold bytE
        rw [if_pos (by omega), h0]
        rfl
      refine .inr ?_
      unfold bytSt
      rw [e]
      exact ⟨H, rfl, hz⟩
    · omega

theorem num_old (k : Nat) (lo hi out : Int) {z : St} (h : ¬ z.e = 0) : numSt s' k lo hi out z = z := by unfold numSt; rw [numE_old h, if_neg h]
theorem cnt_old (lo hi out : Int) {z : St} (h : ¬ z.e = 0) : cntSt s' lo hi out z = z := by unfold cntSt; rw [cntE_old h, if_neg h]
theorem byt_old (n : Nat) {z : St} (h : ¬ z.e = 0) : bytSt s' n z = z := by unfold bytSt; rw [bytE_old h, if_neg h]
theorem it_old {z : St} (h : ¬ z.e = 0) : itSt s' z = z := by unfold itSt; rw [cnt_old 0 80 20 h, byt_old _ h]
theorem iter_stay {f : St → St} (hf : ∀ z : St, ¬ z.e = 0 → f z = z) {z : St} (h : ¬ z.e = 0) (n : Nat) : iter f n z = z := by
  induction n with
  | zero => rfl
  | succ n ih =>
    show f (iter f n z) = z
    rw [ih, hf z h]
theorem wi_old {z : St} (h : ¬ z.e = 0) : wiSt s' z = z := by unfold wiSt; rw [cnt_old 0 4 6 h, iter_stay (fun y hy => it_old hy) h]
theorem is_old {z : St} (h : ¬ z.e = 0) : isSt s' z = z := by unfold isSt; rw [cnt_old 1 256 6 h, iter_stay (fun y hy => inSt_old hy) h]
theorem os_old {z : St} (h : ¬ z.e = 0) : osSt s' z = z := by unfold osSt; rw [cnt_old 1 256 6 h, iter_stay (fun y hy => ouSt_old hy) h]
theorem Five.ne {z : St} (h : Five c s' z) : ¬ z.e = 0 := by rw [h.2.1]; decide

theorem iter_agr {β : Type} (f f' : St → St) (V V' : St → β) (old : ∀ z : St, ¬ z.e = 0 → f' z = z) (_zero : ∀ z : St, z.a ≤ c → (f z).e = 0 → z.e = 0)
    (step : ∀ z : St, z.a ≤ c → (f z).e = 0 → (f' z = f z ∧ (f z).a ≤ c ∧ V' z = V z) ∨ Five c s' (f' z)) :
    ∀ (n : Nat) (z : St), z.a ≤ c → (∀ j, j ≤ n → (iter f j z).e = 0) →
      (iter f' n z = iter f n z ∧ (iter f n z).a ≤ c ∧ ∀ j, j < n → V' (iter f' j z) = V (iter f j z)) ∨ Five c s' (iter f' n z) := by
  intro n
  induction n with
  | zero => intro z hz _; exact .inl ⟨rfl, hz, fun j hj => absurd hj (Nat.not_lt_zero _)⟩
  | succ n ih =>
    intro z hz he
    rcases ih z hz (fun j hj => he j (by omega)) with ⟨h1, h2, h3⟩ | h5
    · rcases step (iter f n z) h2 (he (n + 1) (Nat.le_refl _)) with ⟨s1, s2, s3⟩ | s5
      · refine .inl ⟨?_, s2, fun j hj => ?_⟩
        · show f' (iter f' n z) = f (iter f n z)
          rw [h1, s1]
        · rcases Nat.lt_or_ge j n with hj' | hj'
          · exact h3 j hj'
          · have : j = n := by omega
            subst this
            rw [h1]
            exact s3
      · refine .inr ?_
        show Five c s' (f' (iter f' n z))
        rw [h1]
        exact s5
    · refine .inr ?_
      show Five c s' (f' (iter f' n z))
      rw [old _ h5.ne]
      exact h5
/-- None was wrong on the way. -/
theorem iter_zero {f : St → St} {s : ByteArray} (hin : ∀ z : St, z.a ≤ s.size → (f z).a ≤ s.size) (zero : ∀ z : St, z.a ≤ s.size → (f z).e = 0 → z.e = 0) :
    ∀ (n : Nat) (z : St), z.a ≤ s.size → (iter f n z).e = 0 → ∀ j, j ≤ n → (iter f j z).e = 0 := by
  intro n
  induction n with
  | zero => intro z _ h j hj; have : j = 0 := by omega
            subst this; exact h
  | succ n ih =>
    intro z hz h j hj
    rcases Nat.lt_or_ge n j with h1 | h1
    · have : j = n + 1 := by omega
      subst this; exact h
    · exact ih z hz (zero _ (iter_in hin hz n) h) j h1

theorem it_agr (h : Agr c s s') (H : s'.size = c ∨ s.size = c) {z : St} (hz : z.a ≤ c) (he : (itSt s z).e = 0) : (itSt s' z = itSt s z ∧ (itSt s z).a ≤ c) ∨ Five c s' (itSt s' z) := by
  have hb : (cntSt s 0 80 20 z).e = 0 := (byt_at (s := s) (n := itN s z) (z := cntSt s 0 80 20 z) he).1
  rcases cnt_agr h H hz hb with ⟨c1, c2, c3⟩ | c5
  · have hn : itN s' z = itN s z := by unfold itN; rw [c3]
    have q : itSt s' z = bytSt s' (itN s z) (cntSt s 0 80 20 z) := by unfold itSt; rw [hn, c1]
    rw [q]
    exact byt_agr h H c2 he
  · refine .inr ?_
    have q : itSt s' z = cntSt s' 0 80 20 z := by unfold itSt; rw [byt_old _ c5.ne]
    rw [q]
    exact c5
theorem wi_agr (h : Agr c s s') (H : s'.size = c ∨ s.size = c) {z : St} (hz : z.a ≤ c) (he : (wiSt s z).e = 0) : (wiSt s' z = wiSt s z ∧ (wiSt s z).a ≤ c ∧ wiN s' z = wiN s z) ∨ Five c s' (wiSt s' z) := by
  have hzs : z.a ≤ s.size := by have := h.1; omega
  have hz1 : (cntSt s 0 4 6 z).a ≤ s.size := cntSt_in _ _ _ hzs
  have hall := iter_zero (fun z h => it_in h) (fun z h he => (it_at h he).1) (wiN s z) (cntSt s 0 4 6 z) hz1 he
  rcases cnt_agr h H hz (hall 0 (Nat.zero_le _)) with ⟨c1, c2, c3⟩ | c5
  · have hn : wiN s' z = wiN s z := by unfold wiN; rw [c3]
    have q : wiSt s' z = iter (itSt s') (wiN s z) (cntSt s 0 4 6 z) := by unfold wiSt; rw [hn, c1]
    rw [q]
    rcases iter_agr (itSt s) (itSt s') (fun _ => ()) (fun _ => ()) (fun z h => it_old h) (fun z hz he => (it_at (by have := h.1; omega) he).1) (fun z hz he => (it_agr h H hz he).imp (fun q => ⟨q.1, q.2, rfl⟩) id) (wiN s z) _ c2 hall with ⟨i1, i2, _⟩ | i5
    · exact .inl ⟨i1, i2, hn⟩
    · exact .inr i5
  · refine .inr ?_
    have q : wiSt s' z = cntSt s' 0 4 6 z := by unfold wiSt; rw [iter_stay (fun y hy => it_old hy) c5.ne]
    rw [q]
    exact c5
theorem wd_agr (h : Agr c s s') (H : s'.size = c ∨ s.size = c) {z : St} (hz : z.a ≤ c) (he : (wdSt s z).e = 0) : (wdSt s' z = wdSt s z ∧ (wdSt s z).a ≤ c) ∨ Five c s' (wdSt s' z) := num_agr h H (k := 4) (by decide) hz he
theorem in_agr (h : Agr c s s') (H : s'.size = c ∨ s.size = c) {z : St} (hz : z.a ≤ c) (he : (inSt s z).e = 0) : (inSt s' z = inSt s z ∧ (inSt s z).a ≤ c) ∨ Five c s' (inSt s' z) := by
  have hzs : z.a ≤ s.size := by have := h.1; omega
  have hC : (inC s z).e = 0 := (num_at (s := s) (k := 4) (z := inC s z) (by decide) he).1
  have hB : (inB' s z).e = 0 := (cnt_at (z := inB' s z) (numSt_in _ _ _ _ (bytSt_in _ hzs)) hC).1
  have hA : (inA s z).e = 0 := (num_at (s := s) (k := 4) (z := inA s z) (by decide) hB).1
  rcases byt_agr h H (n := 32) hz hA with ⟨a1, a2⟩ | a5
  · rcases wd_agr h H a2 hB with ⟨b1, b2⟩ | b5
    · rcases cnt_agr h H b2 hC with ⟨c1, c2, _⟩ | c5
      · have q : inSt s' z = wdSt s' (inC s z) := by
          show wdSt s' (cntSt s' 0 0 4 (wdSt s' (bytSt s' 32 z))) = _
          rw [a1, b1]
          exact congrArg _ c1
        rw [q]
        exact wd_agr h H c2 he
      · refine .inr ?_
        have q : inSt s' z = cntSt s' 0 0 4 (wdSt s (bytSt s 32 z)) := by
          show wdSt s' (cntSt s' 0 0 4 (wdSt s' (bytSt s' 32 z))) = _
          rw [a1, b1]
          exact wdSt_old c5.ne
        rw [q]
        exact c5
    · refine .inr ?_
      have q : inSt s' z = wdSt s' (bytSt s 32 z) := by
        show wdSt s' (cntSt s' 0 0 4 (wdSt s' (bytSt s' 32 z))) = _
        rw [a1, cnt_old 0 0 4 b5.ne, wdSt_old b5.ne]
      rw [q]
      exact b5
  · refine .inr ?_
    have q : inSt s' z = bytSt s' 32 z := by
      show wdSt s' (cntSt s' 0 0 4 (wdSt s' (bytSt s' 32 z))) = _
      rw [wdSt_old a5.ne, cnt_old 0 0 4 a5.ne, wdSt_old a5.ne]
    rw [q]
    exact a5
theorem ou_agr (h : Agr c s s') (H : s'.size = c ∨ s.size = c) {z : St} (hz : z.a ≤ c) (he : (ouSt s z).e = 0) : (ouSt s' z = ouSt s z ∧ (ouSt s z).a ≤ c) ∨ Five c s' (ouSt s' z) := by
  have hzs : z.a ≤ s.size := by have := h.1; omega
  have hB : (cntSt s 0 40 20 (ouA s z)).e = 0 := (byt_at (s := s) (n := ouN s z) (z := cntSt s 0 40 20 (ouA s z)) he).1
  have hA : (ouA s z).e = 0 := (cnt_at (numSt_in _ _ _ _ hzs) hB).1
  rcases num_agr h H (k := 8) (by decide) hz hA with ⟨a1, a2⟩ | a5
  · have a1' : ouA s' z = ouA s z := a1
    rcases cnt_agr h H a2 hB with ⟨c1, c2, c3⟩ | c5
    · have hn : ouN s' z = ouN s z := by
        unfold ouN
        rw [a1']
        exact congrArg Int.toNat c3
      have q : ouSt s' z = bytSt s' (ouN s z) (cntSt s 0 40 20 (ouA s z)) := by
        unfold ouSt
        rw [hn, a1']
        exact congrArg _ c1
      rw [q]
      exact byt_agr h H c2 he
    · refine .inr ?_
      have q : ouSt s' z = cntSt s' 0 40 20 (ouA s z) := by
        unfold ouSt
        rw [a1']
        exact byt_old _ c5.ne
      rw [q]
      exact c5
  · refine .inr ?_
    have q : ouSt s' z = numSt s' 8 0 2100000000000000 3 z := by
      unfold ouSt
      rw [show ouA s' z = numSt s' 8 0 2100000000000000 3 z from rfl, cnt_old 0 40 20 a5.ne, byt_old _ a5.ne]
    rw [q]
    exact a5
theorem is_agr (h : Agr c s s') (H : s'.size = c ∨ s.size = c) {z : St} (hz : z.a ≤ c) (he : (isSt s z).e = 0) : (isSt s' z = isSt s z ∧ (isSt s z).a ≤ c ∧ isN s' z = isN s z) ∨ Five c s' (isSt s' z) := by
  have hzs : z.a ≤ s.size := by have := h.1; omega
  have hall := iter_zero (fun z h => inSt_in h) (fun z h he => (in_at h he).1) (isN s z) (cntSt s 1 256 6 z) (cntSt_in _ _ _ hzs) he
  rcases cnt_agr h H hz (hall 0 (Nat.zero_le _)) with ⟨c1, c2, c3⟩ | c5
  · have hn : isN s' z = isN s z := by unfold isN; rw [c3]
    have q : isSt s' z = iter (inSt s') (isN s z) (cntSt s 1 256 6 z) := by unfold isSt; rw [hn, c1]
    rw [q]
    rcases iter_agr (inSt s) (inSt s') (fun _ => ()) (fun _ => ()) (fun z h => inSt_old h) (fun z hz he => (in_at (by have := h.1; omega) he).1) (fun z hz he => (in_agr h H hz he).imp (fun q => ⟨q.1, q.2, rfl⟩) id) (isN s z) _ c2 hall with ⟨i1, i2, _⟩ | i5
    · exact .inl ⟨i1, i2, hn⟩
    · exact .inr i5
  · refine .inr ?_
    have q : isSt s' z = cntSt s' 1 256 6 z := by unfold isSt; rw [iter_stay (fun y hy => inSt_old hy) c5.ne]
    rw [q]
    exact c5
theorem os_agr (h : Agr c s s') (H : s'.size = c ∨ s.size = c) {z : St} (hz : z.a ≤ c) (he : (osSt s z).e = 0) : (osSt s' z = osSt s z ∧ (osSt s z).a ≤ c) ∨ Five c s' (osSt s' z) := by
  have hzs : z.a ≤ s.size := by have := h.1; omega
  have hall := iter_zero (fun z h => ouSt_in h) (fun z h he => (out_at h he).1) (osN s z) (cntSt s 1 256 6 z) (cntSt_in _ _ _ hzs) he
  rcases cnt_agr h H hz (hall 0 (Nat.zero_le _)) with ⟨c1, c2, c3⟩ | c5
  · have hn : osN s' z = osN s z := by unfold osN; rw [c3]
    have q : osSt s' z = iter (ouSt s') (osN s z) (cntSt s 1 256 6 z) := by unfold osSt; rw [hn, c1]
    rw [q]
    rcases iter_agr (ouSt s) (ouSt s') (fun _ => ()) (fun _ => ()) (fun z h => ouSt_old h) (fun z hz he => (out_at (by have := h.1; omega) he).1) (fun z hz he => (ou_agr h H hz he).imp (fun q => ⟨q.1, q.2, rfl⟩) id) (osN s z) _ c2 hall with ⟨i1, i2, _⟩ | i5
    · exact .inl ⟨i1, i2⟩
    · exact .inr i5
  · refine .inr ?_
    have q : osSt s' z = cntSt s' 1 256 6 z := by unfold osSt; rw [iter_stay (fun y hy => ouSt_old hy) c5.ne]
    rw [q]
    exact c5
theorem mk_old {z : St} (h : ¬ z.e = 0) : mkV s' z = false ∧ mkSt s' z = z := by
  have hm : mkV s' z = false := by
    show (Vi.okB s' z.a 1 && (Vi.getN s' z.a 1 == 0) && (z.e == 0)) = false
    have : (z.e == 0) = false := by simpa using h
    rw [this]
    simp
  exact ⟨hm, by rw [mkSt_eq, hm]; rfl⟩
theorem wsT_agr {z z' : St} {n : Nat} (h : ∀ j, j < n → wsN s' z' j = wsN s z j) : wsT s' z' n = wsT s z n := by
  induction n with
  | zero => rfl
  | succ n ih =>
    show wsT s' z' n + wsN s' z' n = wsT s z n + wsN s z n
    rw [ih (fun j hj => h j (by omega)), h n (by omega)]

/-- All but the end. -/
theorem t6_agr (h : Agr c s s') (H : s'.size = c ∨ s.size = c) (he : (t6 s z0).e = 0) : (t6 s' z0 = t6 s z0 ∧ (t6 s z0).a ≤ c) ∨ Five c s' (t6 s' z0) := by
  obtain ⟨p1, p2, p3, p4, p5, p6⟩ := places s
  have e5 : (t5 s z0).e = 0 := (num_at (s := s) (k := 4) (z := t5 s z0) (by decide) he).1
  have h5 : (t4 s z0).e = 0 ∧ (tM s z0 = true → t5 s z0 = wsAt s (t4 s z0) (tN s z0) ∧ ¬ wsT s (t4 s z0) (tN s z0) = 0) := by
    by_cases hM : tM s z0 = true
    · have q : t5 s z0 = wsSt s (t4 s z0) (tN s z0) := by unfold t5; rw [if_pos hM]
      have hcond : ¬ (wsT s (t4 s z0) (tN s z0) = 0 ∧ (wsAt s (t4 s z0) (tN s z0)).e = 0) := by
        intro hh
        rw [q] at e5
        unfold wsSt at e5
        rw [if_pos hh] at e5
        exact absurd e5 (by show ¬ (4 : Int) = 0; decide)
      have q' : t5 s z0 = wsAt s (t4 s z0) (tN s z0) := by rw [q]; unfold wsSt; rw [if_neg hcond]
      rw [q'] at e5
      refine ⟨(iter_at (wiSt s) gWi (wiL s) (fun z h => wi_in h) (fun z h he => wi_at h he) (tN s z0) (t4 s z0) p4 e5).1, fun _ => ⟨q', fun h0 => hcond ⟨h0, e5⟩⟩⟩
    · have q : t5 s z0 = t4 s z0 := by unfold t5; rw [if_neg hM]
      exact ⟨by rw [← q]; exact e5, fun hh => absurd hh hM⟩
  have e4 := h5.1
  have e3 : (t3 s z0).e = 0 := (os_at p3 (show (osSt s (t3 s z0)).e = 0 from e4)).1
  have e2 : (t2 s z0).e = 0 := (is_at p2 (show (isSt s (t2 s z0)).e = 0 from e3)).1
  have e1 : (t1 s z0).e = 0 := (mk_at (s := s) (z := t1 s z0) e2).1
  -- the marker and the Ins
  have H3 : (t3 s' z0 = t3 s z0 ∧ (t3 s z0).a ≤ c ∧ tM s' z0 = tM s z0 ∧ tN s' z0 = tN s z0) ∨ Five c s' (t3 s' z0) := by
    have from2 : (t2 s' z0 = t2 s z0 ∧ (t2 s z0).a ≤ c ∧ tM s' z0 = tM s z0) → (t3 s' z0 = t3 s z0 ∧ (t3 s z0).a ≤ c ∧ tM s' z0 = tM s z0 ∧ tN s' z0 = tN s z0) ∨ Five c s' (t3 s' z0) := by
      rintro ⟨q1, q2, q3⟩
      have qe : t3 s' z0 = isSt s' (t2 s z0) := by unfold t3; rw [q1]
      have qn : tN s' z0 = isN s' (t2 s z0) := by unfold tN; rw [q1]
      rw [qe, qn]
      rcases is_agr h H q2 (show (isSt s (t2 s z0)).e = 0 from e3) with ⟨i1, i2, i3⟩ | i5
      · exact .inl ⟨i1, i2, q3, i3⟩
      · exact .inr i5
    have five2 : Five c s' (t2 s' z0) → (t3 s' z0 = t3 s z0 ∧ (t3 s z0).a ≤ c ∧ tM s' z0 = tM s z0 ∧ tN s' z0 = tN s z0) ∨ Five c s' (t3 s' z0) := by
      intro q
      have qe : t3 s' z0 = t2 s' z0 := is_old q.ne
      rw [qe]
      exact .inr q
    rcases wd_agr h H (Nat.zero_le _) (show (wdSt s z0).e = 0 from e1) with ⟨a1, a2⟩ | a5
    · have a1' : t1 s' z0 = t1 s z0 := a1
      have a2' : (t1 s z0).a ≤ c := a2
      have m1 : tM s' z0 = mkV s' (t1 s z0) := by unfold tM; rw [a1']
      have m2 : t2 s' z0 = mkSt s' (t1 s z0) := by unfold t2; rw [a1']
      by_cases hlt : (t1 s z0).a + 1 ≤ c
      · have hmv : mkV s' (t1 s z0) = mkV s (t1 s z0) := by
          show (Vi.okB s' (t1 s z0).a 1 && (Vi.getN s' (t1 s z0).a 1 == 0) && ((t1 s z0).e == 0)) = (Vi.okB s (t1 s z0).a 1 && (Vi.getN s (t1 s z0).a 1 == 0) && ((t1 s z0).e == 0))
          have o1 : Vi.okB s' (t1 s z0).a 1 = true := Vi.okB_yes (k := 1) (by decide) (by have := h.2.1; omega)
          have o2 : Vi.okB s (t1 s z0).a 1 = true := Vi.okB_yes (k := 1) (by decide) (by have := h.1; omega)
          have o3 : Vi.getN s' (t1 s z0).a 1 = Vi.getN s (t1 s z0).a 1 := h.getN (k := 1) (by decide) hlt
          rw [o1, o2, o3]
        have hMM : tM s' z0 = tM s z0 := by rw [m1, hmv]; rfl
        by_cases hm : mkV s (t1 s z0) = true
        · have r1 : t2 s z0 = numSt s 1 1 1 4 ⟨(t1 s z0).a + 1, (t1 s z0).e⟩ := by unfold t2; rw [mkSt_eq, if_pos hm]
          have r2 : t2 s' z0 = numSt s' 1 1 1 4 ⟨(t1 s z0).a + 1, (t1 s z0).e⟩ := by rw [m2, mkSt_eq, hmv, if_pos hm]
          rw [r1] at e2
          rcases num_agr h H (k := 1) (z := ⟨(t1 s z0).a + 1, (t1 s z0).e⟩) (by decide) hlt e2 with ⟨n1, n2⟩ | n5
          · exact from2 ⟨by rw [r2, r1]; exact n1, by rw [r1]; exact n2, hMM⟩
          · exact five2 (by rw [r2]; exact n5)
        · have hmf : mkV s (t1 s z0) = false := by simpa using hm
          have r1 : t2 s z0 = t1 s z0 := by unfold t2; rw [mkSt_eq, hmf]; rfl
          have r2 : t2 s' z0 = t1 s z0 := by rw [m2, mkSt_eq, hmv, hmf]; rfl
          exact from2 ⟨by rw [r2, r1], by rw [r1]; exact a2', hMM⟩
      · have hac : (t1 s z0).a = c := by omega
        rcases H with H | H
        · have hmf : mkV s' (t1 s z0) = false := by
            show (Vi.okB s' (t1 s z0).a 1 && (Vi.getN s' (t1 s z0).a 1 == 0) && ((t1 s z0).e == 0)) = false
            have : Vi.okB s' (t1 s z0).a 1 = false := Vi.okB_far (by omega)
            rw [this]
            rfl
          have r2 : t2 s' z0 = t1 s z0 := by rw [m2, mkSt_eq, hmf]; rfl
          have r3 : cntSt s' 1 256 6 (t1 s z0) = ⟨(t1 s z0).a, 5⟩ := five_cnt 1 256 6 e1 (Vi.gotE_end (by omega))
          have r4 : t3 s' z0 = ⟨(t1 s z0).a, 5⟩ := by
            unfold t3
            rw [r2]
            unfold isSt
            rw [r3, iter_stay (fun y hy => inSt_old hy) (by show ¬ (5 : Int) = 0; decide)]
          rw [r4]
          exact .inr ⟨H, rfl, a2'⟩
        · exfalso
          have hmf : mkV s (t1 s z0) = false := by
            show (Vi.okB s (t1 s z0).a 1 && (Vi.getN s (t1 s z0).a 1 == 0) && ((t1 s z0).e == 0)) = false
            have : Vi.okB s (t1 s z0).a 1 = false := Vi.okB_far (by omega)
            rw [this]
            rfl
          have r2 : t2 s z0 = t1 s z0 := by unfold t2; rw [mkSt_eq, hmf]; rfl
          have r3 : cntSt s 1 256 6 (t1 s z0) = ⟨(t1 s z0).a, 5⟩ := five_cnt 1 256 6 e1 (Vi.gotE_end (by omega))
          have r4 : t3 s z0 = ⟨(t1 s z0).a, 5⟩ := by
            unfold t3
            rw [r2]
            unfold isSt
            rw [r3, iter_stay (fun y hy => inSt_old hy) (by show ¬ (5 : Int) = 0; decide)]
          rw [r4] at e3
          exact absurd e3 (by show ¬ (5 : Int) = 0; decide)
    · have a5' : Five c s' (t1 s' z0) := a5
      have q : t2 s' z0 = t1 s' z0 := (mk_old a5'.ne).2
      exact five2 (by rw [q]; exact a5')
  have H5 : (t5 s' z0 = t5 s z0 ∧ (t5 s z0).a ≤ c) ∨ Five c s' (t5 s' z0) := by
    have five4 : Five c s' (t4 s' z0) → (t5 s' z0 = t5 s z0 ∧ (t5 s z0).a ≤ c) ∨ Five c s' (t5 s' z0) := by
      intro q
      refine .inr ?_
      have qe : t5 s' z0 = t4 s' z0 := by
        unfold t5
        split
        · have w : wsAt s' (t4 s' z0) (tN s' z0) = t4 s' z0 := iter_stay (fun y hy => wi_old hy) q.ne _
          unfold wsSt
          rw [w, if_neg (fun hh => q.ne hh.2)]
        · rfl
      rw [qe]
      exact q
    rcases H3 with ⟨a1, a2, a3, a4⟩ | a5
    · have q4 : t4 s' z0 = osSt s' (t3 s z0) := by unfold t4; rw [a1]
      rcases os_agr h H a2 (show (osSt s (t3 s z0)).e = 0 from e4) with ⟨o1, o2⟩ | o5
      · have o1' : t4 s' z0 = t4 s z0 := by rw [q4]; exact o1
        by_cases hM : tM s z0 = true
        · obtain ⟨q5, hT⟩ := h5.2 hM
          have e5' := e5
          rw [q5] at e5'
          have hall := iter_zero (fun z h => wi_in h) (fun z h he => (wi_at h he).1) (tN s z0) (t4 s z0) p4 e5'
          have q5' : t5 s' z0 = wsSt s' (t4 s z0) (tN s z0) := by unfold t5; rw [a3, if_pos hM, o1', a4]
          rcases iter_agr (wiSt s) (wiSt s') (wiN s) (wiN s') (fun z h => wi_old h) (fun z hz he => (wi_at (by have := h.1; omega) he).1) (fun z hz he => wi_agr h H hz he) (tN s z0) (t4 s z0) o2 hall with ⟨i1, i2, i3⟩ | i5
          · have hTT : wsT s' (t4 s z0) (tN s z0) = wsT s (t4 s z0) (tN s z0) := wsT_agr i3
            have : t5 s' z0 = t5 s z0 := by
              rw [q5', q5]
              unfold wsSt
              rw [hTT, if_neg (fun hh => hT hh.1)]
              exact i1
            exact .inl ⟨this, by rw [q5]; exact i2⟩
          · refine .inr ?_
            have : t5 s' z0 = wsAt s' (t4 s z0) (tN s z0) := by
              rw [q5']
              unfold wsSt
              rw [if_neg (fun hh => i5.ne hh.2)]
            rw [this]
            exact i5
        · have q5 : t5 s z0 = t4 s z0 := by unfold t5; rw [if_neg hM]
          have q5' : t5 s' z0 = t4 s z0 := by unfold t5; rw [a3, if_neg hM, o1']
          exact .inl ⟨by rw [q5, q5'], by rw [q5]; exact o2⟩
      · exact five4 (by rw [q4]; exact o5)
    · have q4 : t4 s' z0 = t3 s' z0 := os_old a5.ne
      exact five4 (by rw [q4]; exact a5)
  rcases H5 with ⟨a1, a2⟩ | a5
  · have q : t6 s' z0 = wdSt s' (t5 s z0) := by unfold t6; rw [a1]
    rw [q]
    exact wd_agr h H a2 he
  · refine .inr ?_
    have q : t6 s' z0 = t5 s' z0 := wdSt_old a5.ne
    rw [q]
    exact a5
end

theorem cut_law {s : ByteArray} {c : Nat} (h6 : t6 s z0 = ⟨s.size, 0⟩) (hc : c < s.size) : dcE (s.extract 0 c) = 5 ∧ dcA (s.extract 0 c) ≤ c := by
  have hz : (s.extract 0 c).size = c := by rw [ByteArray.size_extract]; omega
  have hn : Vi.nums (s.extract 0 c) = (Vi.nums s).take c := by
    have := Vi.extract_part s 0 c
    rw [Nat.zero_add] at this
    rw [this, Vi.nums_strOfNums _ (Vi.part_bd _ _ _)]
    rfl
  have hA : Agr c s (s.extract 0 c) := ⟨by omega, by omega, by rw [hn, List.take_take, Nat.min_self]⟩
  rcases t6_agr hA (.inl hz) (by rw [h6]) with ⟨q1, q2⟩ | q5
  · rw [h6] at q2
    exact absurd q2 (by show ¬ s.size ≤ c; omega)
  · have e7 : (t7 (s.extract 0 c) z0).e = 5 := by
      show endE _ _ (t6 (s.extract 0 c) z0).e = 5
      unfold endE
      rw [q5.2.1]
      split <;> rfl
    refine ⟨?_, q5.2.2⟩
    unfold dcE
    rw [e7]
    rfl
theorem more_law {s r : ByteArray} (h6 : t6 s z0 = ⟨s.size, 0⟩) (hr : 0 < r.size) : dcE (s ++ r) = 4 ∧ dcA (s ++ r) = s.size := by
  have hz : (s ++ r).size = s.size + r.size := ByteArray.size_append
  have hA : Agr s.size s (s ++ r) := ⟨Nat.le_refl _, by omega, by rw [Vi.nums_append, ← Vi.nums_length s, List.take_left, List.take_length]⟩
  rcases t6_agr hA (.inr rfl) (by rw [h6]) with ⟨q1, q2⟩ | q5
  · have e7 : t7 (s ++ r) z0 = ⟨s.size, 4⟩ := by
      unfold t7
      rw [q1, h6]
      show St.mk s.size (endE (s ++ r) s.size 0) = _
      unfold endE
      rw [if_pos (by omega)]
      rfl
    refine ⟨?_, ?_⟩
    · unfold dcE
      rw [e7]
      rfl
    · unfold dcA
      rw [e7]
  · have := q5.1
    omega

end Go.Proofs.Ytkdkkndccjddnaa
