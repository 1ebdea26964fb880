/-
  What is left of a text from a place on: what each part of a reading takes off it, and what each part that was taken had been.
-/
import Derived.Test.YtkdkkndccjddnaaRout
import Derived.Test.YtkdkkndccjddnaaWmath
import Derived.Test.YtkdkkndccjddnaaEnc
namespace Go.Proofs.Ytkdkkndccjddnaa.Vi
open Go.RowKit
theorem part_drop {s : ByteArray} {a k : Nat} {l r : List Int} (h : (nums s).drop a = l ++ r) (hk : l.length = k) : part s a k = l := by
  unfold part
  rw [h, List.take_append_of_le_length (by omega), List.take_of_length_le (by omega)]
theorem drop_size {s : ByteArray} {a : Nat} {l r : List Int} (h : (nums s).drop a = l ++ r) (hl : 1 ≤ l.length) : a + l.length + r.length = s.size := by
  have := congrArg List.length h
  rw [List.length_drop, nums_length, List.length_append] at this
  omega
theorem drop_one {s : ByteArray} {a : Nat} {b : Int} {l r : List Int} (h : (nums s).drop a = b :: l ++ r) : (nums s).drop (a + 1) = l ++ r := by
  rw [← List.drop_drop, h]
  rfl
theorem fst_drop {s : ByteArray} {a : Nat} {b : Int} {r : List Int} (h : (nums s).drop a = b :: r) : fst s a = b := by
  have hs := drop_size (l := [b]) (r := r) h (by simp)
  simp at hs
  have e := part_one s a (by omega)
  rw [part_drop (k := 1) (l := [b]) (r := r) h rfl] at e
  simpa using e.symm

/-- At a place where a number's bytes stand: the number, the place behind it, and no error. -/
theorem got_drop (s : ByteArray) (a : Nat) (n : Int) (r : List Int) (h0 : 0 ≤ n) (h1 : n < 18446744073709551616) (h : (nums s).drop a = vlist n ++ r) :
    gotE s a = 0 ∧ gotN s a = n ∧ gotT s a = a + vlen n := by
  have hs := drop_size h (by rw [vlist_length]; exact (vlen_pos n).1)
  rw [vlist_length] at hs
  have key : body s a = n ∧ (vlen n : Int) = 1 + wid (fst s a) := by
    unfold vlist at h
    unfold vlen at hs ⊢
    by_cases c1 : n < 253
    · rw [if_pos c1] at h hs ⊢
      have e : fst s a = n := (fst_drop (b := n % 256) h).trans (by omega)
      rw [body_less (by omega), e]
      exact ⟨rfl, by simp [wid, c1]⟩
    rw [if_neg c1] at h hs ⊢
    by_cases c2 : n < 65536
    · rw [if_pos c2] at h hs ⊢
      have e : fst s a = 253 := fst_drop h
      have e2 : part s (a + 1) 2 = digs n 2 := part_drop (drop_one h) (digs_length _ _)
      rw [body_more (by omega), e]
      refine ⟨?_, rfl⟩
      refine (getN_yes (s := s) (a := a + 1) (k := 2) (by decide) (by omega)).trans ?_
      rw [e2, num_digs]
      simp
      omega
    rw [if_neg c2] at h hs ⊢
    by_cases c3 : n < 4294967296
    · rw [if_pos c3] at h hs ⊢
      have e : fst s a = 254 := fst_drop h
      have e2 : part s (a + 1) 4 = digs n 4 := part_drop (drop_one h) (digs_length _ _)
      rw [body_more (by omega), e]
      refine ⟨?_, rfl⟩
      refine (getN_yes (s := s) (a := a + 1) (k := 4) (by decide) (by omega)).trans ?_
      rw [e2, num_digs]
      simp
      omega
    rw [if_neg c3] at h hs ⊢
    have e : fst s a = 255 := fst_drop h
    have e2 : part s (a + 1) 8 = digs n 8 := part_drop (drop_one h) (digs_length _ _)
    rw [body_more (by omega), e]
    refine ⟨?_, rfl⟩
    refine (getN_yes (s := s) (a := a + 1) (k := 8) (by decide) (by omega)).trans ?_
    rw [e2, num_digs]
    simp
    omega
  obtain ⟨k1, k2⟩ := key
  have hE : gotE s a = 0 := gotE_ok (by omega) (by omega) (by rw [k1]; exact k2)
  refine ⟨hE, ?_, ?_⟩
  · rw [gotN, if_pos hE, k1]
  · rw [gotT, if_pos hE]
    omega

end Go.Proofs.Ytkdkkndccjddnaa.Vi
namespace Go.Proofs.Ytkdkkndccjddnaa
open Go.RowKit

/-- What is left of a text from a place on. -/
def Left (s : ByteArray) (a : Nat) (l : List Int) : Prop := (Vi.nums s).drop a = l ∧ a ≤ s.size
theorem Left.size {s : ByteArray} {a : Nat} {l : List Int} (h : Left s a l) : a + l.length = s.size := by
  have e := congrArg List.length h.1
  have h2 := h.2
  rw [List.length_drop, Vi.nums_length] at e
  omega
theorem Left.next {s : ByteArray} {a : Nat} {p l : List Int} (h : Left s a (p ++ l)) : Left s (a + p.length) l := by
  refine ⟨?_, ?_⟩
  · rw [← List.drop_drop, h.1, List.drop_left]
  · have e := h.size
    rw [List.length_append] at e
    omega
theorem Left.part {s : ByteArray} {a : Nat} {p l : List Int} (h : Left s a (p ++ l)) : Vi.part s a p.length = p := by
  unfold Vi.part
  rw [h.1, List.take_left]
theorem Left.all (s : ByteArray) : Left s 0 (Vi.nums s) := ⟨rfl, Nat.zero_le _⟩
theorem Left.back {s : ByteArray} {a k : Nat} {l : List Int} (hk : a + k ≤ s.size) (h : Left s (a + k) l) : Left s a (Vi.part s a k ++ l) := by
  refine ⟨?_, by omega⟩
  unfold Vi.part
  rw [← h.1, ← List.drop_drop, List.take_append_drop]
theorem nums_put (n : Int) {k : Nat} (hk : Vi.szB k = true) : Vi.nums (Vi.putS n k) = Vi.digs n k := by
  rw [Vi.putS_yes hk]
  exact Vi.nums_strOfNums _ (Vi.digs_bd k n)

/-- A number that stands there is read. -/
theorem num_of {s : ByteArray} {a k : Nat} {n : Int} {l : List Int} {lo hi : Int} (out : Int) (h : Left s a (Vi.digs n k ++ l)) (hk : Vi.szB k = true) (h0 : 0 ≤ n) (h1 : n < 256 ^ k) (hl : lo ≤ n) (hh : n ≤ hi) :
    numSt s k lo hi out ⟨a, 0⟩ = ⟨a + k, 0⟩ ∧ numV s k lo hi out ⟨a, 0⟩ = n ∧ Left s (a + k) l := by
  have hz := h.size
  rw [List.length_append, Vi.digs_length] at hz
  have hp := h.part
  rw [Vi.digs_length] at hp
  have hn := h.next
  rw [Vi.digs_length] at hn
  have ho : Vi.okB s a k = true := Vi.okB_yes hk (by omega)
  have hg : Vi.getN s a k = n := by
    rw [Vi.getN_yes hk (by omega), hp, Vi.num_digs]
    exact Int.emod_eq_of_lt h0 h1
  have hE : numE s (a : Nat) 0 k lo hi out = 0 := by
    unfold numE
    rw [ho, hg, if_pos rfl]
    unfold spanE
    rw [if_neg (by omega)]
  refine ⟨?_, ?_, hn⟩
  · show St.mk (if numE s (a : Nat) 0 k lo hi out = 0 then a + k else a) (numE s (a : Nat) 0 k lo hi out) = _
    rw [hE, if_pos rfl]
  · show okN (numE s (a : Nat) 0 k lo hi out) (Vi.getN s a k) = n
    rw [hE, hg, okN_yes rfl]
theorem cnt_of {s : ByteArray} {a : Nat} {n : Int} {l : List Int} {lo hi : Int} (out : Int) (h : Left s a (Vi.vlist n ++ l)) (h0 : 0 ≤ n) (h1 : n < 18446744073709551616) (hl : lo ≤ n) (hh : n ≤ hi) :
    cntSt s lo hi out ⟨a, 0⟩ = ⟨a + Vi.vlen n, 0⟩ ∧ cntV s lo hi out ⟨a, 0⟩ = n ∧ Left s (a + Vi.vlen n) l := by
  obtain ⟨g1, g2, g3⟩ := Vi.got_drop s a n l h0 h1 h.1
  have hn := h.next
  rw [Vi.vlist_length] at hn
  have hE : cntE s (a : Nat) 0 lo hi out = 0 := by
    unfold cntE
    rw [g1, g2]
    unfold spanE refD
    rw [if_pos rfl, if_neg (by omega)]
  refine ⟨?_, ?_, hn⟩
  · show St.mk (if cntE s (a : Nat) 0 lo hi out = 0 then (Vi.gotT s a).toNat else a) (cntE s (a : Nat) 0 lo hi out) = _
    rw [hE, if_pos rfl, g3]
    congr 1
  · show okN (cntE s (a : Nat) 0 lo hi out) (Vi.gotN s a) = n
    rw [hE, g2, okN_yes rfl]
theorem byt_of {s : ByteArray} {a : Nat} {p : ByteArray} {l : List Int} (h : Left s a (Vi.nums p ++ l)) :
    bytSt s p.size ⟨a, 0⟩ = ⟨a + p.size, 0⟩ ∧ bytV s p.size ⟨a, 0⟩ = p ∧ Left s (a + p.size) l := by
  have hz := h.size
  rw [List.length_append, Vi.nums_length] at hz
  have hp := h.part
  rw [Vi.nums_length] at hp
  have hn := h.next
  rw [Vi.nums_length] at hn
  have hE : bytE s (a : Nat) 0 (p.size : Nat) = 0 := by
    unfold bytE
    rw [if_neg (by omega)]
  refine ⟨?_, ?_, hn⟩
  · show St.mk (if bytE s (a : Nat) 0 (p.size : Nat) = 0 then a + p.size else a) (bytE s (a : Nat) 0 (p.size : Nat)) = _
    rw [hE, if_pos rfl]
  · show bytS s (a : Nat) 0 (p.size : Nat) = p
    unfold bytS
    rw [if_pos hE]
    show s.extract a ((a : Int) + (p.size : Nat)).toNat = p
    rw [show ((a : Int) + (p.size : Nat)).toNat = a + p.size from by omega, Vi.extract_part, hp, Vi.strOfNums_nums]

/-- A number that was read stood there. -/
theorem num_at {s : ByteArray} {k : Nat} {lo hi out : Int} {z : St} (hk : Vi.szB k = true) (he : (numSt s k lo hi out z).e = 0) :
    z.e = 0 ∧ (numSt s k lo hi out z).a = z.a + k ∧ z.a + k ≤ s.size ∧ ∀ l, Left s (z.a + k) l → Left s z.a (Vi.digs (numV s k lo hi out z) k ++ l) := by
  have hE : numE s z.a z.e k lo hi out = 0 := he
  have h0 : z.e = 0 := by
    by_cases h : z.e = 0
    · exact h
    · rw [numE_old h] at hE
      exact hE
  have hle := okB_le (numE_ok hE)
  have hle' : z.a + k ≤ s.size := by omega
  have hv : numV s k lo hi out z = Vi.num (Vi.part s z.a k) := by
    show okN (numE s z.a z.e k lo hi out) (Vi.getN s z.a k) = _
    rw [hE, okN_yes rfl, Vi.getN_yes hk hle']
  refine ⟨h0, ?_, hle', fun l hl => ?_⟩
  · show (if numE s z.a z.e k lo hi out = 0 then z.a + k else z.a) = _
    rw [if_pos hE]
  · have hb := hl.back hle'
    have hd := Vi.digs_num (Vi.part s z.a k) (Vi.part_bd s z.a k)
    rw [Vi.part_length s z.a k hle'] at hd
    rw [hv, hd]
    exact hb
theorem cnt_at {s : ByteArray} {lo hi out : Int} {z : St} (ha : z.a ≤ s.size) (he : (cntSt s lo hi out z).e = 0) :
    z.e = 0 ∧ (cntSt s lo hi out z).a ≤ s.size ∧ z.a < (cntSt s lo hi out z).a ∧ 0 ≤ cntV s lo hi out z ∧ ∀ l, Left s (cntSt s lo hi out z).a l → Left s z.a (Vi.vlist (cntV s lo hi out z) ++ l) := by
  have hE : cntE s z.a z.e lo hi out = 0 := he
  have h0 : z.e = 0 := by
    by_cases h : z.e = 0
    · exact h
    · rw [cntE_old h] at hE
      exact hE
  have hg := cntE_ok hE
  have hw := Vi.wid_nn (Vi.fst s z.a)
  have hT : Vi.gotT s z.a = z.a + 1 + Vi.wid (Vi.fst s z.a) := by unfold Vi.gotT; rw [if_pos hg]
  have hle := (gotT_le ha hg).2
  have hN : Vi.gotN s z.a = Vi.body s z.a := by unfold Vi.gotN; rw [if_pos hg]
  have hv : cntV s lo hi out z = Vi.body s z.a := by
    show okN (cntE s z.a z.e lo hi out) (Vi.gotN s z.a) = _
    rw [hE, okN_yes rfl, hN]
  have hA : (cntSt s lo hi out z).a = (Vi.gotT s z.a).toNat := by
    show (if cntE s z.a z.e lo hi out = 0 then (Vi.gotT s z.a).toNat else z.a) = _
    rw [if_pos hE]
  obtain ⟨k, hk⟩ : ∃ k : Nat, (k : Int) = Vi.wid (Vi.fst s z.a) := ⟨(Vi.wid (Vi.fst s z.a)).toNat, by omega⟩
  have hA' : (cntSt s lo hi out z).a = z.a + (1 + k) := by rw [hA]; omega
  have hle' : z.a + 1 + k ≤ s.size := by omega
  have hvl : (Vi.vlen (Vi.body s z.a) : Int) = 1 + Vi.wid (Vi.fst s z.a) := by
    by_cases h : (Vi.vlen (Vi.body s z.a) : Int) = 1 + Vi.wid (Vi.fst s z.a)
    · exact h
    · rw [Vi.gotE_form (by omega) (by omega) h] at hg
      omega
  have hvs := Vi.vstr_at s z.a k hle' hk hvl
  refine ⟨h0, by omega, by omega, by rw [hv]; exact (Vi.body_bd s z.a (by omega)).1, fun l hl => ?_⟩
  rw [hA'] at hl
  have hb := hl.back (by omega)
  have e : Vi.vlist (Vi.body s z.a) = Vi.part s z.a (1 + k) := by
    rw [← Vi.vstr_nums, hvs, show z.a + 1 + k = z.a + (1 + k) from by omega, Vi.extract_part]
    exact Vi.nums_strOfNums _ (Vi.part_bd _ _ _)
  rw [hv, e]
  exact hb
theorem byt_at {s : ByteArray} {n : Nat} {z : St} (he : (bytSt s n z).e = 0) :
    z.e = 0 ∧ (bytSt s n z).a = z.a + n ∧ z.a + n ≤ s.size ∧ (bytV s n z).size = n ∧ ∀ l, Left s (z.a + n) l → Left s z.a (Vi.nums (bytV s n z) ++ l) := by
  have hE : bytE s z.a z.e n = 0 := he
  have h0 : z.e = 0 := by
    by_cases h : z.e = 0
    · exact h
    · rw [bytE_old h] at hE
      exact hE
  have hle : z.a + n ≤ s.size := by
    unfold bytE at hE
    split at hE
    · exact absurd hE (refD_no (by omega))
    · omega
  have hv : bytV s n z = strOfNums (Vi.part s z.a n) := by
    show bytS s z.a z.e n = _
    unfold bytS
    rw [if_pos hE]
    show s.extract z.a ((z.a : Int) + (n : Nat)).toNat = _
    rw [show ((z.a : Int) + (n : Nat)).toNat = z.a + n from by omega, Vi.extract_part]
  refine ⟨h0, ?_, hle, ?_, fun l hl => ?_⟩
  · show (if bytE s z.a z.e n = 0 then z.a + n else z.a) = _
    rw [if_pos hE]
  · rw [hv, strOfNums_size, Vi.part_length _ _ _ hle]
  · rw [hv, Vi.nums_strOfNums _ (Vi.part_bd _ _ _)]
    exact hl.back hle

/-! Rows. -/
theorem iter_shift (f : St → St) (k : Nat) (z : St) : iter f (k + 1) z = iter f k (f z) := by
  induction k with
  | zero => rfl
  | succ k ih =>
    show f (iter f (k + 1) z) = f (iter f k (f z))
    rw [ih]
theorem iter_of {α β : Type} {s : ByteArray} (f : St → St) (g : α → List Int) (V : St → β) (F : α → β) (P : α → Prop)
    (step : ∀ a x l, P x → Left s a (g x ++ l) → f ⟨a, 0⟩ = ⟨a + (g x).length, 0⟩ ∧ V ⟨a, 0⟩ = F x) :
    ∀ (xs : List α) (a : Nat) (l : List Int), (∀ x ∈ xs, P x) → Left s a (xs.flatMap g ++ l) →
      iter f xs.length ⟨a, 0⟩ = ⟨a + (xs.flatMap g).length, 0⟩ ∧ (List.range xs.length).map (fun j => V (iter f j ⟨a, 0⟩)) = xs.map F ∧ Left s (a + (xs.flatMap g).length) l := by
  intro xs
  induction xs with
  | nil =>
    intro a l _ h
    exact ⟨rfl, rfl, h⟩
  | cons x r ih =>
    intro a l hP h
    rw [List.flatMap_cons, List.append_assoc] at h
    obtain ⟨h1, h2⟩ := step a x _ (hP x (by simp)) h
    have hn := h.next
    obtain ⟨i1, i2, i3⟩ := ih _ l (fun y hy => hP y (by simp [hy])) hn
    have e : a + (List.flatMap g (x :: r)).length = a + (g x).length + (List.flatMap g r).length := by rw [List.flatMap_cons, List.length_append]; omega
    refine ⟨?_, ?_, ?_⟩
    · rw [List.length_cons, iter_shift, h1, i1, e]
    · rw [List.length_cons, List.range_succ_eq_map, List.map_cons, List.map_map, List.map_cons]
      congr 1
      rw [← i2]
      refine List.map_congr_left fun j _ => ?_
      show V (iter f (j + 1) ⟨a, 0⟩) = _
      rw [iter_shift, h1]
    · rw [e]
      exact i3
theorem iter_at {β : Type} {s : ByteArray} (f : St → St) (g : β → List Int) (V : St → β) (hin : ∀ z : St, z.a ≤ s.size → (f z).a ≤ s.size)
    (step : ∀ z : St, z.a ≤ s.size → (f z).e = 0 → z.e = 0 ∧ ∀ l, Left s (f z).a l → Left s z.a (g (V z) ++ l)) :
    ∀ (n : Nat) (z : St), z.a ≤ s.size → (iter f n z).e = 0 → z.e = 0 ∧ ∀ l, Left s (iter f n z).a l → Left s z.a (((List.range n).map fun j => V (iter f j z)).flatMap g ++ l) := by
  intro n
  induction n with
  | zero =>
    intro z hz he
    exact ⟨he, fun l h => h⟩
  | succ n ih =>
    intro z hz he
    rw [iter_shift] at he
    obtain ⟨i1, i2⟩ := ih (f z) (hin z hz) he
    obtain ⟨s1, s2⟩ := step z hz i1
    refine ⟨s1, fun l h => ?_⟩
    rw [iter_shift] at h
    have h3 := s2 _ (i2 l h)
    rw [List.range_succ_eq_map, List.map_cons, List.map_map, List.flatMap_cons, List.append_assoc]
    have e : ((fun j => V (iter f j z)) ∘ Nat.succ) = fun j => V (iter f j (f z)) := by
      funext j
      show V (iter f (j + 1) z) = _
      rw [iter_shift]
    rw [e]
    exact h3

end Go.Proofs.Ytkdkkndccjddnaa
