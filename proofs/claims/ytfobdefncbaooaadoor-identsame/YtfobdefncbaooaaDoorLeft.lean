/-
  What is left of a text from a place on: what each part of a reading takes off it, and what each part that was taken had been.
  The reader takes a transaction, walked.
  Decode.
-/
import Derived.Test.YtfobdefncbaooaaDoorRnum
import Derived.Test.YtfobdefncbaooaaDoorWmath
import Derived.Test.YtfobdefncbaooaaDoorEnc
import Derived.Test.YtfobdefncbaooaaDoorRd
import Derived.Test.YtfobdefncbaooaaDoorCheck
import Derived.BigRegion

namespace Go.Proofs.YtfobdefncbaooaaDoor.Vi
open Go.RowKit
theorem part_drop {s : ByteArray} {a k : Nat} {l r : List Int} (h : (nums s).drop a = l ++ r) (hk : l.length = k) : part s a k = l := by
  unfold part
  rw [h, List.take_append_of_le_length (by omega), List.take_of_length_le (by omega)]
theorem drop_size {s : ByteArray} {a : Nat} {l r : List Int} (h : (nums s).drop a = l ++ r) (hl : 1 ≤ l.length) : a + l.length + r.length = s.size := by
  have := congrArg List.length h
  rw [List.length_drop, nums_length, List.length_append] at this
  omega
theorem drop_one {s : ByteArray} {a : Nat} {b : Int} {l r : List Int} (h : (nums s).drop a = b :: l ++ r) : (nums s).drop (a + 1) = l ++ r := by
  rw [← List.drop_drop, h]
  rfl
theorem fst_drop {s : ByteArray} {a : Nat} {b : Int} {r : List Int} (h : (nums s).drop a = b :: r) : fst s a = b := by
  have hs := drop_size (l := [b]) (r := r) h (by simp)
  simp at hs
  have e := part_one s a (by omega)
  rw [part_drop (k := 1) (l := [b]) (r := r) h rfl] at e
  simpa using e.symm

/-- At a place where a number's bytes stand: the number, the place behind it, and no error. -/
theorem got_drop (s : ByteArray) (a : Nat) (n : Int) (r : List Int) (h0 : 0 ≤ n) (h1 : n < 18446744073709551616) (h : (nums s).drop a = vlist n ++ r) :
    gotE s a = 0 ∧ gotN s a = n ∧ gotT s a = a + vlen n := by
  have hs := drop_size h (by rw [vlist_length]; exact (vlen_pos n).1)
  rw [vlist_length] at hs
  have key : body s a = n ∧ (vlen n : Int) = 1 + wid (fst s a) := by
    unfold vlist at h
    unfold vlen at hs ⊢
    by_cases c1 : n < 253
    · rw [if_pos c1] at h hs ⊢
      have e : fst s a = n := (fst_drop (b := n % 256) h).trans (by omega)
      rw [body_less (by omega), e]
      exact ⟨rfl, by simp [wid, c1]⟩
    rw [if_neg c1] at h hs ⊢
    by_cases c2 : n < 65536
    · rw [if_pos c2] at h hs ⊢
      have e : fst s a = 253 := fst_drop h
      have e2 : part s (a + 1) 2 = digs n 2 := part_drop (drop_one h) (digs_length _ _)
      rw [body_more (by omega), e]
      refine ⟨?_, rfl⟩
      refine (getN_yes (s := s) (a := a + 1) (k := 2) (by decide) (by omega)).trans ?_
      rw [e2, num_digs]
      simp
      omega
    rw [if_neg c2] at h hs ⊢
    by_cases c3 : n < 4294967296
    · rw [if_pos c3] at h hs ⊢
      have e : fst s a = 254 := fst_drop h
      have e2 : part s (a + 1) 4 = digs n 4 := part_drop (drop_one h) (digs_length _ _)
      rw [body_more (by omega), e]
      refine ⟨?_, rfl⟩
      refine (getN_yes (s := s) (a := a + 1) (k := 4) (by decide) (by omega)).trans ?_
      rw [e2, num_digs]
      simp
      omega
    rw [if_neg c3] at h hs ⊢
    have e : fst s a = 255 := fst_drop h
    have e2 : part s (a + 1) 8 = digs n 8 := part_drop (drop_one h) (digs_length _ _)
    rw [body_more (by omega), e]
    refine ⟨?_, rfl⟩
    refine (getN_yes (s := s) (a := a + 1) (k := 8) (by decide) (by omega)).trans ?_
    rw [e2, num_digs]
    simp
    omega
  obtain ⟨k1, k2⟩ := key
  have hE : gotE s a = 0 := gotE_ok (by omega) (by omega) (by rw [k1]; exact k2)
  refine ⟨hE, ?_, ?_⟩
  · rw [gotN, if_pos hE, k1]
  · rw [gotT, if_pos hE]
    omega

end Go.Proofs.YtfobdefncbaooaaDoor.Vi
namespace Go.Proofs.YtfobdefncbaooaaDoor
open Go.RowKit

/-- What is left of a text from a place on. -/
def Left (s : ByteArray) (a : Nat) (l : List Int) : Prop := (Vi.nums s).drop a = l ∧ a ≤ s.size
theorem Left.size {s : ByteArray} {a : Nat} {l : List Int} (h : Left s a l) : a + l.length = s.size := by
  have e := congrArg List.length h.1
  have h2 := h.2
  rw [List.length_drop, Vi.nums_length] at e
  omega
theorem Left.next {s : ByteArray} {a : Nat} {p l : List Int} (h : Left s a (p ++ l)) : Left s (a + p.length) l := by
  refine ⟨?_, ?_⟩
  · rw [← List.drop_drop, h.1, List.drop_left]
  · have e := h.size
    rw [List.length_append] at e
    omega
theorem Left.part {s : ByteArray} {a : Nat} {p l : List Int} (h : Left s a (p ++ l)) : Vi.part s a p.length = p := by
  unfold Vi.part
  rw [h.1, List.take_left]
theorem Left.all (s : ByteArray) : Left s 0 (Vi.nums s) := ⟨rfl, Nat.zero_le _⟩
theorem Left.back {s : ByteArray} {a k : Nat} {l : List Int} (hk : a + k ≤ s.size) (h : Left s (a + k) l) : Left s a (Vi.part s a k ++ l) := by
  refine ⟨?_, by omega⟩
  unfold Vi.part
  rw [← h.1, ← List.drop_drop, List.take_append_drop]
theorem nums_put (n : Int) {k : Nat} (hk : Vi.szB k = true) : Vi.nums (Vi.putS n k) = Vi.digs n k := by
  rw [Vi.putS_yes hk]
  exact Vi.nums_strOfNums _ (Vi.digs_bd k n)

/-- A number that stands there is read. -/
theorem num_of {s : ByteArray} {a k : Nat} {n : Int} {l : List Int} {lo hi : Int} (out : Int) (h : Left s a (Vi.digs n k ++ l)) (hk : Vi.szB k = true) (h0 : 0 ≤ n) (h1 : n < 256 ^ k) (hl : lo ≤ n) (hh : n ≤ hi) :
    numSt s k lo hi out ⟨a, 0⟩ = ⟨a + k, 0⟩ ∧ numV s k lo hi out ⟨a, 0⟩ = n ∧ Left s (a + k) l := by
  have hz := h.size
  rw [List.length_append, Vi.digs_length] at hz
  have hp := h.part
  rw [Vi.digs_length] at hp
  have hn := h.next
  rw [Vi.digs_length] at hn
  have ho : Vi.okB s a k = true := Vi.okB_yes hk (by omega)
  have hg : Vi.getN s a k = n := by
    rw [Vi.getN_yes hk (by omega), hp, Vi.num_digs]
    exact Int.emod_eq_of_lt h0 h1
  have hE : numE s (a : Nat) 0 k lo hi out = 0 := by
    unfold numE
    rw [ho, hg, if_pos rfl]
    unfold spanE
    rw [if_neg (by omega)]
  refine ⟨?_, ?_, hn⟩
  · show St.mk (if numE s (a : Nat) 0 k lo hi out = 0 then a + k else a) (numE s (a : Nat) 0 k lo hi out) = _
    rw [hE, if_pos rfl]
  · show okN (numE s (a : Nat) 0 k lo hi out) (Vi.getN s a k) = n
    rw [hE, hg, okN_yes rfl]
theorem cnt_of {s : ByteArray} {a : Nat} {n : Int} {l : List Int} {lo hi : Int} (out : Int) (h : Left s a (Vi.vlist n ++ l)) (h0 : 0 ≤ n) (h1 : n < 18446744073709551616) (hl : lo ≤ n) (hh : n ≤ hi) :
    cntSt s lo hi out ⟨a, 0⟩ = ⟨a + Vi.vlen n, 0⟩ ∧ cntV s lo hi out ⟨a, 0⟩ = n ∧ Left s (a + Vi.vlen n) l := by
  obtain ⟨g1, g2, g3⟩ := Vi.got_drop s a n l h0 h1 h.1
  have hn := h.next
  rw [Vi.vlist_length] at hn
  have hE : cntE s (a : Nat) 0 lo hi out = 0 := by
    unfold cntE
    rw [g1, g2]
    unfold spanE refD
    rw [if_pos rfl, if_neg (by omega)]
  refine ⟨?_, ?_, hn⟩
  · show St.mk (if cntE s (a : Nat) 0 lo hi out = 0 then (Vi.gotT s a).toNat else a) (cntE s (a : Nat) 0 lo hi out) = _
    rw [hE, if_pos rfl, g3]
    congr 1
  · show okN (cntE s (a : Nat) 0 lo hi out) (Vi.gotN s a) = n
    rw [hE, g2, okN_yes rfl]
theorem byt_of {s : ByteArray} {a : Nat} {p : ByteArray} {l : List Int} (h : Left s a (Vi.nums p ++ l)) :
    bytSt s p.size ⟨a, 0⟩ = ⟨a + p.size, 0⟩ ∧ bytV s p.size ⟨a, 0⟩ = p ∧ Left s (a + p.size) l := by
  have hz := h.size
  rw [List.length_append, Vi.nums_length] at hz
  have hp := h.part
  rw [Vi.nums_length] at hp
  have hn := h.next
  rw [Vi.nums_length] at hn
  have hE : bytE s (a : Nat) 0 (p.size : Nat) = 0 := by
    unfold bytE
    rw [if_neg (by omega)]
  refine ⟨?_, ?_, hn⟩
  · show St.mk (if bytE s (a : Nat) 0 (p.size : Nat) = 0 then a + p.size else a) (bytE s (a : Nat) 0 (p.size : Nat)) = _
    rw [hE, if_pos rfl]
  · show bytS s (a : Nat) 0 (p.size : Nat) = p
    unfold bytS
    rw [if_pos hE]
    show s.extract a ((a : Int) + (p.size : Nat)).toNat = p
    rw [show ((a : Int) + (p.size : Nat)).toNat = a + p.size from by omega, Vi.extract_part, hp, Vi.strOfNums_nums]

/-- A number that was read stood there. -/
theorem num_at {s : ByteArray} {k : Nat} {lo hi out : Int} {z : St} (hk : Vi.szB k = true) (he : (numSt s k lo hi out z).e = 0) :
    z.e = 0 ∧ (numSt s k lo hi out z).a = z.a + k ∧ z.a + k ≤ s.size ∧ ∀ l, Left s (z.a + k) l → Left s z.a (Vi.digs (numV s k lo hi out z) k ++ l) := by
  have hE : numE s z.a z.e k lo hi out = 0 := he
  have h0 : z.e = 0 := by
    by_cases h : z.e = 0
    · exact h
    · rw [numE_old h] at hE
      exact hE
  have hle := okB_le (numE_ok hE)
  have hle' : z.a + k ≤ s.size := by omega
  have hv : numV s k lo hi out z = Vi.num (Vi.part s z.a k) := by
    show okN (numE s z.a z.e k lo hi out) (Vi.getN s z.a k) = _
    rw [hE, okN_yes rfl, Vi.getN_yes hk hle']
  refine ⟨h0, ?_, hle', fun l hl => ?_⟩
  · show (if numE s z.a z.e k lo hi out = 0 then z.a + k else z.a) = _
    rw [if_pos hE]
  · have hb := hl.back hle'
    have hd := Vi.digs_num (Vi.part s z.a k) (Vi.part_bd s z.a k)
    rw [Vi.part_length s z.a k hle'] at hd
    rw [hv, hd]
    exact hb
theorem cnt_at {s : ByteArray} {lo hi out : Int} {z : St} (ha : z.a ≤ s.size) (he : (cntSt s lo hi out z).e = 0) :
    z.e = 0 ∧ (cntSt s lo hi out z).a ≤ s.size ∧ z.a < (cntSt s lo hi out z).a ∧ 0 ≤ cntV s lo hi out z ∧ ∀ l, Left s (cntSt s lo hi out z).a l → Left s z.a (Vi.vlist (cntV s lo hi out z) ++ l) := by
  have hE : cntE s z.a z.e lo hi out = 0 := he
  have h0 : z.e = 0 := by
    by_cases h : z.e = 0
    · exact h
    · rw [cntE_old h] at hE
      exact hE
  have hg := cntE_ok hE
  have hw := Vi.wid_nn (Vi.fst s z.a)
  have hT : Vi.gotT s z.a = z.a + 1 + Vi.wid (Vi.fst s z.a) := by unfold Vi.gotT; rw [if_pos hg]
  have hle := (gotT_le ha hg).2
  have hN : Vi.gotN s z.a = Vi.body s z.a := by unfold Vi.gotN; rw [if_pos hg]
  have hv : cntV s lo hi out z = Vi.body s z.a := by
    show okN (cntE s z.a z.e lo hi out) (Vi.gotN s z.a) = _
    rw [hE, okN_yes rfl, hN]
  have hA : (cntSt s lo hi out z).a = (Vi.gotT s z.a).toNat := by
    show (if cntE s z.a z.e lo hi out = 0 then (Vi.gotT s z.a).toNat else z.a) = _
    rw [if_pos hE]
  obtain ⟨k, hk⟩ : ∃ k : Nat, (k : Int) = Vi.wid (Vi.fst s z.a) := ⟨(Vi.wid (Vi.fst s z.a)).toNat, by omega⟩
  have hA' : (cntSt s lo hi out z).a = z.a + (1 + k) := by rw [hA]; omega
  have hle' : z.a + 1 + k ≤ s.size := by omega
  have hvl : (Vi.vlen (Vi.body s z.a) : Int) = 1 + Vi.wid (Vi.fst s z.a) := by
    by_cases h : (Vi.vlen (Vi.body s z.a) : Int) = 1 + Vi.wid (Vi.fst s z.a)
    · exact h
    · rw [Vi.gotE_form (by omega) (by omega) h] at hg
      omega
  have hvs := Vi.vstr_at s z.a k hle' hk hvl
  refine ⟨h0, by omega, by omega, by rw [hv]; exact (Vi.body_bd s z.a (by omega)).1, fun l hl => ?_⟩
  rw [hA'] at hl
  have hb := hl.back (by omega)
  have e : Vi.vlist (Vi.body s z.a) = Vi.part s z.a (1 + k) := by
    rw [← Vi.vstr_nums, hvs, show z.a + 1 + k = z.a + (1 + k) from by omega, Vi.extract_part]
    exact Vi.nums_strOfNums _ (Vi.part_bd _ _ _)
  rw [hv, e]
  exact hb
theorem byt_at {s : ByteArray} {n : Nat} {z : St} (he : (bytSt s n z).e = 0) :
    z.e = 0 ∧ (bytSt s n z).a = z.a + n ∧ z.a + n ≤ s.size ∧ (bytV s n z).size = n ∧ ∀ l, Left s (z.a + n) l → Left s z.a (Vi.nums (bytV s n z) ++ l) := by
  have hE : bytE s z.a z.e n = 0 := he
  have h0 : z.e = 0 := by
    by_cases h : z.e = 0
    · exact h
    · rw [bytE_old h] at hE
      exact hE
  have hle : z.a + n ≤ s.size := by
    unfold bytE at hE
    split at hE
    · exact absurd hE (refD_no (by omega))
    · omega
  have hv : bytV s n z = strOfNums (Vi.part s z.a n) := by
    show bytS s z.a z.e n = _
    unfold bytS
    rw [if_pos hE]
    show s.extract z.a ((z.a : Int) + (n : Nat)).toNat = _
    rw [show ((z.a : Int) + (n : Nat)).toNat = z.a + n from by omega, Vi.extract_part]
  refine ⟨h0, ?_, hle, ?_, fun l hl => ?_⟩
  · show (if bytE s z.a z.e n = 0 then z.a + n else z.a) = _
    rw [if_pos hE]
  · rw [hv, strOfNums_size, Vi.part_length _ _ _ hle]
  · rw [hv, Vi.nums_strOfNums _ (Vi.part_bd _ _ _)]
    exact hl.back hle

/-! Rows. -/
theorem iter_shift (f : St → St) (k : Nat) (z : St) : iter f (k + 1) z = iter f k (f z) := by
  induction k with
  | zero => rfl
  | succ k ih =>
    show f (iter f (k + 1) z) = f (iter f k (f z))
    rw [ih]
theorem iter_of {α β : Type} {s : ByteArray} (f : St → St) (g : α → List Int) (V : St → β) (F : α → β) (P : α → Prop)
    (step : ∀ a x l, P x → Left s a (g x ++ l) → f ⟨a, 0⟩ = ⟨a + (g x).length, 0⟩ ∧ V ⟨a, 0⟩ = F x) :
    ∀ (xs : List α) (a : Nat) (l : List Int), (∀ x ∈ xs, P x) → Left s a (xs.flatMap g ++ l) →
      iter f xs.length ⟨a, 0⟩ = ⟨a + (xs.flatMap g).length, 0⟩ ∧ (List.range xs.length).map (fun j => V (iter f j ⟨a, 0⟩)) = xs.map F ∧ Left s (a + (xs.flatMap g).length) l := by
  intro xs
  induction xs with
  | nil =>
    intro a l _ h
    exact ⟨rfl, rfl, h⟩
  | cons x r ih =>
    intro a l hP h
    rw [List.flatMap_cons, List.append_assoc] at h
    obtain ⟨h1, h2⟩ := step a x _ (hP x (by simp)) h
    have hn := h.next
    obtain ⟨i1, i2, i3⟩ := ih _ l (fun y hy => hP y (by simp [hy])) hn
    have e : a + (List.flatMap g (x :: r)).length = a + (g x).length + (List.flatMap g r).length := by rw [List.flatMap_cons, List.length_append]; omega
    refine ⟨?_, ?_, ?_⟩
    · rw [List.length_cons, iter_shift, h1, i1, e]
    · rw [List.length_cons, List.range_succ_eq_map, List.map_cons, List.map_map, List.map_cons]
      congr 1
      rw [← i2]
      refine List.map_congr_left fun j _ => ?_
      show V (iter f (j + 1) ⟨a, 0⟩) = _
      rw [iter_shift, h1]
    · rw [e]
      exact i3
theorem iter_at {β : Type} {s : ByteArray} (f : St → St) (g : β → List Int) (V : St → β) (hin : ∀ z : St, z.a ≤ s.size → (f z).a ≤ s.size)
    (step : ∀ z : St, z.a ≤ s.size → (f z).e = 0 → z.e = 0 ∧ ∀ l, Left s (f z).a l → Left s z.a (g (V z) ++ l)) :
    ∀ (n : Nat) (z : St), z.a ≤ s.size → (iter f n z).e = 0 → z.e = 0 ∧ ∀ l, Left s (iter f n z).a l → Left s z.a (((List.range n).map fun j => V (iter f j z)).flatMap g ++ l) := by
  intro n
  induction n with
  | zero =>
    intro z hz he
    exact ⟨he, fun l h => h⟩
  | succ n ih =>
    intro z hz he
    rw [iter_shift] at he
    obtain ⟨i1, i2⟩ := ih (f z) (hin z hz) he
    obtain ⟨s1, s2⟩ := step z hz i1
    refine ⟨s1, fun l h => ?_⟩
    rw [iter_shift] at h
    have h3 := s2 _ (i2 l h)
    rw [List.range_succ_eq_map, List.map_cons, List.map_map, List.flatMap_cons, List.append_assoc]
    have e : ((fun j => V (iter f j z)) ∘ Nat.succ) = fun j => V (iter f j (f z)) := by
      funext j
      show V (iter f (j + 1) z) = _
      rw [iter_shift]
    rw [e]
    exact h3

end Go.Proofs.YtfobdefncbaooaaDoor

namespace Go.Proofs.YtfobdefncbaooaaDoor
open Go.RowKit

theorem Only.kept {g lo : Nat} {u v : World} (h : Only g u v) (hg : g < lo) : Kept lo u.heap.size u v := fun b h1 h2 => h.block b h2 (by omega)
theorem Only2.kept {g b lo : Nat} {u v : World} (h : Only2 g b u v) (hg : g < lo) (hb : b < lo) : Kept lo u.heap.size u v := fun c h1 h2 => h.block c h2 (by omega) (by omega)

/-- Where the reading of a transaction stands. -/
structure TrS (w : World) (g : Nat) (s : ByteArray) (z : St) (v0 v1 v2 v3 : Value) (wr : World) : Prop where
  bt : Open wr (w.heap.size + 1) v0 v1 v2 v3
  br : Open wr w.heap.size (.int .u32 0) (.slice none 0 0) (.slice none 0 0) (.int .u32 0)
  rd : RdS wr g s z
  only : Only g w wr
  lt : w.heap.size + 2 ≤ wr.heap.size
theorem TrS.step {w : World} {g : Nat} {s : ByteArray} {z z' : St} {v0 v1 v2 v3 : Value} {wr wx : World} (h : TrS w g s z v0 v1 v2 v3 wr) (hg : g < w.heap.size) (ho : Only g wr wx) (hr : RdS wx g s z') : TrS w g s z' v0 v1 v2 v3 wx := by
  have hl := h.lt
  exact ⟨h.bt.keep (ho.block _ (by omega) (by omega)), h.br.keep (ho.block _ (by omega) (by omega)), hr, h.only.trans ho, Nat.le_trans hl ho.size⟩
theorem TrS.two {w : World} {g b : Nat} {s : ByteArray} {z z' : St} {v0 v1 v2 v3 : Value} {wr wx : World} (h : TrS w g s z v0 v1 v2 v3 wr) (hg : g < w.heap.size) (hb : w.heap.size + 2 ≤ b) (ho : Only2 g b wr wx) (hr : RdS wx g s z') : TrS w g s z' v0 v1 v2 v3 wx := by
  have hl := h.lt
  have h0 := h.only
  exact ⟨h.bt.keep (ho.block _ (by omega) (by omega) (by omega)), h.br.keep (ho.block _ (by omega) (by omega) (by omega)), hr, ⟨ho.os.trans h0.os, ho.tape.trans h0.tape, ho.output.trans h0.output, Nat.le_trans h0.size ho.size, fun c hc h1 => (ho.block c (by omega) h1 (by omega)).trans (h0.block c hc h1)⟩, Nat.le_trans hl ho.size⟩
theorem TrS.set {w : World} {g : Nat} {s : ByteArray} {z : St} {v0 v1 v2 v3 u0 u1 u2 u3 : Value} {wr : World} (h : TrS w g s z v0 v1 v2 v3 wr) (hg : g < w.heap.size) {o : Nat} {x : Value} (hb : Open (wr.setCell ⟨w.heap.size + 1, o, none⟩ x) (w.heap.size + 1) u0 u1 u2 u3) : TrS w g s z u0 u1 u2 u3 (wr.setCell ⟨w.heap.size + 1, o, none⟩ x) :=
  ⟨hb, h.br.keep (Below.heap_setCell _ _ _ _ (by show w.heap.size ≠ w.heap.size + 1; omega)), h.rd.new (by omega) _, h.only.new (by omega) _, by rw [World.size_setCell]; exact h.lt⟩
theorem keepSet {w wr : World} {o lo hi : Nat} (x : Value) (hlo : w.heap.size + 2 ≤ lo) : Kept lo hi wr (wr.setCell ⟨w.heap.size + 1, o, none⟩ x) := Kept.setCell (.inl (by show w.heap.size + 1 < lo; omega)) x

/-- The Ins, read, with their Witnesses. -/
def InsDone (w : World) (s : ByteArray) (z : St) (b : Nat) (wx : World) : Prop :=
  ∃ V : Nat → Value, wx.rowIs b 47 (tN s z * 4) (fun i => if i % 4 = 3 then V (i / 4) else isF s (t2 s z) (tN s z) i) ∧ ∀ j, j < tN s z → Strs wx (w.heap.size + 2) wx.heap.size (V j) (trIn s z j).wit
theorem InsDone.keep {w : World} {s : ByteArray} {z : St} {b : Nat} {wx wy : World} (h : InsDone w s z b wx) (hb : w.heap.size + 2 ≤ b) (hk : Kept (w.heap.size + 2) wx.heap.size wx wy) (hs : wx.heap.size ≤ wy.heap.size) : InsDone w s z b wy := by
  obtain ⟨V, h1, h2⟩ := h
  exact ⟨V, h1.of_block (hk b hb h1.lt), fun j hj => ((h2 j hj).keep hk).wide (Nat.le_refl _) hs⟩
theorem InsDone.ins {w : World} {s : ByteArray} {z : St} {b : Nat} {wx : World} (h : InsDone w s z b wx) (hb : w.heap.size + 2 ≤ b) : Ins wx (w.heap.size + 2) wx.heap.size (.slice (some ⟨b, 0, none⟩) (tN s z) (tN s z)) (trD s z).ins := by
  obtain ⟨V, h1, h2⟩ := h
  exact ins_row _ hb (trIn s z) V h1 (fun j hj => ⟨rfl, rfl, rfl, h2 j hj⟩)
theorem done_none {w wx : World} {s : ByteArray} {z : St} {b : Nat} (hm : tM s z = false) (h : wx.rowIs b 47 (tN s z * 4) (isF s (t2 s z) (tN s z))) : InsDone w s z b wx := by
  refine ⟨fun _ => .slice none 0 0, h.congr fun i _ => ?_, fun j _ => ?_⟩
  · by_cases e : i % 4 = 3
    · rw [if_pos e]
      unfold isF
      rw [e]
      rfl
    · rw [if_neg e]
  · have e : (trIn s z j).wit = [] := by unfold trIn; rw [hm]; rfl
    rw [e]
    exact Strs.nil _ _ _
theorem done_some {w wr wx : World} {s : ByteArray} {z : St} {b : Nat} {c : Nat → Nat} (hm : tM s z = true) (hz : w.heap.size + 2 ≤ wr.heap.size) (h : wx.rowIs b 47 (tN s z * 4) (wsF s (t4 s z) (isF s (t2 s z) (tN s z)) c (tN s z))) (hc : ∀ j, j < tN s z → wr.heap.size ≤ c j ∧ wx.rowIs (c j) 9 (wsN s (t4 s z) j) (wiF s (wsAt s (t4 s z) j) (wsN s (t4 s z) j))) : InsDone w s z b wx := by
  refine ⟨fun j => .slice (some ⟨c j, 0, none⟩) (wsN s (t4 s z) j) (wsN s (t4 s z) j), h.congr fun i hi => ?_, fun j hj => ?_⟩
  · unfold wsF
    by_cases e : i % 4 = 3
    · rw [if_pos e, if_pos ⟨e, by omega⟩]
    · rw [if_neg e, if_neg (fun hh => e hh.1)]
  · obtain ⟨h1, h2⟩ := hc j hj
    have e : (trIn s z j).wit = (List.range (wsN s (t4 s z) j)).map (wiV s (wsAt s (t4 s z) j)) := by unfold trIn; rw [hm]; rfl
    rw [e]
    exact strs_row _ (by omega) h2

set_option maxHeartbeats 4000000 in
set_option maxRecDepth 100000 in
theorem transaction_rd (g : Nat) (s : ByteArray) (z : St) (w : World) (h : RdS w g s z) (hs : s.size ≤ 140737488355328) :
    Calls Tryd.prog 38 #[.pointer (some ⟨g, 0, none⟩)] w fun x w' => ∃ (b1 b2 : Nat), x = .returned (.agg #[.int .u32 (trD s z).ver, .slice (some ⟨b1, 0, none⟩) (trD s z).ins.length (trD s z).ins.length, .slice (some ⟨b2, 0, none⟩) (trD s z).outs.length (trD s z).outs.length, .int .u32 (trD s z).lock]) ∧
      TxAt w' w.heap.size w'.heap.size (.slice (some ⟨b1, 0, none⟩) (trD s z).ins.length (trD s z).ins.length) (.slice (some ⟨b2, 0, none⟩) (trD s z).outs.length (trD s z).outs.length) (trD s z) ∧ RdS w' g s (t7 s z) ∧ Only g w w' := by
  have hg := h.1.lt
  have HSZ := Lib.hid hs
  obtain ⟨w0, hw0⟩ : ∃ w0, w0 = (w.alloc (.cells #[.int .u32 0, .slice none 0 0, .slice none 0 0, .int .u32 0] 26)).alloc (.cells #[.int .u32 0, .slice none 0 0, .slice none 0 0, .int .u32 0] 26) := ⟨_, rfl⟩
  have hb0 : Below w.heap.size w w0 := by rw [hw0]; exact ((Below.refl _ _).alloc (Nat.le_refl _) _).alloc (by simp) _
  have T0 := Lib.hid (show TrS w g s z (.int .u32 0) (.slice none 0 0) (.slice none 0 0) (.int .u32 0) w0 from by
    refine ⟨?_, ?_, h.below hb0, Only.of_below hb0, by rw [hw0]; simp⟩
    · have q := Open.new (w.alloc (.cells #[.int .u32 0, .slice none 0 0, .slice none 0 0, .int .u32 0] 26)) (.int .u32 0) (.slice none 0 0) (.slice none 0 0) (.int .u32 0) 26
      rw [World.size_alloc] at q
      rw [hw0]
      exact q
    · rw [hw0]
      exact (Open.new w _ _ _ _ 26).keep (Below.heap_alloc _ _ _ (by simp)))
  have HW0 := Lib.hid hw0
  clear h hs hb0 hw0
  go_enter Tryd.func38, Tryd.ntmps38
  go_upto_region 2 with (fail)
  rw [show World.alloc (World.alloc w _) _ = w0 from HW0.out.symm]
  go_wp2_with fail
  refine (word_st g s z w0 T0.out.rd HSZ.out).mono ?_
  rintro x w1 ⟨rfl, h1, o1⟩
  have T1 := Lib.hid (T0.out.step hg o1 h1)
  clear h1 o1 T0
  obtain ⟨⟨a0, a1, a2, a3⟩, fz⟩ := T1.out.bt
  have f0 := fz 0
  obtain ⟨v, hv⟩ : ∃ v, wdV s z = v := ⟨_, rfl⟩
  rw [hv]
  have EV := Lib.hid hv
  obtain ⟨w2, hw2⟩ : ∃ w2, w2 = w1.setCell ⟨w.heap.size + 1, 0, none⟩ (.int .u32 v) := ⟨_, rfl⟩
  have T2 := Lib.hid (show TrS w g s (t1 s z) (.int .u32 v) (.slice none 0 0) (.slice none 0 0) (.int .u32 0) w2 from by rw [hw2]; exact T1.out.set hg (T1.out.bt.set0 _))
  go_upto_region 3 with (fail)
  rw [← hw2]
  clear hv hw2 a0 a1 a2 a3 fz f0 T1
  go_wp2_with fail
  refine (mark_st g s (t1 s z) w2 T2.out.rd HSZ.out).mono ?_
  rintro x w3 ⟨rfl, h3, o3⟩
  have T3 := Lib.hid (show TrS w g s (t2 s z) (.int .u32 v) (.slice none 0 0) (.slice none 0 0) (.int .u32 0) w3 from T2.out.step hg o3 h3)
  clear h3 o3 T2
  obtain ⟨mk, hmk⟩ : ∃ mk, mkV s (t1 s z) = mk := ⟨_, rfl⟩
  rw [hmk]
  have EM := Lib.hid (show tM s z = mk from hmk)
  clear hmk
  go_wp2_with fail
  refine (ins_rd g s (t2 s z) w3 T3.out.rd HSZ.out).mono ?_
  rintro x w4 ⟨b1, rfl, hb1, r4, h4, o4⟩
  have T4 := Lib.hid (show TrS w g s (t3 s z) (.int .u32 v) (.slice none 0 0) (.slice none 0 0) (.int .u32 0) w4 from T3.out.step hg o4 h4)
  have hl3 := T3.out.lt
  have hb1' : w.heap.size + 2 ≤ b1 := by omega
  obtain ⟨n, hn⟩ : ∃ n, isN s (t2 s z) = n := ⟨_, rfl⟩
  have EN := Lib.hid (show tN s z = n from hn)
  rw [hn] at r4
  rw [hn]
  have hn256 : n ≤ 256 := by
    have q := cntV_in (s := s) (z := t2 s z) (lo := 1) (hi := 256) (out := 6) (by omega) (by omega) (by omega)
    rw [← hn]; unfold isN; omega
  have R4 := Lib.hid r4
  clear hn h4 o4 r4 T3 hl3 hb1
  obtain ⟨⟨a0, a1, a2, a3⟩, fz⟩ := T4.out.bt
  have f1 := fz 1
  obtain ⟨w5, hw5⟩ : ∃ w5, w5 = w4.setCell ⟨w.heap.size + 1, 1, none⟩ (.slice (some ⟨b1, 0, none⟩) n n) := ⟨_, rfl⟩
  have T5 := Lib.hid (show TrS w g s (t3 s z) (.int .u32 v) (.slice (some ⟨b1, 0, none⟩) n n) (.slice none 0 0) (.int .u32 0) w5 from by rw [hw5]; exact T4.out.set hg (T4.out.bt.set1 _))
  have R5 := Lib.hid (show w5.rowIs b1 47 (n * 4) (isF s (t2 s z) n) from by rw [hw5]; exact R4.out.setOther (by show b1 ≠ w.heap.size + 1; omega) _)
  go_upto_region 5 with (fail)
  rw [← hw5]
  clear hw5 a0 a1 a2 a3 fz f1 T4 R4
  go_wp2_with fail
  refine (outs_rd g s (t3 s z) w5 T5.out.rd HSZ.out).mono ?_
  rintro x w6 ⟨b2, rfl, hb2, r6, h6, o6⟩
  have T6 := Lib.hid (show TrS w g s (t4 s z) (.int .u32 v) (.slice (some ⟨b1, 0, none⟩) n n) (.slice none 0 0) (.int .u32 0) w6 from T5.out.step hg o6 h6)
  have RI6 := Lib.hid (R5.out.of_block (o6.block _ R5.out.lt (by omega)))
  have hl5 := T5.out.lt
  have hb2' : w.heap.size + 2 ≤ b2 := by omega
  obtain ⟨m, hm⟩ : ∃ m, osN s (t3 s z) = m := ⟨_, rfl⟩
  rw [hm] at r6
  rw [hm]
  have EO := Lib.hid hm
  have RO6 := Lib.hid r6
  have hne12 : b2 ≠ b1 := by have := R5.out.lt; omega
  clear hm h6 o6 r6 T5 R5 hl5 hb2
  obtain ⟨⟨a0, a1, a2, a3⟩, fz⟩ := T6.out.bt
  have f2 := fz 2
  obtain ⟨w7, hw7⟩ : ∃ w7, w7 = w6.setCell ⟨w.heap.size + 1, 2, none⟩ (.slice (some ⟨b2, 0, none⟩) m m) := ⟨_, rfl⟩
  have T7 := Lib.hid (show TrS w g s (t4 s z) (.int .u32 v) (.slice (some ⟨b1, 0, none⟩) n n) (.slice (some ⟨b2, 0, none⟩) m m) (.int .u32 0) w7 from by rw [hw7]; exact T6.out.set hg (T6.out.bt.set2 _))
  have RI7 := Lib.hid (show w7.rowIs b1 47 (n * 4) (isF s (t2 s z) n) from by rw [hw7]; exact RI6.out.setOther (by show b1 ≠ w.heap.size + 1; omega) _)
  have RO7 := Lib.hid (show w7.rowIs b2 50 (m * 2) (osF s (t3 s z) m) from by rw [hw7]; exact RO6.out.setOther (by show b2 ≠ w.heap.size + 1; omega) _)
  go_upto_region 6 with (fail)
  rw [← hw7]
  clear hw7 a0 a1 a2 a3 fz f2 T6 RI6 RO6
  go_upto_if 16 with (fail)
  go_cut [] (fun wx => Hid (InsDone w s z b1 wx ∧ wx.rowIs b2 50 (m * 2) (osF s (t3 s z) m) ∧ TrS w g s (t5 s z) (.int .u32 v) (.slice (some ⟨b1, 0, none⟩) n n) (.slice (some ⟨b2, 0, none⟩) m m) (.int .u32 0) wx))
  case first =>
    cases mk
    · go_wp2_with fail
      go_meet
      refine Lib.hid ⟨done_none EM.out ?_, RO7.out, ?_⟩
      · rw [EN.out]; exact RI7.out
      · unfold t5
        rw [EM.out, if_neg (by decide)]
        exact T7.out
    · obtain ⟨⟨a0, a1, a2, a3⟩, fz⟩ := T7.out.bt
      go_wp2_with fail
      refine (witnesses_rd g b1 n s (t4 s z) _ w7 T7.out.rd HSZ.out hn256 RI7.out (by omega)).mono ?_
      rintro x w8 ⟨rfl, c, r8, hc8, h8, o8⟩
      go_wp2_with fail
      go_meet
      have hl7 := T7.out.lt
      refine Lib.hid ⟨done_some (wr := w7) (c := c) EM.out hl7 ?_ ?_, RO7.out.of_block (o8.block _ RO7.out.lt (by omega) hne12), ?_⟩
      · rw [EN.out]; exact r8
      · rw [EN.out]; exact hc8
      · unfold t5
        rw [EM.out, if_pos rfl, EN.out]
        exact T7.out.two hg hb1' o8 h8
  case rest =>
    obtain ⟨D8', R8', T8'⟩ := hcut.out
    have D8 := Lib.hid D8'
    have R8 := Lib.hid R8'
    have T8 := Lib.hid T8'
    clear hcut D8' R8' T8' T7 RI7 RO7
    go_wp2_with fail
    refine (word_st g s (t5 s z) wc T8.out.rd HSZ.out).mono ?_
    rintro x w9 ⟨rfl, h9, o9⟩
    have T9 := Lib.hid (show TrS w g s (t6 s z) (.int .u32 v) (.slice (some ⟨b1, 0, none⟩) n n) (.slice (some ⟨b2, 0, none⟩) m m) (.int .u32 0) w9 from T8.out.step hg o9 h9)
    have D9 := Lib.hid (D8.out.keep hb1' (o9.kept (by omega)) o9.size)
    have R9 := Lib.hid (R8.out.of_block (o9.block _ R8.out.lt (by omega)))
    clear h9 o9 T8 D8 R8
    obtain ⟨⟨a0, a1, a2, a3⟩, fz⟩ := T9.out.bt
    have f3 := fz 3
    obtain ⟨lk, hlk⟩ : ∃ lk, wdV s (t5 s z) = lk := ⟨_, rfl⟩
    rw [hlk]
    have EL := Lib.hid hlk
    obtain ⟨wk, hwk⟩ : ∃ wk, wk = w9.setCell ⟨w.heap.size + 1, 3, none⟩ (.int .u32 lk) := ⟨_, rfl⟩
    have TK := Lib.hid (show TrS w g s (t6 s z) (.int .u32 v) (.slice (some ⟨b1, 0, none⟩) n n) (.slice (some ⟨b2, 0, none⟩) m m) (.int .u32 lk) wk from by rw [hwk]; exact T9.out.set hg (T9.out.bt.set3 _))
    have DK := Lib.hid (show InsDone w s z b1 wk from by rw [hwk]; exact D9.out.keep hb1' (keepSet _ (Nat.le_refl _)) (by rw [World.size_setCell]; exact Nat.le_refl _))
    have RK := Lib.hid (show wk.rowIs b2 50 (m * 2) (osF s (t3 s z) m) from by rw [hwk]; exact R9.out.setOther (by show b2 ≠ w.heap.size + 1; omega) _)
    go_upto_region 9 with (fail)
    rw [← hwk]
    clear hlk hwk a0 a1 a2 a3 fz f3 T9 D9 R9
    go_wp2_with fail
    refine (end_st g s (t6 s z) wk TK.out.rd).mono ?_
    rintro x wl ⟨rfl, hl, ol⟩
    have TL := Lib.hid (show TrS w g s (t7 s z) (.int .u32 v) (.slice (some ⟨b1, 0, none⟩) n n) (.slice (some ⟨b2, 0, none⟩) m m) (.int .u32 lk) wl from TK.out.step hg ol hl)
    have DL := Lib.hid (DK.out.keep hb1' (ol.kept (by omega)) ol.size)
    have RL := Lib.hid (RK.out.of_block (ol.block _ RK.out.lt (by omega)))
    clear hl ol TK DK RK
    obtain ⟨⟨a0, a1, a2, a3⟩, fz⟩ := TL.out.bt
    obtain ⟨⟨e0, e1, e2, e3⟩, fe⟩ := TL.out.br
    have f0 := fe 0
    have f1 := fe 1
    have f2 := fe 2
    have f3 := fe 3
    have en : (trD s z).ins.length = n := by show ((List.range (tN s z)).map (trIn s z)).length = n; rw [List.length_map, List.length_range]; exact EN.out
    have em : (trD s z).outs.length = m := by show ((List.range (osN s (t3 s z))).map (osV s (t3 s z))).length = m; rw [List.length_map, List.length_range]; exact EO.out
    have HT := Lib.hid (show TxAt wl (w.heap.size + 2) wl.heap.size (.slice (some ⟨b1, 0, none⟩) n n) (.slice (some ⟨b2, 0, none⟩) m m) (trD s z) from by
      have q1 := DL.out.ins hb1'
      have q2 := outs_row (w.heap.size + 2) hb2' RL.out
      rw [EN.out] at q1
      refine ⟨q1, ?_⟩
      show Outs wl _ _ _ ((List.range (osN s (t3 s z))).map (osV s (t3 s z)))
      rw [EO.out]
      exact q2)
    have HV := Lib.hid (show (trD s z).ver = v ∧ (trD s z).lock = lk from ⟨EV.out, EL.out⟩)
    have HN := Lib.hid (show (trD s z).ins.length = n ∧ (trD s z).outs.length = m from ⟨en, em⟩)
    clear en em
    go_wp2_with fail
    refine bodyPost_ret (v := .agg #[.int .u32 v, .slice (some ⟨b1, 0, none⟩) n n, .slice (some ⟨b2, 0, none⟩) m m, .int .u32 lk]) (by simp [results, Tryd.results38, go_sem, e0, e1, e2, e3]) rfl ?_
    rw [HV.out.1, HV.out.2, HN.out.1, HN.out.2]
    refine ⟨b1, b2, rfl, ?_, (((TL.out.rd.new (by omega) _).new (by omega) _).new (by omega) _).new (by omega) _, (((TL.out.only.new (Nat.le_refl _) _).new (Nat.le_refl _) _).new (Nat.le_refl _) _).new (Nat.le_refl _) _⟩
    exact (HT.out.put4 (g := w.heap.size) (.inl (by omega)) (.int .u32 v) (.slice (some ⟨b1, 0, none⟩) n n) (.slice (some ⟨b2, 0, none⟩) m m) (.int .u32 lk)).wide (by omega) (Nat.le_of_eq (put4_size _ _ _ _ _ _).symm)

end Go.Proofs.YtfobdefncbaooaaDoor

namespace Go.Proofs.YtfobdefncbaooaaDoor
open Go.RowKit

theorem bytV_size (s : ByteArray) (n : Nat) (z : St) : (bytV s n z).size ≤ n := by
  unfold bytV bytS
  split
  · rw [ByteArray.size_extract]
    omega
  · exact Nat.zero_le _
theorem toNat_le {x : Int} {n : Nat} (h : 0 ≤ x ∧ x ≤ n) : x.toNat ≤ n := by omega
theorem wiV_size (s : ByteArray) (z : St) (j : Nat) : (wiV s z j).size ≤ 80 := by
  unfold wiV itV
  refine Nat.le_trans (bytV_size _ _ _) ?_
  exact toNat_le (n := 80) (cntV_in (by omega) (by omega) (by omega))
theorem osV_ok (s : ByteArray) (z : St) (j : Nat) : (osV s z j).Ok := by
  unfold osV ouV
  have h1 := numV_in (s := s) (k := 8) (lo := 0) (hi := 2100000000000000) (out := 3) (z := iter (ouSt s) j (cntSt s 1 256 6 z)) (by omega) (by omega) (by omega)
  refine ⟨by show _ ≤ numV _ _ _ _ _ _; omega, by show numV _ _ _ _ _ _ ≤ _; omega, ?_⟩
  refine Nat.le_trans (bytV_size _ _ _) ?_
  exact Nat.le_trans (toNat_le (n := 40) (cntV_in (by omega) (by omega) (by omega))) (by omega)
theorem trIn_ok (s : ByteArray) (z : St) (j : Nat) : (trIn s z j).Ok := by
  have h1 := wdV_in s (inA s (iter (inSt s) j (cntSt s 1 256 6 (t2 s z))))
  have h2 := wdV_in s (inC s (iter (inSt s) j (cntSt s 1 256 6 (t2 s z))))
  refine ⟨?_, h1.1, h1.2, h2.1, h2.2, ?_, ?_⟩
  · exact Nat.le_trans (bytV_size s 32 _) (by omega)
  · show (if tM s z = true then (List.range (wsN s (t4 s z) j)).map (wiV s (wsAt s (t4 s z) j)) else []).length ≤ 8
    split
    · rw [List.length_map, List.length_range]
      exact Nat.le_trans (wiN_le _ _) (by omega)
    · exact Nat.zero_le _
  · show ∀ x ∈ (if tM s z = true then (List.range (wsN s (t4 s z) j)).map (wiV s (wsAt s (t4 s z) j)) else []), x.size ≤ 128
    split
    · intro x hx
      obtain ⟨k, _, rfl⟩ := List.mem_map.1 hx
      exact Nat.le_trans (wiV_size _ _ _) (by omega)
    · intro x hx
      cases hx
theorem trD_ok (s : ByteArray) (z : St) : (trD s z).Ok := by
  have h1 := wdV_in s z
  have h2 := wdV_in s (t5 s z)
  refine ⟨?_, ?_, ?_, ?_, h1.1, h1.2, h2.1, h2.2⟩
  · show ((List.range _).map _).length ≤ 512
    rw [List.length_map, List.length_range]
    exact Nat.le_trans (toNat_le (n := 256) (cntV_in (by omega) (by omega) (by omega))) (by omega)
  · show ((List.range _).map _).length ≤ 512
    rw [List.length_map, List.length_range]
    exact Nat.le_trans (toNat_le (n := 256) (cntV_in (by omega) (by omega) (by omega))) (by omega)
  · intro x hx
    obtain ⟨k, _, rfl⟩ := List.mem_map.1 hx
    exact trIn_ok _ _ _
  · intro x hx
    obtain ⟨k, _, rfl⟩ := List.mem_map.1 hx
    exact osV_ok _ _ _

/-- Where a text's reading begins; the error, the place, the transaction of a text. -/
def z0 : St := ⟨0, 0⟩
def dcE (s : ByteArray) : Int := if (t7 s z0).e = 0 then checkD (trD s z0) else (t7 s z0).e
def dcA (s : ByteArray) : Nat := (t7 s z0).a
def dcT (s : ByteArray) : TxD := if dcE s = 0 then trD s z0 else ⟨0, [], [], 0⟩

/-- Where Decode stands behind its reading. -/
structure DcS (w : World) (s : ByteArray) (e : Int) (bt hi : Nat) (vi vo : Value) (wr : World) : Prop where
  tb : Open wr bt (.int .u32 (trD s z0).ver) vi vo (.int .u32 (trD s z0).lock)
  br : Open wr w.heap.size (.int .u32 0) (.slice none 0 0) (.slice none 0 0) (.int .u32 0)
  rd : RdAt wr (w.heap.size + 1) s (dcA s) e
  tx : TxAt wr (w.heap.size + 2) hi vi vo (trD s z0)
  hl : w.heap.size + 2 ≤ hi ∧ hi ≤ bt ∧ bt < wr.heap.size
  bel : Below w.heap.size w wr

theorem DcS.below {w : World} {s : ByteArray} {e : Int} {bt hi : Nat} {vi vo : Value} {wr wx : World} (h : DcS w s e bt hi vi vo wr) (hb : Below wr.heap.size wr wx) : DcS w s e bt hi vi vo wx := by
  have hl := h.hl
  exact ⟨h.tb.below hb (by omega), h.br.below hb (by omega), h.rd.below hb, h.tx.keep (Kept.of_below hb (by omega)), ⟨hl.1, hl.2.1, Nat.lt_of_lt_of_le hl.2.2 hb.size⟩, below_next h.bel (by omega) hb⟩
theorem DcS.err {w : World} {s : ByteArray} {e : Int} {bt hi : Nat} {vi vo : Value} {wr : World} (h : DcS w s e bt hi vi vo wr) (e' : Int) : DcS w s e' bt hi vi vo (wr.setCell ⟨w.heap.size + 1, 2, none⟩ (.int .i64 e')) := by
  have hl := h.hl
  exact ⟨h.tb.other (by show bt ≠ w.heap.size + 1; omega) _, h.br.other (by show w.heap.size ≠ w.heap.size + 1; omega) _, h.rd.setErr e', h.tx.keep (Kept.setCell (.inl (by show w.heap.size + 1 < w.heap.size + 2; omega)) _), ⟨hl.1, hl.2.1, by rw [World.size_setCell]; exact hl.2.2⟩, h.bel.setCell (by show w.heap.size ≤ w.heap.size + 1; omega) _⟩

set_option maxHeartbeats 4000000 in
set_option maxRecDepth 100000 in
theorem decode_any (s : ByteArray) (w : World) (hs : s.size ≤ 140737488355328) :
    Calls Tryd.prog 22 #[.string s] w fun x w' => ∃ (vi vo : Value), x = .returned (.tuple #[.agg #[.int .u32 (dcT s).ver, vi, vo, .int .u32 (dcT s).lock], .int .i64 (dcA s), .int .i64 (dcE s)]) ∧
      TxAt w' w.heap.size w'.heap.size vi vo (dcT s) ∧ Below w.heap.size w w' := by
  have HSZ := Lib.hid hs
  clear hs
  obtain ⟨w0, hw0⟩ : ∃ w0, w0 = w.alloc (.cells #[.int .u32 0, .slice none 0 0, .slice none 0 0, .int .u32 0] 26) := ⟨_, rfl⟩
  have sz0 : w0.heap.size = w.heap.size + 1 := by rw [hw0]; simp
  obtain ⟨w1, hw1⟩ : ∃ w1, w1 = w0.alloc (.cells #[.string s, .int .i64 0, .int .i64 0] 70) := ⟨_, rfl⟩
  have sz1 : w1.heap.size = w.heap.size + 2 := by rw [hw1]; simp; omega
  have HW0 := Lib.hid hw0
  have HW1 := Lib.hid hw1
  have B1 := Lib.hid (show Below w.heap.size w w1 from by rw [hw1, hw0]; exact ((Below.refl _ _).alloc (Nat.le_refl _) _).alloc (by simp) _)
  have R1 := Lib.hid (show RdS w1 (w.heap.size + 1) s z0 from by
    refine ⟨?_, Nat.zero_le _⟩
    show w1.heap[w.heap.size + 1]? = _
    rw [hw1, ← sz0]
    exact Array.getElem?_push_size)
  have O1 := Lib.hid (show Open w1 w.heap.size (.int .u32 0) (.slice none 0 0) (.slice none 0 0) (.int .u32 0) from by
    rw [hw1]
    refine Open.keep ?_ (Below.heap_alloc _ _ _ (by omega))
    rw [hw0]
    exact Open.new _ _ _ _ _ _)
  clear hw0 hw1
  go_enter Tryd.func22, Tryd.ntmps22
  go_upto_region 2 with (fail)
  rw [show World.alloc (World.alloc w _) _ = w1 from by rw [HW1.out, HW0.out]]
  go_wp2_with fail
  refine (transaction_rd (w.heap.size + 1) s z0 w1 R1.out HSZ.out).mono ?_
  rintro x w2 ⟨b1, b2, rfl, h2, r2, o2⟩
  obtain ⟨n, hn⟩ : ∃ n, (trD s z0).ins.length = n := ⟨_, rfl⟩
  obtain ⟨m, hm⟩ : ∃ m, (trD s z0).outs.length = m := ⟨_, rfl⟩
  obtain ⟨tv, htv⟩ : ∃ tv, (trD s z0).ver = tv := ⟨_, rfl⟩
  obtain ⟨tl, htl⟩ : ∃ tl, (trD s z0).lock = tl := ⟨_, rfl⟩
  rw [hn, hm] at h2
  rw [hn, hm, htv, htl]
  have EV := Lib.hid (show (trD s z0).ver = tv ∧ (trD s z0).lock = tl from ⟨htv, htl⟩)
  have zo := o2.size
  have hO2 : Open w2 w.heap.size (.int .u32 0) (.slice none 0 0) (.slice none 0 0) (.int .u32 0) := O1.out.keep (o2.block _ (by omega) (by omega))
  have hB2 : Below w.heap.size w w2 := ⟨o2.os.trans B1.out.os, o2.tape.trans B1.out.tape, o2.output.trans B1.out.output, Nat.le_trans B1.out.size o2.size, fun c hc => (o2.block c (by omega) (by omega)).trans (B1.out.block c hc)⟩
  obtain ⟨w3, hw3⟩ : ∃ w3, w3 = w2.alloc (.cells #[.int .u32 tv, .slice (some ⟨b1, 0, none⟩) n n, .slice (some ⟨b2, 0, none⟩) m m, .int .u32 tl] 26) := ⟨_, rfl⟩
  have S3 := Lib.hid (show DcS w s (t7 s z0).e w2.heap.size w2.heap.size (.slice (some ⟨b1, 0, none⟩) n n) (.slice (some ⟨b2, 0, none⟩) m m) w3 from by
    have hbl : Below w2.heap.size w2 w3 := by rw [hw3]; exact (Below.refl w2.heap.size w2).alloc (Nat.le_refl _) _
    refine ⟨?_, hO2.below hbl (by omega), r2.1.below hbl, ?_, ⟨by omega, Nat.le_refl _, ?_⟩, below_next hB2 (by omega) hbl⟩
    · rw [hw3, htv, htl]; exact Open.new _ _ _ _ _ _
    · exact (h2.wide (by omega) (Nat.le_refl _)).keep (Kept.of_below hbl (Nat.le_refl _))
    · rw [hw3]; simp)
  have HW3 := Lib.hid hw3
  clear hn hm htv htl h2 r2 o2 hO2 hB2 O1 B1 R1 hw3
  go_upto_region 3 with (fail)
  rw [show World.alloc w2 _ = w3 from HW3.out.symm]
  obtain ⟨bt, hbt⟩ : ∃ bt, bt = w2.heap.size := ⟨_, rfl⟩
  rw [← hbt] at S3 ⊢
  have hlt := S3.out.hl
  have CK := Lib.hid (check_any (trD s z0) _ _ w3 _ bt S3.out.tx (by omega) (trD_ok s z0))
  rw [EV.out.1, EV.out.2] at CK
  obtain ⟨ck, hck⟩ : ∃ ck, checkD (trD s z0) = ck := ⟨_, rfl⟩
  rw [hck] at CK
  obtain ⟨e7, he7⟩ : ∃ e7, (t7 s z0).e = e7 := ⟨_, rfl⟩
  rw [he7] at S3
  have EE := Lib.hid (show dcE s = if e7 = 0 then ck else e7 from by unfold dcE; rw [he7, hck])
  clear hbt hck he7 HW3 zo
  obtain ⟨_, c1, c2, fr1, fr2⟩ := S3.out.rd.cells
  go_upto_if 16 with (fail)
  go_cut [] (fun wx => Hid (DcS w s (dcE s) bt bt (.slice (some ⟨b1, 0, none⟩) n n) (.slice (some ⟨b2, 0, none⟩) m m) wx))
  case first =>
    by_cases hz : e7 = 0
    · have hz1 : (e7 == 0) = true := by simpa using hz
      obtain ⟨⟨a0, a1, a2, a3⟩, fz⟩ := S3.out.tb
      rw [EV.out.1] at a0
      rw [EV.out.2] at a3
      have EE' := Lib.hid (show dcE s = ck from by rw [EE.out, if_pos hz])
      clear hz
      go_wp2_with fail
      refine CK.out.mono ?_
      rintro x w4 ⟨rfl, hb4⟩
      have S4 := Lib.hid (S3.out.below hb4)
      obtain ⟨_, d1, d2, fd1, fd2⟩ := S4.out.rd.cells
      clear hb4
      go_wp2_with fail
      go_meet
      rw [EE'.out]
      exact Lib.hid (S4.out.err ck)
    · have hz1 : (e7 == 0) = false := by simpa using hz
      have EE' := Lib.hid (show dcE s = e7 from by rw [EE.out, if_neg hz])
      clear hz
      go_wp2_with fail
      go_meet
      rw [EE'.out]
      exact S3
  case rest =>
    clear S3 CK EE c1 c2 fr1 fr2 hlt
    obtain ⟨e, he⟩ : ∃ e, dcE s = e := ⟨_, rfl⟩
    rw [he] at hcut
    have HE := Lib.hid he
    obtain ⟨_, c1, c2, fr1, fr2⟩ := hcut.out.rd.cells
    obtain ⟨⟨r0, r1, r2, r3⟩, fz⟩ := hcut.out.br
    have f0 := fz 0
    have f1 := fz 1
    have f2 := fz 2
    have f3 := fz 3
    obtain ⟨⟨a0, a1, a2, a3⟩, fa⟩ := hcut.out.tb
    rw [EV.out.1] at a0
    rw [EV.out.2] at a3
    have hlt := hcut.out.hl
    by_cases hz : e = 0
    · have hz1 : (e != 0) = false := by simpa using hz
      have ET := Lib.hid (show dcT s = trD s z0 from by unfold dcT; rw [he, if_pos hz])
      have HZ := Lib.hid hz
      clear hz he
      have P1 := Lib.hid (hcut.out.tx.put4 (g := w.heap.size) (.inl (by omega)) (.int .u32 tv) (.slice (some ⟨b1, 0, none⟩) n n) (.slice (some ⟨b2, 0, none⟩) m m) (.int .u32 tl))
      have P2 := Lib.hid (put4_below hcut.out.bel (Nat.le_refl _) (.int .u32 tv) (.slice (some ⟨b1, 0, none⟩) n n) (.slice (some ⟨b2, 0, none⟩) m m) (.int .u32 tl))
      have P3 := Lib.hid (put4_size wc w.heap.size (.int .u32 tv) (.slice (some ⟨b1, 0, none⟩) n n) (.slice (some ⟨b2, 0, none⟩) m m) (.int .u32 tl))
      go_upto_region 7 with (fail)
      go_region
      go_wp2_with fail
      refine bodyPost_ret (v := .tuple #[.agg #[.int .u32 tv, .slice (some ⟨b1, 0, none⟩) n n, .slice (some ⟨b2, 0, none⟩) m m, .int .u32 tl], .int .i64 (dcA s), .int .i64 0]) (by simp [results, Tryd.results22, go_sem, r0, r1, r2, r3]) rfl ?_
      rw [HE.out, HZ.out, ET.out, EV.out.1, EV.out.2]
      exact ⟨_, _, rfl, (P1.out.keep (fun _ _ _ => rfl)).wide (by omega) (by show bt ≤ (put4 wc w.heap.size _ _ _ _).heap.size; rw [P3.out]; omega), P2.out.drew⟩
    · have hz1 : (e != 0) = true := by simpa using hz
      have ET := Lib.hid (show dcT s = ⟨0, [], [], 0⟩ from by unfold dcT; rw [he, if_neg hz])
      clear hz he
      have P2 := Lib.hid (put4_below hcut.out.bel (Nat.le_refl _) (.int .u32 0) (.slice none 0 0) (.slice none 0 0) (.int .u32 0))
      go_upto_region 6 with (fail)
      go_region
      go_wp2_with fail
      refine bodyPost_ret (v := .tuple #[.agg #[.int .u32 0, .slice none 0 0, .slice none 0 0, .int .u32 0], .int .i64 (dcA s), .int .i64 e]) (by simp [results, Tryd.results22, go_sem, r0, r1, r2, r3]) rfl ?_
      rw [HE.out, ET.out]
      exact ⟨_, _, rfl, ⟨Ins.nil _ _ _, Outs.nil _ _ _⟩, P2.out.drew⟩

end Go.Proofs.YtfobdefncbaooaaDoor
