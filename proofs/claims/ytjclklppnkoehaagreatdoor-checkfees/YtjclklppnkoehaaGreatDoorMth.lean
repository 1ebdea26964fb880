/-
  Coins in the order of their points: lists that are put into, taken from, looked through; all as plain functions.
-/
import Derived.Test.YtjclklppnkoehaaGreatDoorDat
namespace Go.Proofs.YtjclklppnkoehaaGreatDoor.Co
open Go.RowKit
set_option maxRecDepth 100000

/-! ### The order of points -/

theorem bytes_ext {a b : ByteArray} (h : a.toList = b.toList) : a = b := by
  rw [ByteArray.toList_eq, ByteArray.toList_eq] at h
  obtain ⟨⟨x⟩⟩ := a
  obtain ⟨⟨y⟩⟩ := b
  simp at h
  rw [h]
theorem bl_irrefl (a : List UInt8) : Op.bytesLess a a = false := by
  induction a with
  | nil => rfl
  | cons x r ih => simp [Op.bytesLess, ih]
theorem bl_trans : ∀ (a b c : List UInt8), Op.bytesLess a b = true → Op.bytesLess b c = true → Op.bytesLess a c = true
  | _, [], _, h, _ => by simp [Op.bytesLess] at h
  | _, _ :: _, [], _, h => by simp [Op.bytesLess] at h
  | [], _ :: _, _ :: _, _, _ => rfl
  | x :: a, y :: b, z :: c, h1, h2 => by
    simp only [Op.bytesLess, Bool.or_eq_true, Bool.and_eq_true, decide_eq_true_eq, beq_iff_eq, UInt8.lt_iff_toNat_lt] at h1 h2 ⊢
    rcases h1 with h1 | ⟨rfl, h1⟩
    · rcases h2 with h2 | ⟨rfl, h2⟩
      · exact .inl (by omega)
      · exact .inl h1
    · rcases h2 with h2 | ⟨rfl, h2⟩
      · exact .inl h2
      · exact .inr ⟨rfl, bl_trans a b c h1 h2⟩
theorem bl_total : ∀ (a b : List UInt8), Op.bytesLess a b = false → Op.bytesLess b a = false → a = b
  | [], [], _, _ => rfl
  | [], _ :: _, h, _ => by simp [Op.bytesLess] at h
  | _ :: _, [], _, h => by simp [Op.bytesLess] at h
  | x :: a, y :: b, h1, h2 => by
    simp only [Op.bytesLess, Bool.or_eq_false_iff, Bool.and_eq_false_iff, decide_eq_false_iff_not, beq_eq_false_iff_ne, UInt8.lt_iff_toNat_lt] at h1 h2
    have e : x = y := UInt8.toNat_inj.1 (by omega)
    subst e
    rw [bl_total a b (by simpa using h1.2) (by simpa using h2.2)]

/-- Are two points one? -/
def ptB (a : ByteArray) (i : Int) (b : ByteArray) (j : Int) : Bool := (a.toList == b.toList) && (i == j)
/-- The order of points. -/
def lessB (a : ByteArray) (i : Int) (b : ByteArray) (j : Int) : Bool := if a.toList == b.toList then decide (i < j) else Op.bytesLess a.toList b.toList
theorem less_same {a : ByteArray} {i : Int} {b : ByteArray} {j : Int} (h : (a.toList == b.toList) = true) : lessB a i b j = decide (i < j) := by simp [lessB, h]
theorem less_other {a : ByteArray} {i : Int} {b : ByteArray} {j : Int} (h : (a.toList == b.toList) = false) : lessB a i b j = Op.bytesLess a.toList b.toList := by simp [lessB, h]
theorem ptB_iff {a : ByteArray} {i : Int} {b : ByteArray} {j : Int} : ptB a i b j = true ↔ a = b ∧ i = j := by
  unfold ptB
  constructor
  · intro h
    simp at h
    exact ⟨bytes_ext h.1, h.2⟩
  · rintro ⟨rfl, rfl⟩; simp
theorem less_iff {a : ByteArray} {i : Int} {b : ByteArray} {j : Int} : lessB a i b j = true ↔ (a = b ∧ i < j) ∨ Op.bytesLess a.toList b.toList = true := by
  by_cases h : a = b
  · subst h
    rw [less_same (by simp)]
    simp [bl_irrefl]
  · have : (a.toList == b.toList) = false := by
      rw [beq_eq_false_iff_ne]
      exact fun e => h (bytes_ext e)
    rw [less_other this]
    simp [h]

def lt (x y : EnD) : Bool := lessB x.id x.ix y.id y.ix
/-- Have two coins one point? -/
def same (x y : EnD) : Bool := ptB x.id x.ix y.id y.ix
theorem lt_irrefl (x : EnD) : lt x x = false := by
  rw [Bool.eq_false_iff]
  intro h
  rcases less_iff.1 h with ⟨_, h⟩ | h
  · omega
  · rw [bl_irrefl] at h; cases h
theorem lt_trans {x y z : EnD} (h1 : lt x y = true) (h2 : lt y z = true) : lt x z = true := by
  unfold lt at *
  rw [less_iff] at *
  rcases h1 with ⟨e1, h1⟩ | h1
  · rcases h2 with ⟨e2, h2⟩ | h2
    · exact .inl ⟨e1.trans e2, by omega⟩
    · rw [e1]; exact .inr h2
  · rcases h2 with ⟨e2, h2⟩ | h2
    · rw [← e2]; exact .inr h1
    · exact .inr (bl_trans _ _ _ h1 h2)
theorem lt_asymm {x y : EnD} (h1 : lt x y = true) : lt y x = false := by
  rw [Bool.eq_false_iff]
  intro h2
  have := lt_trans h1 h2
  rw [lt_irrefl] at this
  cases this
theorem lt_total {x y : EnD} (h1 : lt x y = false) (h2 : lt y x = false) : same x y = true := by
  unfold lt at *
  rw [Bool.eq_false_iff, ne_eq, less_iff, not_or] at h1 h2
  have e : x.id.toList = y.id.toList := bl_total _ _ (by simpa using h1.2) (by simpa using h2.2)
  have e := bytes_ext e
  refine ptB_iff.2 ⟨e, ?_⟩
  have g1 : ¬ x.ix < y.ix := fun h => h1.1 ⟨e, h⟩
  have g2 : ¬ y.ix < x.ix := fun h => h2.1 ⟨e.symm, h⟩
  omega
theorem same_lt {x y : EnD} (h : same x y = true) : lt x y = false := by
  obtain ⟨h1, h2⟩ := ptB_iff.1 h
  rw [Bool.eq_false_iff]
  intro h
  unfold lt at h
  rw [h1, h2] at h
  exact absurd h (by rw [show lessB y.id y.ix y.id y.ix = lt y y from rfl, lt_irrefl]; simp)
theorem same_comm {x y : EnD} : same x y = same y x := by
  rw [Bool.eq_iff_iff]
  unfold same
  rw [ptB_iff, ptB_iff]
  exact ⟨fun h => ⟨h.1.symm, h.2.symm⟩, fun h => ⟨h.1.symm, h.2.symm⟩⟩
theorem same_refl (x : EnD) : same x x = true := ptB_iff.2 ⟨rfl, rfl⟩
theorem lt_same_left {x x' y : EnD} (h : same x x' = true) : lt x y = lt x' y := by
  obtain ⟨h1, h2⟩ := ptB_iff.1 h
  unfold lt
  rw [h1, h2]
theorem lt_same_right {x y y' : EnD} (h : same y y' = true) : lt x y = lt x y' := by
  obtain ⟨h1, h2⟩ := ptB_iff.1 h
  unfold lt
  rw [h1, h2]

/-! ### Lists in order -/

/-- Each ahead of all that follow. -/
def Srt (l : List EnD) : Prop := l.Pairwise fun x y => lt x y = true
theorem Srt.nil : Srt [] := List.Pairwise.nil
theorem Srt.apart {l : List EnD} (h : Srt l) : l.Pairwise fun x y => same x y = false := h.imp fun {x y} hxy => by
  rw [Bool.eq_false_iff]
  intro e
  rw [same_lt e] at hxy
  cases hxy
theorem apart_perm {l m : List EnD} (hp : l.Perm m) (h : l.Pairwise fun x y => same x y = false) : m.Pairwise fun x y => same x y = false :=
  (hp.pairwise_iff (fun {x y} hxy => by rw [same_comm]; exact hxy)).1 h
/-- One point alone in a list without doubles. -/
theorem apart_eq {l : List EnD} (h : l.Pairwise fun x y => same x y = false) {x y : EnD} (hx : x ∈ l) (hy : y ∈ l) (hs : same x y = true) : x = y := by
  induction l with
  | nil => cases hx
  | cons a r ih =>
    obtain ⟨h1, h2⟩ := List.pairwise_cons.1 h
    rcases List.mem_cons.1 hx with e | hx'
    · rcases List.mem_cons.1 hy with e2 | hy'
      · exact e.trans e2.symm
      · rw [e, h1 _ hy'] at hs; cases hs
    · rcases List.mem_cons.1 hy with e2 | hy'
      · rw [same_comm, e2, h1 _ hx'] at hs; cases hs
      · exact ih h2 hx' hy'
/-- Two lists in order, each the other's permutation, are one. -/
theorem srt_unique : ∀ {l m : List EnD}, Srt l → Srt m → l.Perm m → l = m
  | [], m, _, _, hp => (List.nil_perm.1 hp).symm
  | a :: l, [], _, _, hp => by have := hp.length_eq; simp at this
  | a :: l, b :: m, h1, h2, hp => by
    obtain ⟨a1, a2⟩ := List.pairwise_cons.1 h1
    obtain ⟨b1, b2⟩ := List.pairwise_cons.1 h2
    have e : a = b := by
      rcases List.mem_cons.1 (hp.mem_iff.1 (List.mem_cons_self (a := a) (l := l))) with e | ha
      · exact e
      · rcases List.mem_cons.1 (hp.mem_iff.2 (List.mem_cons_self (a := b) (l := m))) with e | hb
        · exact e.symm
        · have := lt_asymm (a1 _ hb)
          rw [b1 _ ha] at this
          cases this
    subst e
    rw [srt_unique a2 b2 (List.perm_cons_self.1 hp)]
where
  List.perm_cons_self {a : EnD} {l m : List EnD} : (a :: l).Perm (a :: m) ↔ l.Perm m := List.perm_cons a

/-- All values together. -/
def tot (l : List EnD) : Int := (l.map (·.val)).sum
theorem tot_nil : tot [] = 0 := rfl
theorem tot_cons (x : EnD) (l : List EnD) : tot (x :: l) = x.val + tot l := by simp [tot]
theorem tot_append (l m : List EnD) : tot (l ++ m) = tot l + tot m := by simp [tot]
theorem tot_perm {l m : List EnD} (h : l.Perm m) : tot l = tot m := by
  induction h with
  | nil => rfl
  | cons x _ ih => rw [tot_cons, tot_cons, ih]
  | swap x y l => simp only [tot_cons]; omega
  | trans _ _ h1 h2 => rw [h1, h2]

/-- Is a point there; its coin. -/
def isB (a : ByteArray) (i : Int) (x : EnD) : Bool := ptB x.id x.ix a i
def hasB (l : List EnD) (a : ByteArray) (i : Int) : Bool := l.any (isB a i)
def atE (l : List EnD) (a : ByteArray) (i : Int) : EnD := (l.find? (isB a i)).getD e0
theorem isB_iff {a : ByteArray} {i : Int} {x : EnD} : isB a i x = true ↔ x.id = a ∧ x.ix = i := ptB_iff
theorem isB_same {x y : EnD} : isB y.id y.ix x = same x y := rfl
theorem hasB_iff {l : List EnD} {a : ByteArray} {i : Int} : hasB l a i = true ↔ ∃ x ∈ l, x.id = a ∧ x.ix = i := by
  unfold hasB
  rw [List.any_eq_true]
  exact ⟨fun ⟨x, hx, h⟩ => ⟨x, hx, isB_iff.1 h⟩, fun ⟨x, hx, h⟩ => ⟨x, hx, isB_iff.2 h⟩⟩
theorem atE_none {l : List EnD} {a : ByteArray} {i : Int} (h : hasB l a i = false) : atE l a i = e0 := by
  unfold atE
  rw [List.find?_eq_none.2 (by simpa [hasB] using h)]
  rfl
theorem atE_some {l : List EnD} (hl : l.Pairwise fun x y => same x y = false) {x : EnD} (hx : x ∈ l) : atE l x.id x.ix = x := by
  unfold atE
  cases h : l.find? (isB x.id x.ix) with
  | none =>
    have := List.find?_eq_none.1 h x hx
    exact absurd (same_refl x) this
  | some y =>
    have hs : isB x.id x.ix y = true := List.find?_some h
    exact apart_eq hl (List.mem_of_find?_eq_some h) hx hs
theorem atE_mem {l : List EnD} {a : ByteArray} {i : Int} (h : hasB l a i = true) : atE l a i ∈ l ∧ (atE l a i).id = a ∧ (atE l a i).ix = i := by
  unfold atE
  cases hf : l.find? (isB a i) with
  | none =>
    obtain ⟨x, hx, h1⟩ := List.any_eq_true.1 h
    exact absurd h1 (List.find?_eq_none.1 hf x hx)
  | some y =>
    have hs : isB a i y = true := List.find?_some hf
    exact ⟨List.mem_of_find?_eq_some hf, isB_iff.1 hs⟩

/-- A coin more, in its place. -/
def insR (x : EnD) : List EnD → List EnD
  | [] => [x]
  | y :: r => if lt x y = true then x :: y :: r else y :: insR x r
theorem insR_perm (x : EnD) : ∀ l, (insR x l).Perm (x :: l)
  | [] => List.Perm.refl _
  | y :: r => by
    unfold insR
    split
    · exact List.Perm.refl _
    · exact ((insR_perm x r).cons y).trans (List.Perm.swap x y r)
theorem insR_srt (x : EnD) : ∀ l, Srt l → (∀ y ∈ l, same x y = false) → Srt (insR x l)
  | [], _, _ => List.pairwise_singleton _ _
  | y :: r, h, hn => by
    obtain ⟨h1, h2⟩ := List.pairwise_cons.1 h
    unfold insR
    split
    · rename_i hxy
      refine List.pairwise_cons.2 ⟨fun z hz => ?_, h⟩
      rcases List.mem_cons.1 hz with rfl | hz
      · exact hxy
      · exact lt_trans hxy (h1 z hz)
    · rename_i hxy
      refine List.pairwise_cons.2 ⟨fun z hz => ?_, insR_srt x r h2 fun z hz => hn z (by simp [hz])⟩
      rcases List.mem_cons.1 ((insR_perm x r).mem_iff.1 hz) with rfl | hz
      · cases hyx : lt y z with
        | true => rfl
        | false =>
          have := lt_total (x := z) (y := y) (by simpa using hxy) hyx
          rw [hn y (by simp)] at this
          cases this
      · exact h1 z hz
/-- The same as the document goes: one by one, the new one once. -/
def insS (x : EnD) (s : List EnD × Bool) (y : EnD) : List EnD × Bool := if (lt x y && !s.2) = true then (s.1 ++ [x] ++ [y], true) else (s.1 ++ [y], s.2)
def insF (x : EnD) (l : List EnD) : List EnD × Bool := l.foldl (insS x) ([], false)
def insD (x : EnD) (l : List EnD) : List EnD := if (insF x l).2 = true then (insF x l).1 else (insF x l).1 ++ [x]
theorem insF_done (x : EnD) : ∀ (l acc : List EnD), l.foldl (insS x) (acc, true) = (acc ++ l, true)
  | [], acc => by simp
  | y :: r, acc => by
    rw [List.foldl_cons]
    have : insS x (acc, true) y = (acc ++ [y], true) := by simp [insS]
    rw [this, insF_done x r]
    simp
theorem insF_open (x : EnD) : ∀ (l acc : List EnD), (if (l.foldl (insS x) (acc, false)).2 = true then (l.foldl (insS x) (acc, false)).1 else (l.foldl (insS x) (acc, false)).1 ++ [x]) = acc ++ insR x l
  | [], acc => by simp [insR]
  | y :: r, acc => by
    rw [List.foldl_cons]
    by_cases h : lt x y = true
    · have : insS x (acc, false) y = (acc ++ [x] ++ [y], true) := by simp [insS, h]
      rw [this, insF_done]
      simp [insR, h]
    · have : insS x (acc, false) y = (acc ++ [y], false) := by simp [insS, h]
      rw [this, insF_open x r]
      simp [insR, h]
theorem insD_eq (x : EnD) (l : List EnD) : insD x l = insR x l := by
  unfold insD insF
  rw [insF_open]
  simp
theorem insF_step {x : EnD} {l : List EnD} {k : Nat} {y : EnD} (h : l[k]? = some y) : insF x (l.take (k + 1)) = insS x (insF x (l.take k)) y := by
  have e : l.take (k + 1) = l.take k ++ [y] := by
    rw [List.take_add_one, h]
    rfl
  unfold insF
  rw [e, List.foldl_append]
  rfl
theorem insF_len (x : EnD) : ∀ (l : List EnD) (s : List EnD × Bool), (l.foldl (insS x) s).1.length ≤ s.1.length + l.length + (if s.2 = true then 0 else 1)
  | [], s => by simp
  | y :: r, s => by
    rw [List.foldl_cons]
    refine Nat.le_trans (insF_len x r _) ?_
    unfold insS
    obtain ⟨a, b⟩ := s
    cases b <;> cases lt x y <;> simp <;> omega

/-- What is put. -/
def goodB (n : Int) : Bool := decide (0 ≤ n) && decide (n ≤ 2100000000000000)
theorem goodB_iff {n : Int} : goodB n = true ↔ 0 ≤ n ∧ n ≤ 2100000000000000 := by simp [goodB]
def argB (x : EnD) : Bool := decide (x.id.size = 32) && (decide (0 ≤ x.ht) && decide (x.ht ≤ 1000000) && goodB x.val)
def putE (l : List EnD) (x : EnD) : Int := if argB x = false then 2 else if hasB l x.id x.ix = true then 7 else if goodB (tot l + x.val) = false then 3 else 0
def putL (l : List EnD) (x : EnD) : List EnD := if putE l x = 0 then insR x l else l
/-- What is taken. -/
def delL (l : List EnD) (a : ByteArray) (i : Int) : List EnD := l.filter fun x => !isB a i x
def takeE (l : List EnD) (a : ByteArray) (i : Int) : Int := if hasB l a i = true then 0 else 8

theorem del_none {l : List EnD} {a : ByteArray} {i : Int} (h : hasB l a i = false) : delL l a i = l := by
  unfold delL
  rw [List.filter_eq_self]
  intro x hx
  have := List.any_eq_false.1 h x hx
  simp [this]
theorem del_srt {l : List EnD} (h : Srt l) (a : ByteArray) (i : Int) : Srt (delL l a i) := h.filter _
theorem del_perm {l : List EnD} (hl : l.Pairwise fun x y => same x y = false) {x : EnD} (hx : x ∈ l) : l.Perm (x :: delL l x.id x.ix) := by
  induction l with
  | nil => cases hx
  | cons y r ih =>
    obtain ⟨h1, h2⟩ := List.pairwise_cons.1 hl
    rcases List.mem_cons.1 hx with rfl | hx
    · have e : delL (x :: r) x.id x.ix = r := by
        unfold delL
        rw [List.filter_cons_of_neg (by rw [isB_same, same_refl]; simp), List.filter_eq_self]
        intro z hz
        rw [isB_same, same_comm, h1 z hz]
        rfl
      rw [e]
    · have e : delL (y :: r) x.id x.ix = y :: delL r x.id x.ix := by
        unfold delL
        rw [List.filter_cons_of_pos (by rw [isB_same, h1 x hx]; rfl)]
      rw [e]
      exact ((ih h2 hx).cons y).trans (List.Perm.swap x y _)
theorem del_tot {l : List EnD} (hl : l.Pairwise fun x y => same x y = false) {x : EnD} (hx : x ∈ l) : tot (delL l x.id x.ix) = tot l - x.val := by
  have := tot_perm (del_perm hl hx)
  rw [tot_cons] at this
  omega
theorem del_len (l : List EnD) (a : ByteArray) (i : Int) : (delL l a i).length ≤ l.length := List.length_filter_le _ _
theorem insR_len (x : EnD) (l : List EnD) : (insR x l).length = l.length + 1 := (insR_perm x l).length_eq
theorem putL_len (l : List EnD) (x : EnD) : (putL l x).length ≤ l.length + 1 := by
  unfold putL
  split
  · rw [insR_len]
    omega
  · omega

/-- A set's coins, as they may be. -/
structure Good (l : List EnD) : Prop where
  srt : Srt l
  ok : ∀ x ∈ l, x.Ok
  pos : ∀ x ∈ l, 0 ≤ x.val
  most : tot l ≤ 2100000000000000
theorem tot_pos {l : List EnD} (h : ∀ x ∈ l, 0 ≤ x.val) : 0 ≤ tot l := by
  induction l with
  | nil => simp [tot]
  | cons x r ih =>
    rw [tot_cons]
    have := h x (by simp)
    have := ih fun y hy => h y (by simp [hy])
    omega
theorem tot_take {l : List EnD} (h : ∀ x ∈ l, 0 ≤ x.val) (k : Nat) : 0 ≤ tot (l.take k) ∧ tot (l.take k) ≤ tot l := by
  have h1 := tot_pos (l := l.take k) fun x hx => h x (List.mem_of_mem_take hx)
  have h2 := tot_pos (l := l.drop k) fun x hx => h x (List.mem_of_mem_drop hx)
  have h3 : tot l = tot (l.take k) + tot (l.drop k) := by rw [← tot_append, List.take_append_drop]
  omega
theorem Good.nil : Good [] := ⟨Srt.nil, by simp, by simp, by simp [tot]⟩
theorem Good.zero {l : List EnD} (h : Good l) : 0 ≤ tot l := tot_pos h.pos
theorem put_zero {l : List EnD} {x : EnD} (h : putE l x = 0) : argB x = true ∧ hasB l x.id x.ix = false ∧ goodB (tot l + x.val) = true := by
  unfold putE at h
  split at h
  · omega
  · split at h
    · omega
    · split at h
      · omega
      · rename_i h1 h2 h3
        exact ⟨by simpa using h1, by simpa using h2, by simpa using h3⟩
theorem not_has {l : List EnD} {x : EnD} (h : hasB l x.id x.ix = false) : ∀ y ∈ l, same x y = false := by
  intro y hy
  have := List.any_eq_false.1 h y hy
  rw [isB_same, same_comm] at this
  simpa using this
theorem Good.put {l : List EnD} (h : Good l) {x : EnD} (hx : x.Ok) : Good (putL l x) := by
  unfold putL
  split
  · rename_i h0
    obtain ⟨h1, h2, h3⟩ := put_zero h0
    have hp := insR_perm x l
    have hv : 0 ≤ x.val := by
      unfold argB at h1
      simp only [Bool.and_eq_true] at h1
      exact (goodB_iff.1 h1.2.2).1
    refine ⟨insR_srt x l h.srt (not_has h2), fun y hy => ?_, fun y hy => ?_, ?_⟩
    · rcases List.mem_cons.1 (hp.mem_iff.1 hy) with rfl | hy
      · exact hx
      · exact h.ok y hy
    · rcases List.mem_cons.1 (hp.mem_iff.1 hy) with rfl | hy
      · exact hv
      · exact h.pos y hy
    · rw [tot_perm hp, tot_cons]
      have := (goodB_iff.1 h3).2
      omega
  · exact h
theorem Good.del {l : List EnD} (h : Good l) (a : ByteArray) (i : Int) : Good (delL l a i) := by
  refine ⟨del_srt h.srt a i, fun x hx => h.ok x (List.mem_filter.1 hx).1, fun x hx => h.pos x (List.mem_filter.1 hx).1, ?_⟩
  by_cases hh : hasB l a i = true
  · obtain ⟨h1, h2, h3⟩ := atE_mem hh
    have := del_tot h.srt.apart h1
    rw [h2, h3] at this
    rw [this]
    have := h.pos _ h1
    have := h.most
    omega
  · rw [del_none (by simpa using hh)]
    exact h.most

end Go.Proofs.YtjclklppnkoehaaGreatDoor.Co
