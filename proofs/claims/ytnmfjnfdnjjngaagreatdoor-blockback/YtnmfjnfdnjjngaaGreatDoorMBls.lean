/-
  Lists of coins held against one another: what was changed, and how it is taken back; the points that a block touches.
  The map of what stood ahead of a block: spots by their points; how it is looked up, how it grows, how it is gone through.
-/
import Derived.Test.YtnmfjnfdnjjngaaGreatDoorMDat
import Derived.Test.YtnmfjnfdnjjngaaGreatDoorMLay
import Derived.Test.YtnmfjnfdnjjngaaGreatDoorMEqs

namespace Go.Proofs.YtnmfjnfdnjjngaaGreatDoor.Co
open Go.RowKit
set_option maxRecDepth 100000

/-! ### Coins of one list that aren't the same in another one -/

/-- Have two coins one Value, Script and Height? -/
def cnB (x y : EnD) : Bool := ((x.val == y.val) && (x.scr.toList == y.scr.toList)) && (x.ht == y.ht)
theorem cnB_iff {x y : EnD} : cnB x y = true ↔ x.val = y.val ∧ x.scr = y.scr ∧ x.ht = y.ht := by
  unfold cnB
  constructor
  · intro h
    simp only [Bool.and_eq_true, beq_iff_eq] at h
    exact ⟨h.1.1, bytes_ext h.1.2, h.2⟩
  · rintro ⟨h1, h2, h3⟩
    simp [h1, h2, h3]
theorem en_ext {x y : EnD} (h1 : x.id = y.id) (h2 : x.ix = y.ix) (h : cnB x y = true) : x = y := by
  obtain ⟨h3, h4, h5⟩ := cnB_iff.1 h
  cases x; cases y
  simp only at h1 h2 h3 h4 h5
  subst h1 h2 h3 h4 h5
  rfl
/-- Is a coin in a list, as it is? -/
def inB (l : List EnD) (x : EnD) : Bool := hasB l x.id x.ix && cnB (atE l x.id x.ix) x
theorem inB_iff {l : List EnD} (hl : Srt l) {x : EnD} : inB l x = true ↔ x ∈ l := by
  unfold inB
  constructor
  · intro h
    simp only [Bool.and_eq_true] at h
    obtain ⟨h1, h2, h3⟩ := atE_mem h.1
    rw [en_ext h2 h3 h.2] at h1
    exact h1
  · intro h
    have h1 : hasB l x.id x.ix = true := hasB_iff.2 ⟨x, h, rfl, rfl⟩
    rw [h1, atE_some hl.apart h]
    simp [cnB_iff]
theorem inB_no {l : List EnD} (hl : Srt l) {x : EnD} (h : x ∉ l) : inB l x = false := by
  rw [Bool.eq_false_iff]
  exact fun h2 => h ((inB_iff hl).1 h2)
/-- What of one list isn't the same in another one. -/
def lessL (a b : List EnD) : List EnD := a.filter fun x => !inB b x
theorem less_mem {a b : List EnD} (hb : Srt b) {x : EnD} : x ∈ lessL a b ↔ x ∈ a ∧ x ∉ b := by
  unfold lessL
  rw [List.mem_filter]
  constructor
  · rintro ⟨h1, h2⟩
    refine ⟨h1, fun h3 => ?_⟩
    rw [(inB_iff hb).2 h3] at h2
    cases h2
  · rintro ⟨h1, h2⟩
    exact ⟨h1, by rw [inB_no hb h2]; rfl⟩
theorem less_srt {a : List EnD} (ha : Srt a) (b : List EnD) : Srt (lessL a b) := ha.filter _
theorem less_len (a b : List EnD) : (lessL a b).length ≤ a.length := List.length_filter_le _ _
theorem srt_nodup {l : List EnD} (h : Srt l) : l.Nodup := h.imp fun {x y} hxy e => by
  subst e
  rw [lt_irrefl] at hxy
  cases hxy
theorem srt_ext {l m : List EnD} (hl : Srt l) (hm : Srt m) (h : ∀ x, x ∈ l ↔ x ∈ m) : l = m :=
  srt_unique hl hm ((List.perm_ext_iff_of_nodup (srt_nodup hl) (srt_nodup hm)).2 h)
theorem less_self {l : List EnD} (hl : Srt l) : lessL l l = [] := by
  refine List.eq_nil_iff_forall_not_mem.2 fun x hx => ?_
  have := (less_mem hl).1 hx
  exact this.2 this.1
theorem sub_filter {l m : List EnD} (hl : Srt l) (hm : Srt m) (h : ∀ x ∈ m, x ∈ l) : m = l.filter (inB m) :=
  srt_ext hm (hl.filter _) fun x => by
    rw [List.mem_filter, inB_iff hm]
    exact ⟨fun hx => ⟨h x hx, hx⟩, fun hx => hx.2⟩
theorem tot_filter (p : EnD → Bool) : ∀ l : List EnD, tot l = tot (l.filter p) + tot (l.filter fun x => !p x)
  | [] => rfl
  | x :: r => by
    have ih := tot_filter p r
    cases h : p x with
    | true => simp only [List.filter_cons, h, if_true, Bool.not_true, Bool.false_eq_true, if_false, tot_cons]; omega
    | false => simp only [List.filter_cons, h, if_true, Bool.not_false, Bool.false_eq_true, if_false, tot_cons]; omega
theorem tot_sub {l m : List EnD} (hl : Good l) (hm : Srt m) (h : ∀ x ∈ m, x ∈ l) : tot m ≤ tot l := by
  have h1 := tot_filter (inB m) l
  have h2 := tot_pos (l := l.filter fun x => !inB m x) fun x hx => hl.pos x (List.mem_filter.1 hx).1
  rw [← sub_filter hl.srt hm h] at h1
  omega
theorem Good.sub {l m : List EnD} (hl : Good l) (hm : Srt m) (h : ∀ x ∈ m, x ∈ l) : Good m :=
  ⟨hm, fun x hx => hl.ok x (h x hx), fun x hx => hl.pos x (h x hx), by have := tot_sub hl hm h; have := hl.most; omega⟩
theorem Good.less {a : List EnD} (ha : Good a) (b : List EnD) : Good (lessL a b) := ha.sub (less_srt ha.srt b) fun _ hx => (List.mem_filter.1 hx).1

/-! ### What was changed, taken back -/

/-- Some coins taken out. -/
def takesL (l : List EnD) (xs : List EnD) : List EnD := xs.foldl (fun m x => delL m x.id x.ix) l
theorem takes_mem : ∀ (xs l : List EnD) (x : EnD), x ∈ takesL l xs ↔ x ∈ l ∧ ∀ y ∈ xs, same x y = false
  | [], l, x => by simp [takesL]
  | y :: r, l, x => by
    show x ∈ takesL (delL l y.id y.ix) r ↔ _
    rw [takes_mem r]
    unfold delL
    rw [List.mem_filter, isB_same]
    constructor
    · rintro ⟨⟨h1, h2⟩, h3⟩
      refine ⟨h1, fun z hz => ?_⟩
      rcases List.mem_cons.1 hz with rfl | hz
      · simpa using h2
      · exact h3 z hz
    · rintro ⟨h1, h2⟩
      exact ⟨⟨h1, by rw [h2 y (by simp)]; rfl⟩, fun z hz => h2 z (by simp [hz])⟩
theorem takes_srt : ∀ (xs : List EnD) {l : List EnD}, Srt l → Srt (takesL l xs)
  | [], _, h => h
  | y :: r, _, h => takes_srt r (del_srt h y.id y.ix)
theorem takes_good {xs l : List EnD} (h : Good l) : Good (takesL l xs) := h.sub (takes_srt xs h.srt) fun x hx => ((takes_mem xs l x).1 hx).1
theorem takes_less {l m : List EnD} (hl : Srt l) (hm : Srt m) {x : EnD} : x ∈ takesL l (lessL l m) ↔ x ∈ l ∧ x ∈ m := by
  rw [takes_mem]
  constructor
  · rintro ⟨h1, h2⟩
    refine ⟨h1, Classical.byContradiction fun h3 => ?_⟩
    have := h2 x ((less_mem hm).2 ⟨h1, h3⟩)
    rw [same_refl] at this
    cases this
  · rintro ⟨h1, h2⟩
    refine ⟨h1, fun y hy => ?_⟩
    obtain ⟨h3, h4⟩ := (less_mem hm).1 hy
    rw [Bool.eq_false_iff]
    intro h5
    rw [apart_eq hl.apart h1 h3 h5] at h2
    exact h4 h2
theorem takes_step {l xs : List EnD} {k : Nat} {x : EnD} (h : xs[k]? = some x) : takesL l (xs.take (k + 1)) = delL (takesL l (xs.take k)) x.id x.ix := by
  obtain ⟨hk, rfl⟩ := List.getElem?_eq_some_iff.1 h
  unfold takesL
  rw [List.take_succ_eq_append_getElem hk, List.foldl_append]
  rfl

/-- Some coins put in. -/
def putsL (l : List EnD) (xs : List EnD) : List EnD := xs.foldl putL l
theorem puts_step {l xs : List EnD} {k : Nat} {x : EnD} (h : xs[k]? = some x) : putsL l (xs.take (k + 1)) = putL (putsL l (xs.take k)) x := by
  obtain ⟨hk, rfl⟩ := List.getElem?_eq_some_iff.1 h
  unfold putsL
  rw [List.take_succ_eq_append_getElem hk, List.foldl_append]
  rfl
/-- All coins are such as may be put in. -/
def Arg (l : List EnD) : Prop := ∀ x ∈ l, argB x = true
theorem Arg.nil : Arg [] := fun _ h => by simp at h
theorem Arg.sub {l m : List EnD} (h : Arg l) (hs : ∀ x ∈ m, x ∈ l) : Arg m := fun x hx => h x (hs x hx)
theorem Arg.put {l : List EnD} (h : Arg l) (x : EnD) : Arg (putL l x) := by
  intro y hy
  unfold putL at hy
  split at hy
  · rename_i h0
    rcases List.mem_cons.1 ((insR_perm x l).mem_iff.1 hy) with rfl | hy
    · exact (put_zero h0).1
    · exact h y hy
  · exact h y hy
theorem Arg.del {l : List EnD} (h : Arg l) (a : ByteArray) (i : Int) : Arg (delL l a i) := h.sub fun _ hx => (List.mem_filter.1 hx).1
theorem Arg.val {l : List EnD} (h : Arg l) {x : EnD} (hx : x ∈ l) : x.id.size = 32 ∧ 0 ≤ x.ht ∧ x.ht ≤ 1000000 ∧ 0 ≤ x.val ∧ x.val ≤ 2100000000000000 := by
  have := h x hx
  simp only [argB, goodB, Bool.and_eq_true, decide_eq_true_eq] at this
  exact ⟨this.1, this.2.1.1, this.2.1.2, this.2.2.1, this.2.2.2⟩

/-- Coins of a set, none of them there, put into a part of it. -/
theorem puts_part {l0 c xs : List EnD} (hg : Good l0) (ha : Arg l0) (hc : Srt c) (h1 : ∀ x ∈ c, x ∈ l0) (h2 : ∀ x ∈ xs, x ∈ l0) (hn : xs.Nodup) (hd : ∀ x ∈ xs, x ∉ c) :
    ∀ k, k ≤ xs.length → Srt (putsL c (xs.take k)) ∧ (∀ x, x ∈ putsL c (xs.take k) ↔ x ∈ c ∨ x ∈ xs.take k) ∧ ∀ x, xs[k]? = some x → putE (putsL c (xs.take k)) x = 0 := by
  have key : ∀ (k : Nat), k ≤ xs.length → Srt (putsL c (xs.take k)) → (∀ x, x ∈ putsL c (xs.take k) ↔ x ∈ c ∨ x ∈ xs.take k) → ∀ x, xs[k]? = some x → putE (putsL c (xs.take k)) x = 0 := by
    intro k hk s m x hx
    have hxm : x ∈ xs := List.mem_of_getElem? hx
    have hsub : ∀ y ∈ putsL c (xs.take k), y ∈ l0 := fun y hy => by
      rcases (m y).1 hy with h | h
      · exact h1 y h
      · exact h2 y (List.mem_of_mem_take h)
    have hnx : x ∉ putsL c (xs.take k) := fun h => by
      rcases (m x).1 h with h | h
      · exact hd x hxm h
      · obtain ⟨hlt, hxe⟩ := List.getElem?_eq_some_iff.1 hx
        obtain ⟨i, hi, hie⟩ := List.mem_iff_getElem.1 h
        rw [List.getElem_take] at hie
        have : i = k := (List.getElem_inj hn).1 (hie.trans hxe.symm)
        rw [List.length_take] at hi
        omega
    have hh : hasB (putsL c (xs.take k)) x.id x.ix = false := by
      rw [Bool.eq_false_iff]
      intro h
      obtain ⟨y, hy, e1, e2⟩ := hasB_iff.1 h
      have := apart_eq hg.srt.apart (hsub y hy) (h2 x hxm) (ptB_iff.2 ⟨e1, e2⟩)
      rw [this] at hy
      exact hnx hy
    have hs := insR_srt x _ s (not_has hh)
    have ht := tot_sub hg hs fun y hy => by
      rcases List.mem_cons.1 ((insR_perm x _).mem_iff.1 hy) with rfl | hy
      · exact h2 _ hxm
      · exact hsub y hy
    rw [tot_perm (insR_perm x _), tot_cons] at ht
    have hp := tot_pos (l := putsL c (xs.take k)) fun y hy => hg.pos y (hsub y hy)
    have hv := hg.pos x (h2 x hxm)
    have hm := hg.most
    unfold putE
    rw [if_neg (by rw [ha x (h2 x hxm)]; decide), if_neg (by rw [hh]; decide), if_neg (by rw [goodB_iff.2 ⟨by omega, by omega⟩]; decide)]
  intro k
  induction k with
  | zero =>
    intro hk
    have s : Srt (putsL c (xs.take 0)) := hc
    have m : ∀ x, x ∈ putsL c (xs.take 0) ↔ x ∈ c ∨ x ∈ xs.take 0 := by simp [putsL]
    exact ⟨s, m, key 0 hk s m⟩
  | succ k ih =>
    intro hk
    obtain ⟨s, m, e⟩ := ih (by omega)
    have hx : xs[k]? = some xs[k] := List.getElem?_eq_getElem (by omega)
    have e0 := e _ hx
    have hst := puts_step (l := c) hx
    have hpl : putL (putsL c (xs.take k)) xs[k] = insR xs[k] (putsL c (xs.take k)) := by unfold putL; rw [if_pos e0]
    have s' : Srt (putsL c (xs.take (k + 1))) := by
      rw [hst, hpl]
      exact insR_srt _ _ s (not_has (put_zero e0).2.1)
    have m' : ∀ x, x ∈ putsL c (xs.take (k + 1)) ↔ x ∈ c ∨ x ∈ xs.take (k + 1) := fun x => by
      rw [hst, hpl, (insR_perm _ _).mem_iff, List.mem_cons, m x, List.take_succ_eq_append_getElem (by omega), List.mem_append, List.mem_singleton]
      constructor
      · rintro (h | h | h)
        · exact .inr (.inr h)
        · exact .inl h
        · exact .inr (.inl h)
      · rintro (h | h | h)
        · exact .inr (.inl h)
        · exact .inr (.inr h)
        · exact .inl h
    exact ⟨s', m', key (k + 1) hk s' m'⟩
/-- What was changed, taken back: the coins of Spent, one by one, and at the end what there was. -/
theorem revert_put {l0 l : List EnD} (hg : Good l0) (hl : Srt l) (ha : Arg l0) {k : Nat} {x : EnD} (hx : (lessL l0 l)[k]? = some x) : putE (putsL (takesL l (lessL l l0)) ((lessL l0 l).take k)) x = 0 :=
  (puts_part hg ha (takes_srt _ hl) (fun y hy => ((takes_less hl hg.srt).1 hy).2) (fun y hy => ((less_mem hl).1 hy).1) (srt_nodup (less_srt hg.srt l))
    (fun y hy h => ((less_mem hl).1 hy).2 ((takes_less hl hg.srt).1 h).1) k (by have := (List.getElem?_eq_some_iff.1 hx).1; omega)).2.2 x hx
theorem revert_all {l0 l : List EnD} (hg : Good l0) (hl : Srt l) (ha : Arg l0) : putsL (takesL l (lessL l l0)) (lessL l0 l) = l0 := by
  obtain ⟨s, m, _⟩ := puts_part hg ha (takes_srt (lessL l l0) hl) (fun y hy => ((takes_less hl hg.srt).1 hy).2) (fun y hy => ((less_mem hl).1 hy).1) (srt_nodup (less_srt hg.srt l))
    (fun y hy h => ((less_mem hl).1 hy).2 ((takes_less hl hg.srt).1 h).1) _ (Nat.le_refl _)
  rw [List.take_length] at s m
  refine srt_ext s hg.srt fun x => ?_
  rw [m x, takes_less hl hg.srt, less_mem hl]
  constructor
  · rintro (h | h)
    · exact h.2
    · exact h.1
  · intro h
    by_cases hx : x ∈ l
    · exact .inl ⟨hx, h⟩
    · exact .inr ⟨h, hx⟩

/-! ### The points that a block touches -/

/-- A point. -/
structure PtD where
  id : ByteArray
  ix : Int
/-- How a coin, or none, stands at a point. -/
structure SpotD where
  id : ByteArray
  ix : Int
  val : Int
  scr : ByteArray
  ht : Int
  there : Bool
def spot (l : List EnD) (p : PtD) : SpotD := ⟨p.id, p.ix, (atE l p.id p.ix).val, (atE l p.id p.ix).scr, (atE l p.id p.ix).ht, hasB l p.id p.ix⟩
def hasP (A : List PtD) (a : ByteArray) (i : Int) : Bool := A.any fun p => ptB p.id p.ix a i
theorem hasP_iff {A : List PtD} {a : ByteArray} {i : Int} : hasP A a i = true ↔ ∃ p ∈ A, p.id = a ∧ p.ix = i := by
  unfold hasP
  rw [List.any_eq_true]
  simp only [ptB_iff]
/-- One point more, if it isn't there. -/
def keepA (A : List PtD) (a : ByteArray) (i : Int) : List PtD := if hasP A a i = true then A else A ++ [⟨a, i⟩]
theorem keep_has (A : List PtD) (a : ByteArray) (i : Int) : hasP (keepA A a i) a i = true := by
  unfold keepA
  split
  · assumption
  · rw [hasP_iff]
    exact ⟨⟨a, i⟩, by simp, rfl, rfl⟩
/-- At all points but these two lists are the same; each point is there once. -/
structure Kep (l0 l : List EnD) (A : List PtD) : Prop where
  ok : ∀ p ∈ A, PtOk p.id p.ix
  apart : A.Pairwise fun p q => ptB p.id p.ix q.id q.ix = false
  view : ∀ a i, hasP A a i = false → hasB l a i = hasB l0 a i ∧ atE l a i = atE l0 a i
theorem Kep.nil (l0 : List EnD) : Kep l0 l0 [] := ⟨by simp, List.Pairwise.nil, fun _ _ _ => ⟨rfl, rfl⟩⟩
theorem Kep.keep {l0 l : List EnD} {A : List PtD} (h : Kep l0 l A) {a : ByteArray} {i : Int} (hp : PtOk a i) : Kep l0 l (keepA A a i) := by
  unfold keepA
  split
  · exact h
  · rename_i hn
    refine ⟨fun p hm => ?_, List.pairwise_append.2 ⟨h.apart, List.pairwise_singleton _ _, fun p hm q hq => ?_⟩, fun b j hb => h.view b j ?_⟩
    · rcases List.mem_append.1 hm with hm | hm
      · exact h.ok p hm
      · rw [List.mem_singleton] at hm; subst hm; exact hp
    · rw [List.mem_singleton] at hq
      subst hq
      rw [Bool.eq_false_iff]
      intro e
      obtain ⟨e1, e2⟩ := ptB_iff.1 e
      exact hn (hasP_iff.2 ⟨p, hm, e1, e2⟩)
    · rw [Bool.eq_false_iff] at hb ⊢
      intro e
      obtain ⟨p, hm, e1, e2⟩ := hasP_iff.1 e
      exact hb (hasP_iff.2 ⟨p, List.mem_append.2 (.inl hm), e1, e2⟩)
theorem Kep.spot {l0 l : List EnD} {A : List PtD} (h : Kep l0 l A) {p : PtD} (hn : hasP A p.id p.ix = false) : spot l p = spot l0 p := by
  obtain ⟨h1, h2⟩ := h.view _ _ hn
  unfold Go.Proofs.YtnmfjnfdnjjngaaGreatDoor.Co.spot
  rw [h1, h2]
theorem del_view {l : List EnD} {a b : ByteArray} {i j : Int} (hn : ¬ (a = b ∧ i = j)) : hasB (delL l b j) a i = hasB l a i ∧ atE (delL l b j) a i = atE l a i := by
  have hp : ∀ x : EnD, isB a i x = true → (!isB b j x) = true := fun x hx => by
    obtain ⟨e1, e2⟩ := isB_iff.1 hx
    cases hb : isB b j x with
    | false => rfl
    | true =>
      obtain ⟨e3, e4⟩ := isB_iff.1 hb
      exact absurd ⟨e1.symm.trans e3, e2.symm.trans e4⟩ hn
  have hf : ∀ m : List EnD, (m.filter fun x => !isB b j x).find? (isB a i) = m.find? (isB a i) := by
    intro m
    induction m with
    | nil => rfl
    | cons x r ih =>
      by_cases hx : isB a i x = true
      · rw [List.filter_cons, if_pos (hp x hx), List.find?_cons, List.find?_cons, hx]
      · simp only [Bool.not_eq_true] at hx
        rw [List.find?_cons, hx, List.filter_cons]
        split
        · rw [List.find?_cons, hx]; exact ih
        · exact ih
  have he : ∀ m : List EnD, hasB m a i = (m.find? (isB a i)).isSome := fun m => by unfold hasB; rw [Bool.eq_iff_iff, List.any_eq_true, List.find?_isSome]
  unfold atE
  rw [he, he, delL, hf]
  exact ⟨rfl, rfl⟩
theorem ins_view {l : List EnD} {x : EnD} {a : ByteArray} {i : Int} (hn : ¬ (x.id = a ∧ x.ix = i)) : hasB (insR x l) a i = hasB l a i ∧ atE (insR x l) a i = atE l a i := by
  have hx : isB a i x = false := by
    rw [Bool.eq_false_iff]
    exact fun e => hn (isB_iff.1 e)
  have hf : ∀ m : List EnD, (insR x m).find? (isB a i) = m.find? (isB a i) := by
    intro m
    induction m with
    | nil => simp [insR, hx]
    | cons y r ih =>
      unfold insR
      split
      · rw [List.find?_cons, hx]
      · rw [List.find?_cons, List.find?_cons, ih]
  have he : ∀ m : List EnD, hasB m a i = (m.find? (isB a i)).isSome := fun m => by unfold hasB; rw [Bool.eq_iff_iff, List.any_eq_true, List.find?_isSome]
  unfold atE
  rw [he, he, hf]
  exact ⟨rfl, rfl⟩
theorem Kep.del {l0 l : List EnD} {A : List PtD} (h : Kep l0 l A) {b : ByteArray} {j : Int} (hb : hasP A b j = true) : Kep l0 (delL l b j) A :=
  ⟨h.ok, h.apart, fun a i hn => by
    have hne : ¬ (a = b ∧ i = j) := fun ⟨e1, e2⟩ => by rw [e1, e2, hb] at hn; cases hn
    obtain ⟨h1, h2⟩ := del_view (l := l) hne
    rw [h1, h2]
    exact h.view a i hn⟩
theorem Kep.put {l0 l : List EnD} {A : List PtD} (h : Kep l0 l A) {x : EnD} (hb : hasP A x.id x.ix = true) : Kep l0 (putL l x) A := by
  unfold putL
  split
  · exact ⟨h.ok, h.apart, fun a i hn => by
      have hne : ¬ (x.id = a ∧ x.ix = i) := fun ⟨e1, e2⟩ => by rw [e1, e2, hn] at hb; cases hb
      obtain ⟨h1, h2⟩ := ins_view (l := l) hne
      rw [h1, h2]
      exact h.view a i hn⟩
  · exact h

/-- Is what stands at a point the same in both? -/
def eqP (l0 l : List EnD) (p : PtD) : Bool := cnB (atE l p.id p.ix) (atE l0 p.id p.ix) && (hasB l p.id p.ix == hasB l0 p.id p.ix)
/-- What a list has at the points at which it isn't the same as another one. -/
def chgL (l0 l : List EnD) (xs : List PtD) : List EnD := (xs.filter fun p => !eqP l0 l p && hasB l0 p.id p.ix).map fun p => atE l0 p.id p.ix
theorem chg_step {l0 l : List EnD} {xs : List PtD} {k : Nat} {p : PtD} (h : xs[k]? = some p) :
    chgL l0 l (xs.take (k + 1)) = chgL l0 l (xs.take k) ++ if (!eqP l0 l p && hasB l0 p.id p.ix) = true then [atE l0 p.id p.ix] else [] := by
  obtain ⟨hk, rfl⟩ := List.getElem?_eq_some_iff.1 h
  unfold chgL
  rw [List.take_succ_eq_append_getElem hk, List.filter_append, List.map_append]
  congr 1
  cases hh : (!eqP l0 l xs[k] && hasB l0 (xs[k]).id (xs[k]).ix) with
  | true => simp [hh]
  | false => simp [hh]
theorem eqP_comm (l0 l : List EnD) (p : PtD) : eqP l0 l p = eqP l l0 p := by
  unfold eqP
  have h1 : ∀ x y : EnD, cnB x y = cnB y x := fun x y => by
    rw [Bool.eq_iff_iff, cnB_iff, cnB_iff]
    exact ⟨fun ⟨a, b, c⟩ => ⟨a.symm, b.symm, c.symm⟩, fun ⟨a, b, c⟩ => ⟨a.symm, b.symm, c.symm⟩⟩
  rw [h1]
  congr 1
  cases hasB l p.id p.ix <;> cases hasB l0 p.id p.ix <;> rfl
theorem chg_mem {l0 l : List EnD} (h0 : Srt l0) (hl : Srt l) {A xs : List PtD} (hv : ∀ a i, hasP A a i = false → hasB l a i = hasB l0 a i ∧ atE l a i = atE l0 a i) (hx : ∀ p, p ∈ xs ↔ p ∈ A) {x : EnD} : x ∈ chgL l0 l xs ↔ x ∈ lessL l0 l := by
  rw [less_mem hl]
  unfold chgL
  rw [List.mem_map]
  constructor
  · rintro ⟨p, hp, rfl⟩
    rw [List.mem_filter, Bool.and_eq_true, Bool.not_eq_true'] at hp
    obtain ⟨_, h2, h3⟩ := hp
    obtain ⟨m1, m2, m3⟩ := atE_mem h3
    refine ⟨m1, fun hm => ?_⟩
    have e1 := atE_some hl.apart hm
    have e2 : hasB l p.id p.ix = true := hasB_iff.2 ⟨_, hm, m2, m3⟩
    rw [m2, m3] at e1
    have : eqP l0 l p = true := by
      unfold eqP
      rw [e1, e2, h3]
      simp [cnB_iff]
    rw [this] at h2
    cases h2
  · rintro ⟨h1, h2⟩
    have hh : hasB l0 x.id x.ix = true := hasB_iff.2 ⟨x, h1, rfl, rfl⟩
    have ha := atE_some h0.apart h1
    have hin : hasP A x.id x.ix = true := by
      cases hc : hasP A x.id x.ix with
      | true => rfl
      | false =>
        obtain ⟨e1, e2⟩ := hv _ _ hc
        rw [hh] at e1
        rw [ha] at e2
        have := (atE_mem e1).1
        rw [e2] at this
        exact absurd this h2
    obtain ⟨p, hp, e1, e2⟩ := hasP_iff.1 hin
    refine ⟨p, List.mem_filter.2 ⟨(hx p).2 hp, ?_⟩, by rw [e1, e2]; exact ha⟩
    rw [Bool.and_eq_true, Bool.not_eq_true', e1, e2]
    refine ⟨?_, hh⟩
    rw [Bool.eq_false_iff]
    intro he
    unfold eqP at he
    rw [Bool.and_eq_true, e1, e2, ha, hh] at he
    obtain ⟨q1, q2⟩ := he
    have q3 : hasB l x.id x.ix = true := by simpa using q2
    obtain ⟨m1, m2, m3⟩ := atE_mem q3
    rw [en_ext m2 m3 q1] at m1
    exact h2 m1
theorem chg_nodup {l0 l : List EnD} {xs : List PtD} (ha : xs.Pairwise fun p q => ptB p.id p.ix q.id q.ix = false) : (chgL l0 l xs).Nodup := by
  unfold chgL List.Nodup
  rw [List.pairwise_map, List.pairwise_filter]
  refine ha.imp fun {p q} hpq hp hq e => ?_
  rw [Bool.and_eq_true] at hp hq
  obtain ⟨_, p2, p3⟩ := atE_mem hp.2
  obtain ⟨_, q2, q3⟩ := atE_mem hq.2
  rw [e] at p2 p3
  have : ptB p.id p.ix q.id q.ix = true := ptB_iff.2 ⟨p2.symm.trans q2, p3.symm.trans q3⟩
  rw [this] at hpq
  cases hpq
/-- What was changed at the points that were touched is what isn't the same. -/
theorem chg_perm {l0 l : List EnD} (h0 : Srt l0) (hl : Srt l) {A xs : List PtD} (hk : Kep l0 l A) (hx : xs.Perm A) : (chgL l0 l xs).Perm (lessL l0 l) :=
  (List.perm_ext_iff_of_nodup (chg_nodup ((hx.pairwise_iff (fun {p q} (h : ptB p.id p.ix q.id q.ix = false) => by
    rw [Bool.eq_false_iff] at h ⊢
    intro e
    obtain ⟨e1, e2⟩ := ptB_iff.1 e
    exact h (ptB_iff.2 ⟨e1.symm, e2.symm⟩))).2 hk.apart)) (srt_nodup (less_srt h0 l))).2 fun _ => chg_mem h0 hl hk.view fun p => hx.mem_iff
theorem chg_perm' {l0 l : List EnD} (h0 : Srt l0) (hl : Srt l) {A xs : List PtD} (hk : Kep l0 l A) (hx : xs.Perm A) : (chgL l l0 xs).Perm (lessL l l0) :=
  (List.perm_ext_iff_of_nodup (chg_nodup ((hx.pairwise_iff (fun {p q} (h : ptB p.id p.ix q.id q.ix = false) => by
    rw [Bool.eq_false_iff] at h ⊢
    intro e
    obtain ⟨e1, e2⟩ := ptB_iff.1 e
    exact h (ptB_iff.2 ⟨e1.symm, e2.symm⟩))).2 hk.apart)) (srt_nodup (less_srt hl l0))).2 fun _ => chg_mem hl h0 (fun a i hn => ⟨(hk.view a i hn).1.symm, (hk.view a i hn).2.symm⟩) fun p => hx.mem_iff

end Go.Proofs.YtnmfjnfdnjjngaaGreatDoor.Co

namespace Go.Proofs.YtnmfjnfdnjjngaaGreatDoor.Co
open Go.RowKit Go.ChangeMaps
set_option maxRecDepth 100000

def sk (x : SpotD) : Value := .agg #[.string x.id, .int .u32 x.ix]
def sw (x : SpotD) : Value := .agg #[.int .i64 x.val, .string x.scr, .int .i64 x.ht, .bool x.there]
def spot0 : SpotD := ⟨⟨#[]⟩, 0, 0, ⟨#[]⟩, 0, false⟩
def decS : Value × Value → SpotD
  | (.agg #[.string a, .int _ i], .agg #[.int _ v, .string s, .int _ t, .bool q]) => ⟨a, i, v, s, t, q⟩
  | _ => spot0
theorem decS_enc (x : SpotD) : decS (sk x, sw x) = x := rfl
/-- The block b is a map of the spots ss. -/
def SMap (w : World) (b : Nat) (ss : List SpotD) : Prop :=
  ∃ es clock, w.heap[b]? = some (.map es clock) ∧ (∀ e ∈ es.toList, e.born < clock) ∧ (es.toList.map (·.born)).Nodup ∧ (es.toList.map fun e => (e.key, e.val)).Perm (ss.map fun x => (sk x, sw x))
theorem SMap.lt {w : World} {b : Nat} {ss : List SpotD} (h : SMap w b ss) : b < w.heap.size := by
  obtain ⟨es, clock, hb, _⟩ := h
  exact lt_of_heap hb
theorem SMap.keep {w w' : World} {b : Nat} {ss : List SpotD} (h : SMap w b ss) (hk : w'.heap[b]? = w.heap[b]?) : SMap w' b ss := by
  obtain ⟨es, clock, hb, r⟩ := h
  exact ⟨es, clock, hk.trans hb, r⟩
theorem SMap.made (w : World) : SMap (w.alloc (.map #[] 0)) w.heap.size [] := ⟨#[], 0, heap_alloc_new w _, by simp, by simp, by simp⟩
theorem spot_of {es : Array MapEntry} {ss : List SpotD} (hp : (es.toList.map fun e => (e.key, e.val)).Perm (ss.map fun x => (sk x, sw x))) {e : MapEntry} (he : e ∈ es.toList) : ∃ x ∈ ss, e.key = sk x ∧ e.val = sw x := by
  have : (e.key, e.val) ∈ ss.map fun x => (sk x, sw x) := hp.mem_iff.1 (List.mem_map.2 ⟨e, he, rfl⟩)
  obtain ⟨x, hx, h⟩ := List.mem_map.1 this
  injection h with h1 h2
  exact ⟨x, hx, h1.symm, h2.symm⟩
theorem spot_for {es : Array MapEntry} {ss : List SpotD} (hp : (es.toList.map fun e => (e.key, e.val)).Perm (ss.map fun x => (sk x, sw x))) {x : SpotD} (hx : x ∈ ss) : ∃ e ∈ es.toList, e.key = sk x ∧ e.val = sw x := by
  have : (sk x, sw x) ∈ es.toList.map fun e => (e.key, e.val) := hp.mem_iff.2 (List.mem_map.2 ⟨x, hx, rfl⟩)
  obtain ⟨e, he, h⟩ := List.mem_map.1 this
  injection h with h1 h2
  exact ⟨e, he, h1, h2⟩
/-- What looking a point up finds. -/
theorem SMap.find {w : World} {ss : List SpotD} (hok : ∀ x ∈ ss, PtOk x.id x.ix) {a : ByteArray} {i : Int} (hx : PtOk a i) {es : Array MapEntry} (hp : (es.toList.map fun e => (e.key, e.val)).Perm (ss.map fun x => (sk x, sw x))) :
    ((Instr.findKey 60 (.agg #[.string a, .int .u32 i]) es.toList).run Tryz.prog w = .ok none w ∧ ∀ x ∈ ss, ¬ (x.id = a ∧ x.ix = i)) ∨
      ∃ (j : Nat) (e : MapEntry), (Instr.findKey 60 (.agg #[.string a, .int .u32 i]) es.toList).run Tryz.prog w = .ok (some (j, e.val)) w ∧ ∃ x ∈ ss, e.val = sw x ∧ x.id = a ∧ x.ix = i := by
  obtain ⟨kl, hl⟩ := key_of a i hx
  have hks : ∀ e ∈ es.toList, ∃ kl, keyOf Tryz.prog 60 e.key = some kl := fun e he => by
    obtain ⟨y, hy, hk, _⟩ := spot_of hp he
    rw [hk]
    exact key_of y.id y.ix (hok y hy)
  rcases keyed.find w hl es.toList hks with ⟨f1, f2⟩ | ⟨j, e, f1, f2, f3⟩
  · refine .inl ⟨f1, fun x hx' ⟨h1, h2⟩ => ?_⟩
    obtain ⟨e, he, hk, _⟩ := spot_for hp hx'
    exact f2 e he (by rw [hk, ← h1, ← h2]; rfl)
  · obtain ⟨y, hy, hk, hv⟩ := spot_of hp (List.mem_of_getElem? f2)
    have e1 : sk y = .agg #[.string a, .int .u32 i] := hk.symm.trans f3
    obtain ⟨h1, h2⟩ : y.id = a ∧ y.ix = i := by simpa [sk] using e1
    exact .inr ⟨j, e, f1, y, hy, hv, h1, h2⟩
/-- Is a point among the spots'? -/
def hasS (ss : List SpotD) (a : ByteArray) (i : Int) : Bool := ss.any fun x => ptB x.id x.ix a i
theorem hasS_iff {ss : List SpotD} {a : ByteArray} {i : Int} : hasS ss a i = true ↔ ∃ x ∈ ss, x.id = a ∧ x.ix = i := by
  unfold hasS
  rw [List.any_eq_true]
  simp only [ptB_iff]
theorem hasS_spot (l0 : List EnD) (A : List PtD) (a : ByteArray) (i : Int) : hasS (A.map (spot l0)) a i = hasP A a i := by
  unfold hasS hasP
  rw [List.any_map]
  rfl
/-- The spot at a point. -/
def atS (ss : List SpotD) (a : ByteArray) (i : Int) : SpotD := (ss.find? fun x => ptB x.id x.ix a i).getD spot0
/-- No two spots have one point. -/
def ApS (ss : List SpotD) : Prop := ss.Pairwise fun x y => ptB x.id x.ix y.id y.ix = false
theorem atS_some {ss : List SpotD} (h : ApS ss) {x : SpotD} (hx : x ∈ ss) : atS ss x.id x.ix = x := by
  unfold atS
  induction ss with
  | nil => cases hx
  | cons y r ih =>
    obtain ⟨h1, h2⟩ := List.pairwise_cons.1 h
    rw [List.find?_cons]
    rcases List.mem_cons.1 hx with rfl | hx
    · rw [show ptB x.id x.ix x.id x.ix = true from ptB_iff.2 ⟨rfl, rfl⟩]
      rfl
    · rw [h1 x hx]
      exact ih h2 hx
theorem atS_none {ss : List SpotD} {a : ByteArray} {i : Int} (h : ∀ x ∈ ss, ¬ (x.id = a ∧ x.ix = i)) : atS ss a i = spot0 := by
  unfold atS
  rw [List.find?_eq_none.2 fun x hx e => h x hx (ptB_iff.1 e)]
  rfl
theorem SMap.look {w : World} {b : Nat} {ss : List SpotD} (h : SMap w b ss) (hok : ∀ x ∈ ss, PtOk x.id x.ix) (hap : ApS ss) {a : ByteArray} {i : Int} (hx : PtOk a i) :
    (Instr.lookup 87 (.map (some b)) (.agg #[.string a, .int .u32 i]) true).run Tryz.prog w = .ok (.tuple #[.agg #[.int .i64 (atS ss a i).val, .string (atS ss a i).scr, .int .i64 (atS ss a i).ht, .bool (atS ss a i).there], .bool (hasS ss a i)]) w := by
  obtain ⟨es, clock, hb, h1, h2, hp⟩ := h
  obtain ⟨kl, hl⟩ := key_of a i hx
  have hch := keyed.check w es.isEmpty hl
  rcases SMap.find (w := w) hok hx hp with ⟨f1, f2⟩ | ⟨j, e, f1, y, hy, hv, q1, q2⟩
  · have hn : hasS ss a i = false := by
      rw [Bool.eq_false_iff]
      intro h
      obtain ⟨x, hx', e⟩ := hasS_iff.1 h
      exact f2 x hx' e
    rw [hn, atS_none f2]
    simp [Instr.lookup, run_underlying Tryz.underlying87, MapKept.run_getObj_map hb, hch, f1, spot0, Result.andThen]
  · have hn : hasS ss a i = true := hasS_iff.2 ⟨y, hy, q1, q2⟩
    have hat := atS_some hap hy
    rw [q1, q2] at hat
    rw [hn, hat]
    simp [Instr.lookup, run_underlying Tryz.underlying87, MapKept.run_getObj_map hb, hch, f1, hv, sw, Result.andThen]
/-- One spot more. -/
theorem SMap.upd {w : World} {b : Nat} {ss : List SpotD} (h : SMap w b ss) (hok : ∀ x ∈ ss, PtOk x.id x.ix) {x : SpotD} (hx : PtOk x.id x.ix) (hn : hasS ss x.id x.ix = false) :
    ∃ o1 : Obj, (∀ W : World, W.heap[b]? = w.heap[b]? → (Instr.mapUpdate 87 (.map (some b)) (.agg #[.string x.id, .int .u32 x.ix]) (.agg #[.int .i64 x.val, .string x.scr, .int .i64 x.ht, .bool x.there])).run Tryz.prog W = .ok () (setBlock W b o1)) ∧
      ∀ W : World, W.heap[b]? = some o1 → SMap W b (ss ++ [x]) := by
  obtain ⟨es, clock, hb, h1, h2, hp⟩ := h
  obtain ⟨kl, hl⟩ := key_of x.id x.ix hx
  refine ⟨.map (es.push ⟨sk x, sw x, clock⟩) (clock + 1), fun W hW => ?_, fun W hW => ?_⟩
  · have hbW := hW.trans hb
    have hch := keyed.check W false hl
    rcases SMap.find (w := W) hok hx hp with ⟨f1, f2⟩ | ⟨j, e, f1, y, hy, hv, q1, q2⟩
    · simp [Instr.mapUpdate, run_underlying Tryz.underlying87, MapKept.run_getObj_map hbW, hch, f1, MapKept.run_setObj_map _ hbW, Result.andThen, setBlock, sk, sw]
    · rw [hasS_iff.2 ⟨y, hy, q1, q2⟩] at hn; cases hn
  · refine ⟨_, _, hW, ?_, ?_, ?_⟩
    · intro e he
      simp only [Array.toList_push, List.mem_append, List.mem_singleton] at he
      rcases he with he | rfl
      · have := h1 e he; omega
      · exact Nat.lt_succ_self _
    · simp only [Array.toList_push, List.map_append, List.map_cons, List.map_nil]
      refine List.nodup_append.2 ⟨h2, by simp, fun a ha c hc e1 => ?_⟩
      simp only [List.mem_singleton] at hc
      obtain ⟨y, hy, rfl⟩ := List.mem_map.1 ha
      have := h1 y hy
      omega
    · simp only [Array.toList_push, List.map_append, List.map_cons, List.map_nil]
      exact hp.append_right _

/-- The range over the map in block b, by the iterator in block r, has handed out xs; cnt are still to come. -/
def SRng (w : World) (b r : Nat) (l xs : List SpotD) (cnt : Nat) : Prop :=
  ∃ es clock seen, w.heap[b]? = some (.map es clock) ∧ w.heap[r]? = some (.mapIter (some b) clock seen clock) ∧ (∀ e ∈ es.toList, e.born < clock) ∧ (es.toList.map (·.born)).Nodup ∧
    (es.toList.map fun e => (e.key, e.val)).Perm (l.map fun x => (sk x, sw x)) ∧ (leftOf es seen).size = cnt ∧
    ((xs.map fun x => (sk x, sw x)) ++ ((leftOf es seen).toList.map fun e => (e.key, e.val))).Perm (l.map fun x => (sk x, sw x))
theorem spots_perm {l m : List SpotD} (h : (l.map fun x => (sk x, sw x)).Perm (m.map fun x => (sk x, sw x))) : l.Perm m := by
  have := h.map decS
  simpa [List.map_map, Function.comp_def, decS_enc] using this
theorem SRng.ltr {w : World} {b r : Nat} {l xs : List SpotD} {cnt : Nat} (h : SRng w b r l xs cnt) : r < w.heap.size := by
  obtain ⟨es, clock, seen, _, hr, _⟩ := h
  exact lt_of_heap hr
theorem SRng.keep {w w' : World} {b r : Nat} {l xs : List SpotD} {cnt : Nat} (h : SRng w b r l xs cnt) (h1 : w'.heap[b]? = w.heap[b]?) (h2 : w'.heap[r]? = w.heap[r]?) : SRng w' b r l xs cnt := by
  obtain ⟨es, clock, seen, hb, hr, q⟩ := h
  exact ⟨es, clock, seen, h1.trans hb, h2.trans hr, q⟩
theorem SRng.far {w : World} {b r : Nat} {l xs : List SpotD} {cnt base n size : Nat} {e : TypeId} {v : Value} {cs : List Value} (h : SRng w b r l xs cnt) (hown : w.ownsRow base e size v n cs) : some r ≠ v.ownBlock := by
  obtain ⟨es, clock, seen, _, hr, _⟩ := h
  intro hh
  rcases hown.2 with ⟨rfl, _⟩ | ⟨g, cap, cur, rfl, _, hg, _⟩
  · simp [Value.ownBlock] at hh
  · simp [Value.ownBlock] at hh
    subst hh
    rw [hr] at hg
    cases hg
theorem SMap.range {w : World} {b : Nat} {l : List SpotD} (h : SMap w b l) :
    ∃ w', (Instr.range 87 (.map (some b))).run Tryz.prog w = .ok (.pointer (some ⟨w.heap.size, 0, none⟩)) w' ∧ SRng w' b w.heap.size l [] l.length ∧ Below w.heap.size w w' ∧ w'.heap.size = w.heap.size + 1 := by
  have hlt := h.lt
  obtain ⟨es, clock, hb, h1, h2, hp⟩ := h
  have e1 : leftOf es #[] = es := by simp [leftOf]
  refine ⟨_, run_range_map w 87 60 135 b es clock Tryz.underlying87 hb, ⟨es, clock, #[], (Below.heap_alloc _ _ _ hlt).trans hb, heap_alloc_new _ _, h1, h2, hp, ?_, ?_⟩, (Below.refl _ _).alloc (Nat.le_refl _) _, by simp⟩
  · rw [e1]
    have := hp.length_eq
    simpa using this
  · rw [e1]
    simpa using hp
/-- The next one, or none. -/
theorem SRng.next {w : World} {b r : Nat} {l xs : List SpotD} {cnt : Nat} (h : SRng w b r l xs cnt) :
    ((Instr.next (.pointer (some ⟨r, 0, none⟩)) false 0).run Tryz.prog w = .ok (.tuple #[.bool false]) w ∧ xs.Perm l) ∨
      ∃ x w' cnt', (Instr.next (.pointer (some ⟨r, 0, none⟩)) false 0).run Tryz.prog w = .ok (.tuple #[.bool true, .agg #[.string x.id, .int .u32 x.ix], .agg #[.int .i64 x.val, .string x.scr, .int .i64 x.ht, .bool x.there]]) w' ∧
        (Instr.entry (.pointer (some ⟨r, 0, none⟩))).run Tryz.prog w' = .ok (.tuple #[.agg #[.string x.id, .int .u32 x.ix], .agg #[.int .i64 x.val, .string x.scr, .int .i64 x.ht, .bool x.there]]) w' ∧
        SRng w' b r l (xs ++ [x]) cnt' ∧ cnt' < cnt ∧ w.grownBy w' (some r) ∧ w'.heap.size = w.heap.size ∧ x ∈ l := by
  obtain ⟨es, clock, seen, hb, hr, h1, h2, hp, hc, hq⟩ := h
  have hne : r ≠ b := by
    rintro rfl
    rw [hr] at hb
    cases hb
  rcases run_next_at (P := Tryz.prog) w 0 r b clock clock seen es clock hr hb h1 (Nat.le_refl _) with ⟨g0, hrun⟩ | ⟨e, he, w1, hal, hrun⟩
  · refine .inl ⟨hrun, spots_perm ?_⟩
    have : (leftOf es seen).toList = [] := by
      have := Array.eq_empty_of_size_eq_zero g0
      rw [this]
    rw [this] at hq
    simpa using hq
  · right
    obtain ⟨x, hx, hk, hv⟩ := spot_of hp (mem_left he).1
    have hr1 : w1.heap[r]? = some (.mapIter (some b) clock seen clock) := by rcases hal with rfl | rfl <;> exact hr
    have hb1 : w1.heap[b]? = some (.map es clock) := by rcases hal with rfl | rfl <;> exact hb
    have hs1 : w1.heap.size = w.heap.size := by rcases hal with rfl | rfl <;> rfl
    have hrw : (setBlock w1 r (.mapIter (some b) clock (seen.push e.born) clock)).heap[r]? = some (.mapIter (some b) clock (seen.push e.born) clock) := set_heap_at _ (lt_of_heap hr1)
    have hbw : (setBlock w1 r (.mapIter (some b) clock (seen.push e.born) clock)).heap[b]? = some (.map es clock) := (set_heap_other _ (fun e => hne e.symm)).trans hb1
    have hen := run_entry_at (P := Tryz.prog) _ r b clock seen es clock e hrw hbw (mem_left he).1 h2
    rw [hk, hv] at hrun hen
    have hlp := left_push h2 he
    refine ⟨x, _, (leftOf es (seen.push e.born)).size, hrun, hen, ⟨es, clock, seen.push e.born, hbw, hrw, h1, h2, hp, rfl, ?_⟩, by rw [← hc]; exact left_shrinks es seen e he, ?_, by rw [set_size]; exact hs1, hx⟩
    · refine List.Perm.trans ?_ hq
      rw [List.map_append, List.append_assoc]
      refine List.Perm.append_left _ ?_
      have := (hlp.map fun e => (e.key, e.val)).symm
      rw [List.map_cons, hk, hv] at this
      exact this
    · rcases hal with rfl | rfl <;> exact ⟨rfl, rfl, rfl, by simp [setBlock], fun i _ hi => set_heap_other _ (fun e1 => hi (by rw [e1]))⟩

/-- Are two spots one? -/
def spB (v : Int) (s : ByteArray) (t : Int) (q : Bool) (v' : Int) (s' : ByteArray) (t' : Int) (q' : Bool) : Bool := coB v s t v' s' t' && (q == q')
theorem run_eql_spot (w : World) (v : Int) (s : ByteArray) (t : Int) (q : Bool) (v' : Int) (s' : ByteArray) (t' : Int) (q' : Bool) :
    (binOp .eql 135 (.agg #[.int .i64 v, .string s, .int .i64 t, .bool q]) (.agg #[.int .i64 v', .string s', .int .i64 t', .bool q'])).run Tryz.prog w = .ok (.bool (spB v s t q v' s' t' q')) w := by
  have u4 := Tryz.underlying4
  have a4 := Tryz.isAgg4
  have z4 := Tryz.sizeOf4
  have a35 := Tryz.isAgg64
  have z35 := Tryz.sizeOf64
  have hS : Tryz.prog.underlying 135 = some (.struct (Tryz.prog.fieldsOf 135)) := by kernel_rfl
  have hp : Tryz.prog.stoodInHeld 135 = false := by kernel_rfl
  have h2 := fun W => equalIn_co 9996 W v s t v' s' t'
  rw [run_eql_struct, show (10000 : Nat) = 9999 + 1 from rfl, run_equalIn_agg w 9999 135 _ _ hS hp]
  simp only [Program.fieldsOf, Tryz.underlying135]
  go_simp
  unfold spB
  cases coB v s t v' s' t' <;> cases q <;> cases q' <;> simp
theorem spot_guard (op : BinOp) (x y : Operand) (a : Array Value) (b : Array Value) (w : World) : (eqGuard op 135 x y (.agg a) (.agg b)).run Tryz.prog w = .ok () w := run_eqGuard_agg w op 135 x y a b (by kernel_rfl)

end Go.Proofs.YtnmfjnfdnjjngaaGreatDoor.Co
