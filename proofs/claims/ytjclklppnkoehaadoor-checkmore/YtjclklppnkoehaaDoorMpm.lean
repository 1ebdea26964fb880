/-
  A fee where coins are added; where the first coin is worth more.
  The statement CheckMore, walked.
  Proved: for every input the statement CheckMore answers true and leaves its arguments as they were. Conditions: the package-level variable errors.errorType holds when the call begins what the program's text lays in it (the card ties that to the text of the pruned copy).
-/
import Derived.Test.YtjclklppnkoehaaDoorRlong
import Derived.Test.YtjclklppnkoehaaDoorKwk
import Derived.Test.YtjclklppnkoehaaDoorHlt
import Derived.StillTailTactics
import Derived.Test.YtjclklppnkoehaaDoorRdj
import Derived.WalkKit
import Derived.ProofKit
import Derived.OpenShut
import Derived.ShutString
import Derived.ChangeOld
import Derived.Lib.SmallJoins
import Derived.Below
import Derived.SizedLaws
import Derived.Handed
import Derived.LaidMore
import Derived.SevenTiedAt
import Derived.Test.YtjclklppnkoehaaDoorRows
import Derived.Test.YtjclklppnkoehaaDoorCards
import Derived.Test.YtjclklppnkoehaaDoorTie

namespace Go.Proofs.YtjclklppnkoehaaDoor
open Go.RowKit
set_option maxRecDepth 100000

theorem sp_eq {l m : List Co.EnD} {t : TxD} {h : Int} {x : InD} (h1 : Co.hasB m x.id x.ix = Co.hasB l x.id x.ix) (h2 : (Co.atE m x.id x.ix).scr = (Co.atE l x.id x.ix).scr) (h3 : (Co.atE m x.id x.ix).ht = (Co.atE l x.id x.ix).ht) : spE m t h x = spE l t h x := by
  unfold spE
  rw [h1, h2, h3]
theorem put_mem {l : List Co.EnD} {x y : Co.EnD} (h : y ∈ l) : y ∈ Co.putL l x := by
  unfold Co.putL
  split
  · exact (Co.insR_perm x l).mem_iff.2 (List.mem_cons_of_mem _ h)
  · exact h
/-- A coin that is there stays, whatever is put. -/
theorem put_keep {l : List Co.EnD} {x : Co.EnD} (hg : Co.Good l) (hx : x.Ok) {a : ByteArray} {i : Int} (h : Co.hasB l a i = true) : Co.hasB (Co.putL l x) a i = true ∧ Co.atE (Co.putL l x) a i = Co.atE l a i := by
  obtain ⟨h1, h2, h3⟩ := Co.atE_mem h
  have hm := put_mem (x := x) h1
  refine ⟨Co.hasB_iff.2 ⟨_, hm, h2, h3⟩, ?_⟩
  have := Co.atE_some (hg.put hx).srt.apart hm
  rw [h2, h3] at this
  exact this
/-- Coins that hold another list's. -/
def Holds (m l : List Co.EnD) : Prop := ∀ (a : ByteArray) (i : Int), Co.hasB l a i = true → Co.hasB m a i = true ∧ Co.atE m a i = Co.atE l a i
theorem Holds.refl (l : List Co.EnD) : Holds l l := fun _ _ h => ⟨h, rfl⟩
theorem Holds.put {m l : List Co.EnD} (h : Holds m l) (hg : Co.Good m) {x : Co.EnD} (hx : x.Ok) : Holds (Co.putL m x) l := fun a i hh => by
  obtain ⟨h1, h2⟩ := h a i hh
  obtain ⟨k1, k2⟩ := put_keep hg hx h1
  exact ⟨k1, k2.trans h2⟩
theorem sum_eq {l m : List Co.EnD} : ∀ {xs : List InD}, (∀ x ∈ xs, spV m x = spV l x) → sumV m xs = sumV l xs
  | [], _ => rfl
  | x :: r, h => by
    have e : ∀ (q : List Co.EnD), sumV q (x :: r) = spV q x + sumV q r := fun q => by simp [sumV]
    rw [e, e, h x (by simp), sum_eq fun y hy => h y (by simp [hy])]
theorem fe_holds {m l : List Co.EnD} {t : TxD} {h : Int} (hm : Holds m l) (hc : (feA l t h).code = 0) : feA m t h = feA l t h := by
  obtain ⟨k1, k2, k3, k4, k5, k6⟩ := fe_has hc
  have hs : ∀ (j : Nat) (x : InD), t.ins[j]? = some x → spE m t h x = 0 ∧ spV m x = spV l x := fun j x hx => by
    have he := k3 j x (List.getElem?_eq_some_iff.1 hx).1 hx
    have h1 := (spE_ok he).1
    obtain ⟨e1, e2⟩ := hm _ _ h1
    exact ⟨(sp_eq (e1.trans h1.symm) (by rw [e2]) (by rw [e2])).trans he, by unfold spV; rw [e2]⟩
  have hv : sumV m t.ins = sumV l t.ins := sum_eq fun x hx => by
    obtain ⟨j, hj, rfl⟩ := List.mem_iff_getElem.1 hx
    exact (hs j _ (List.getElem?_eq_getElem hj)).2
  rw [k6, ← hv]
  exact fe_ok k1 k2 (fun j x _ hx => (hs j x hx).1) (by rw [hv]; exact k4) (by rw [hv]; exact k5)

/-- The less one of a sum and the most money. -/
def mnM (x : Int) : Int := if 2100000000000000 < x then 2100000000000000 else x
theorem mnM_bd {x : Int} (h : 0 ≤ x) : 0 ≤ mnM x ∧ mnM x ≤ 2100000000000000 := by unfold mnM; split <;> omega
theorem mnM_ge {x u : Int} (h : x ≤ 2100000000000000) (hu : 0 ≤ u) : x ≤ mnM (x + u) := by unfold mnM; split <;> omega
/-- A coin at a point is worth more by u. -/
def upE (a : ByteArray) (i u : Int) (x : Co.EnD) : Co.EnD := if Co.isB a i x = true then ⟨x.id, x.ix, mnM (x.val + u), x.scr, x.ht⟩ else x
theorem up_yes {a : ByteArray} {i u : Int} {x : Co.EnD} (h : Co.isB a i x = true) : upE a i u x = ⟨x.id, x.ix, mnM (x.val + u), x.scr, x.ht⟩ := if_pos h
theorem up_no {a : ByteArray} {i u : Int} {x : Co.EnD} (h : Co.isB a i x = false) : upE a i u x = x := if_neg (by simp [h])
theorem up_pt (a : ByteArray) (i u : Int) (x : Co.EnD) : (upE a i u x).id = x.id ∧ (upE a i u x).ix = x.ix ∧ (upE a i u x).scr = x.scr ∧ (upE a i u x).ht = x.ht := by
  unfold upE
  split <;> exact ⟨rfl, rfl, rfl, rfl⟩
theorem up_ok {a : ByteArray} {i u : Int} {x : Co.EnD} (h : x.Ok) (h0 : 0 ≤ x.val) (hu : 0 ≤ u) : (upE a i u x).Ok := by
  unfold upE
  split
  · obtain ⟨h1, h2, h3, h4, h5, h6⟩ := h
    have := mnM_bd (x := x.val + u) (by omega)
    exact ⟨h1, by show _ ≤ mnM _; omega, by show mnM _ ≤ _; omega, h4, h5, h6⟩
  · exact h
def ricL (a : ByteArray) (i u : Int) (xs : List Co.EnD) : List Co.EnD := xs.foldl (fun m x => Co.putL m (upE a i u x)) []
theorem ric_step {a : ByteArray} {i u : Int} {xs : List Co.EnD} {k : Nat} {x : Co.EnD} (h : xs[k]? = some x) : ricL a i u (xs.take (k + 1)) = Co.putL (ricL a i u (xs.take k)) (upE a i u x) := by
  have e : xs.take (k + 1) = xs.take k ++ [x] := by
    rw [List.take_add_one, h]
    rfl
  unfold ricL
  rw [e, List.foldl_append]
  rfl
theorem ric_has {a : ByteArray} {i u : Int} {xs : List Co.EnD} : ∀ k, k ≤ xs.length → (ricL a i u (xs.take k)).length ≤ k ∧ ((ricL a i u (xs.take k)).length = k → ∀ x ∈ xs.take k, upE a i u x ∈ ricL a i u (xs.take k)) := by
  intro k
  induction k with
  | zero => intro _; exact ⟨by simp [ricL], fun _ x hx => by simp at hx⟩
  | succ k ih =>
    intro hk
    obtain ⟨i1, i2⟩ := ih (by omega)
    have hx : xs[k]? = some xs[k] := List.getElem?_eq_getElem _
    rw [ric_step hx]
    have hl := Co.putL_len (ricL a i u (xs.take k)) (upE a i u xs[k])
    refine ⟨by omega, fun he z hz => ?_⟩
    by_cases h0 : Co.putE (ricL a i u (xs.take k)) (upE a i u xs[k]) = 0
    · have hp : Co.putL (ricL a i u (xs.take k)) (upE a i u xs[k]) = Co.insR (upE a i u xs[k]) (ricL a i u (xs.take k)) := if_pos h0
      rw [hp, Co.insR_len] at he
      rw [List.take_add_one, hx] at hz
      rcases List.mem_append.1 hz with hz | hz
      · exact put_mem (i2 (by omega) z hz)
      · have : z = xs[k] := by simpa using hz
        rw [hp, this]
        exact (Co.insR_perm _ _).mem_iff.2 (by simp)
    · have hp : Co.putL (ricL a i u (xs.take k)) (upE a i u xs[k]) = ricL a i u (xs.take k) := if_neg h0
      rw [hp] at he
      omega
theorem ric_at {a : ByteArray} {i u : Int} {l : List Co.EnD} (hg : Co.Good (ricL a i u l)) (hl : ¬ (ricL a i u l).length < l.length) {b : ByteArray} {j : Int} (h : Co.hasB l b j = true) :
    Co.hasB (ricL a i u l) b j = true ∧ Co.atE (ricL a i u l) b j = upE a i u (Co.atE l b j) := by
  have h0 := ric_has (a := a) (i := i) (u := u) (xs := l) l.length (Nat.le_refl _)
  rw [List.take_length] at h0
  obtain ⟨h1, h2, h3⟩ := Co.atE_mem h
  have hm := h0.2 (by omega) _ h1
  obtain ⟨p1, p2, _⟩ := up_pt a i u (Co.atE l b j)
  refine ⟨Co.hasB_iff.2 ⟨_, hm, p1.trans h2, p2.trans h3⟩, ?_⟩
  have := Co.atE_some hg.srt.apart hm
  rw [p1, p2, h2, h3] at this
  exact this
theorem fe_more {l m : List Co.EnD} {t : TxD} {h u : Int} (hg : Co.Good l) (hc : (feA l t h).code = 0) {x0 : InD} (hx : t.ins[0]? = some x0) (hu : 0 ≤ u)
    (hm : ∀ (b : ByteArray) (j : Int), Co.hasB l b j = true → Co.hasB m b j = true ∧ Co.atE m b j = upE x0.id x0.ix u (Co.atE l b j)) :
    (feA m t h).code = 3 ∨ ((feA m t h).code = 0 ∧ (feA m t h).fee = (feA l t h).fee + (Co.atE m x0.id x0.ix).val - (Co.atE l x0.id x0.ix).val) := by
  obtain ⟨k1, k2, k3, k4, k5, k6⟩ := fe_has hc
  have htw := (check_ok k1).2.1
  have hs : ∀ (j : Nat) (x : InD), t.ins[j]? = some x → spE m t h x = 0 ∧ Co.hasB l x.id x.ix = true := fun j x hx => by
    have he := k3 j x (List.getElem?_eq_some_iff.1 hx).1 hx
    have h1 := (spE_ok he).1
    obtain ⟨e1, e2⟩ := hm _ _ h1
    obtain ⟨_, _, p3, p4⟩ := up_pt x0.id x0.ix u (Co.atE l x.id x.ix)
    exact ⟨(sp_eq (e1.trans h1.symm) (by rw [e2]; exact p3) (by rw [e2]; exact p4)).trans he, h1⟩
  obtain ⟨r, hr⟩ : ∃ r, t.ins = x0 :: r := by
    cases hi : t.ins with
    | nil => rw [hi] at hx; cases hx
    | cons y r => rw [hi] at hx; injection hx with hx; exact ⟨r, by rw [hx]⟩
  have hrest : sumV m r = sumV l r := sum_eq fun y hy => by
    obtain ⟨j, hj, rfl⟩ := List.mem_iff_getElem.1 hy
    have hyj : t.ins[j + 1]? = some r[j] := by rw [hr]; simp
    have h1 := (hs _ _ hyj).2
    obtain ⟨_, e2⟩ := hm _ _ h1
    have hn := pt_apart htw (show j + 1 ≠ 0 by omega) hyj hx
    obtain ⟨_, q1, q2⟩ := Co.atE_mem h1
    unfold spV
    rw [e2, up_no]
    rw [Bool.eq_false_iff]
    intro hb
    obtain ⟨b1, b2⟩ := Co.isB_iff.1 hb
    exact hn ⟨q1.symm.trans b1, q2.symm.trans b2⟩
  have h1 := (hs 0 x0 hx).2
  obtain ⟨_, e2⟩ := hm _ _ h1
  obtain ⟨_, q1, q2⟩ := Co.atE_mem h1
  have e : ∀ (q : List Co.EnD), sumV q t.ins = spV q x0 + sumV q r := fun q => by rw [hr]; simp [sumV]
  have hge : spV l x0 ≤ spV m x0 := by
    have := (spV_bd hg x0).2
    unfold spV at this ⊢
    rw [e2, up_yes (Co.isB_iff.2 ⟨q1, q2⟩)]
    exact mnM_ge this hu
  have hsum : sumV m t.ins = sumV l t.ins + spV m x0 - spV l x0 := by rw [e, e, hrest]; omega
  cases h4 : goodB (sumV m t.ins) with
  | false => exact .inl (by rw [fe_range k1 k2 (fun j x _ hx => (hs j x hx).1) h4])
  | true =>
    refine .inr ?_
    rw [fe_ok k1 k2 (fun j x _ hx => (hs j x hx).1) h4 (by omega), k6]
    refine ⟨rfl, ?_⟩
    show sumV m t.ins - (totalD t.outs).1 = sumV l t.ins - (totalD t.outs).1 + (Co.atE m x0.id x0.ix).val - (Co.atE l x0.id x0.ix).val
    rw [hsum]
    unfold spV
    omega

end Go.Proofs.YtjclklppnkoehaaDoor

namespace Go.Proofs.YtjclklppnkoehaaDoor
open Go.RowKit
set_option maxRecDepth 100000

theorem ents_all {w : World} {lo hi : Nat} {A : Option Addr} {n c : Nat} {xs : List Co.EnD} (h : Co.Ents w lo hi (.slice A n c) xs) (hne : xs ≠ []) :
    ∃ b off, A = some ⟨b, off, none⟩ ∧ lo ≤ b ∧ b < hi ∧ ∀ (k : Nat) (x : Co.EnD), xs[k]? = some x → Co.EntAt w b (off + k * 5) x := by
  obtain ⟨A', c', hv, hc, h⟩ := h
  injection hv with e1 _ _
  subst e1
  rcases h with h | ⟨b, off, rfl, h1, h2, h⟩
  · exact absurd h hne
  · exact ⟨b, off, rfl, h1, h2, h⟩
/-- What else is changed beside it. -/
theorem KSt.beside {w w3 : World} {sa sb g lo hi : Nat} {t : TxD} {vi vo : Value} {m : List Co.EnD} {wr wr' : World} (h : KSt w w3 sa sb g lo hi t vi vo m wr) (hl : KLie w w3 sa sb g lo hi) {p q : Nat} (hb : Co.But2 p q wr wr')
    (hp : p ≠ sa ∧ p ≠ sb ∧ (p < lo ∨ hi ≤ p) ∧ p ≠ g ∧ w.heap.size ≤ p) (hq : q ≠ sa ∧ q ≠ sb ∧ (q < lo ∨ hi ≤ q) ∧ q ≠ g ∧ w.heap.size ≤ q) : KSt w w3 sa sb g lo hi t vi vo m wr' := by
  have hz := h.size
  have ha := h.set.lta
  have hb' := h.set.ltb
  obtain ⟨l1, l2, l3, l4, l5, l6, l7⟩ := hl
  have e := fun o => World.cell?_of_block (w := wr) (a := ⟨g, o, none⟩) (hb.block g (by omega) (by omega) (by omega))
  obtain ⟨b0, b1, b2, b3⟩ := h.box
  exact ⟨h.set.keep (hb.block sa ha (by omega) (by omega)) (hb.block sb hb' (by omega) (by omega)), h.tx.keep (hb.kept (by omega) (by omega) (by omega)), ⟨(e 0).trans b0, (e 1).trans b1, (e 2).trans b2, (e 3).trans b3⟩, Co.But2.below h.bel hb (by omega) (by omega) h.bel.size, by have := hb.size; omega⟩
theorem five_ok {pid : ByteArray} (h : pid.size = 32) : Co.EnD.Ok ⟨pid, 0, 5, ⟨#[]⟩, 0⟩ :=
  ⟨⟨by show pid.size ≤ 64; omega, by show (0 : Int) ≤ 0; decide, by show (0 : Int) ≤ 4294967295; decide⟩, by show (-9223372036854775808 : Int) ≤ 5; decide, by show (5 : Int) ≤ 9223372036854775807; decide, by show (⟨#[]⟩ : ByteArray).size ≤ 64; decide, by show (-9223372036854775808 : Int) ≤ 0; decide, by show (0 : Int) ≤ 9223372036854775807; decide⟩
theorem ent_block {w w' : World} {b o : Nat} {x : Co.EnD} (h : Co.EntAt w b o x) (hb : w'.heap[b]? = w.heap[b]?) : Co.EntAt w' b o x := by
  have e := fun o => World.cell?_of_block (w := w) (a := ⟨b, o, none⟩) hb
  exact ⟨(e _).trans h.1, (e _).trans h.2.1, (e _).trans h.2.2.1, (e _).trans h.2.2.2.1, (e _).trans h.2.2.2.2⟩
/-- How the two sets and the list stand behind k of its coins. -/
structure RSt (wc wq : World) (ra rb bl ol : Nat) (l r : List Co.EnD) (k : Nat) : Prop where
  set : Co.SetIs wq ra rb r
  ent : ∀ (j : Nat) (y : Co.EnD), k ≤ j → l[j]? = some y → Co.EntAt wq bl (ol + j * 5) y
  fz : ∀ o, wq.frozen? ⟨bl, o, none⟩ = false
  size : wc.heap.size ≤ wq.heap.size
theorem RSt.below {wc wq wq' : World} {ra rb bl ol : Nat} {l r : List Co.EnD} {k : Nat} (h : RSt wc wq ra rb bl ol l r k) (hl : bl < wc.heap.size) (hb : Below wq.heap.size wq wq') : RSt wc wq' ra rb bl ol l r k := by
  have := h.size
  exact ⟨h.set.below hb h.set.lta h.set.ltb, fun j y hj hy => ent_block (h.ent j y hj hy) (hb.block bl (by omega)), fun o => (hb.frozen (p := ⟨bl, o, none⟩) (by show bl < _; omega)).trans (h.fz o), by have := hb.size; omega⟩
theorem RSt.write {wc wq : World} {ra rb bl ol : Nat} {l r : List Co.EnD} {k : Nat} (h : RSt wc wq ra rb bl ol l r k) (ha : ra ≠ bl) (hb : rb ≠ bl) (v : Value) : RSt wc (wq.setCell ⟨bl, ol + k * 5 + 2, none⟩ v) ra rb bl ol l r (k + 1) := by
  have e := fun o (ho : o ≠ ol + k * 5 + 2) => World.cell?_setCell_other wq ⟨bl, ol + k * 5 + 2, none⟩ ⟨bl, o, none⟩ v (by intro hh; injection hh with _ hh; exact ho hh.symm)
  refine ⟨h.set.keep (Below.heap_setCell _ _ _ _ ha) (Below.heap_setCell _ _ _ _ hb), fun j y hj hy => ?_, fun o => by simp [h.fz o], by simp; exact h.size⟩
  obtain ⟨c0, c1, c2, c3, c4⟩ := h.ent j y (by omega) hy
  exact ⟨(e _ (by omega)).trans c0, (e _ (by omega)).trans c1, (e _ (by omega)).trans c2, (e _ (by omega)).trans c3, (e _ (by omega)).trans c4⟩
theorem RSt.turn {wc wq wq' : World} {ra rb bl ol : Nat} {l r r' : List Co.EnD} {k : Nat} (h : RSt wc wq ra rb bl ol l r k) (hl : bl < wc.heap.size) (ha : bl ≠ ra) (hb : bl ≠ rb) (hs : Co.SetIs wq' ra rb r') (hk : Co.But2 ra rb wq wq') : RSt wc wq' ra rb bl ol l r' k := by
  have := h.size
  exact ⟨hs, fun j y hj hy => ent_block (h.ent j y hj hy) (hk.block bl (by omega) ha hb), fun o => (World.frozen?_of_block (w := wq) (hk.block bl (by omega) ha hb)).trans (h.fz o), by have := hk.size; omega⟩
theorem RSt.next {wc wq : World} {ra rb bl ol : Nat} {l r : List Co.EnD} {k : Nat} (h : RSt wc wq ra rb bl ol l r k) : RSt wc wq ra rb bl ol l r (k + 1) := ⟨h.set, fun j y hj => h.ent j y (by omega), h.fz, h.size⟩
theorem but_set (w : World) (p : Addr) (v : Value) : Co.But2 p.block p.block w (w.setCell p v) := ⟨rfl, rfl, rfl, by simp, fun k _ h _ => Below.heap_setCell _ _ _ _ h⟩

set_option maxHeartbeats 4000000 in
theorem more_law (z : JobD) (vc vs vo : Value) (ms : List CnD) (vm : Value) (up : Int) (w : World) (hz : JobAt w w.heap.size vc vs vo z) (hok : z.Ok) (hd : ErrDoor w) (hms : Cns w 0 w.heap.size vm ms) (hml : ms.length ≤ maxLen) (_hmo : ∀ y ∈ ms, y.Ok) (hup : 0 ≤ up ∧ up ≤ 65535) :
    Calls Tryd.prog 5 #[jobV z vc vs vo, vm, .int .u16 up] w fun e w' => e = .returned (.bool true) ∧ Below w.heap.size w w' := by
  obtain ⟨Am, cm, rfl⟩ := hms.form
  have hmc := Lst.cap hms
  obtain ⟨nm, hnm⟩ : ∃ n, min ms.length 5 = n := ⟨_, rfl⟩
  have hmn : ∀ w, (Builtin.min_ #[3, 3] 3 #[.int .i64 (ms.length : Int), .int .i64 5]).run Tryd.prog w = .ok (.int .i64 (nm : Nat)) w := by rw [← hnm]; exact fun w => run_min_nat 5 #[3, 3] 3 ms.length w
  have g1 : nm ≤ cm := by omega
  have g2 : (nm : Int) ≤ (cm : Int) := by omega
  have g3 : (0 : Int) ≤ (nm : Int) := by omega
  have g4 : nm ≤ 5 := by omega
  have g5 : ms.length ≤ 9223372036854775807 := by unfold maxLen at hml; omega
  generalize ms.length = mm at *
  clear hms hml hmc hnm
  obtain ⟨w0, hw0⟩ : ∃ w0, w0 = w.alloc (.cells #[vc, vs, vo, .int .u32 z.ver, .int .u32 z.lock, .int .i64 z.ht] 27) := ⟨_, rfl⟩
  have z0 : w0.heap.size = w.heap.size + 1 := by rw [hw0]; simp
  have hb0 : Below w.heap.size w w0 := by rw [hw0]; exact (Below.refl _ _).alloc (Nat.le_refl _) _
  have hn0 := hw0 ▸ heap_alloc_new w (.cells #[vc, vs, vo, .int .u32 z.ver, .int .u32 z.lock, .int .i64 z.ht] 27)
  have QB := Lib.hid (fun (V : World) (hV : Below w0.heap.size w0 V) (o : Nat) (v : Value) (hv : (#[vc, vs, vo, .int .u32 z.ver, .int .u32 z.lock, .int .i64 z.ht] : Array Value)[o]? = some v) => (hV.cell (p := ⟨w.heap.size, o, none⟩) (by show w.heap.size < _; omega)).trans (Co.cell_in hn0 hv))
  have JB := Lib.hid (fun (V : World) (hV : Below w0.heap.size w0 V) => (hz.keep (Kept.of_below (hb0.trans (hV.mono (by omega))) (Nat.le_refl _))).wide (show w.heap.size ≤ V.heap.size by have := hV.size; omega))
  have HOK := Lib.hid hok
  have B0 := Lib.hid hb0
  have HW0 := Lib.hid hw0
  have DD := Lib.hid (fun (V : World) (hV : Below w.heap.size w V) => hd.below hV hd.lt)
  have CH := Lib.hid (held_thw z vc vs vo w0 (JB.out w0 (Below.refl _ _)) hok)
  have hht := hok.ht
  obtain ⟨q0, q1, q2, q3, q4, q5⟩ : _ ∧ _ ∧ _ ∧ _ ∧ _ ∧ _ := ⟨QB.out w0 (Below.refl _ _) 0 _ rfl, QB.out w0 (Below.refl _ _) 1 _ rfl, QB.out w0 (Below.refl _ _) 2 _ rfl, QB.out w0 (Below.refl _ _) 3 _ rfl, QB.out w0 (Below.refl _ _) 4 _ rfl, QB.out w0 (Below.refl _ _) 5 _ rfl⟩
  have hmx := run_max0 z.ht
  have pg := pos_ge z.ht
  have pl := pos_le hht.2
  obtain ⟨ht, hhe⟩ : ∃ h, hgt z.ht = h := ⟨_, rfl⟩
  have hbd := hgt_bd z.ht
  rw [hhe] at hbd
  have hr1 : (pos z.ht).tmod 400 = ht := by rw [← hhe]; exact Int.tmod_eq_emod_of_nonneg pg
  have hr2 : IntKind.i64.wrap ht = ht := IntWalk.i64_in _ (by omega)
  have hr3 : ¬ (400 : Int) = 0 := by decide
  have HBD := Lib.hid hbd
  unfold jobV at *
  have Z0 := Lib.hid z0
  clear z0
  clear hz hok hd hw0 hb0 hn0 hht hhe pl hbd
  go_enter Tryd.func5, Tryd.ntmps5
  go_upto_region 1 with (fail)
  rw [show World.alloc w _ = w0 from HW0.out.symm]
  go_wp2_with fail
  refine CH.out.mono ?_
  rintro e w1 ⟨l, vl, rfl, hs1, hents, hl8, hb1, hthw⟩
  obtain ⟨sa, hsa⟩ : ∃ a, w0.heap.size + 2 = a := ⟨_, rfl⟩
  obtain ⟨sb, hsb⟩ : ∃ a, w0.heap.size + 1 = a := ⟨_, rfl⟩
  rw [hsa] at hs1 ⊢
  rw [hsb] at hs1
  have S1 := Lib.hid hs1
  obtain ⟨Av, cv, rfl⟩ := hents.form
  have EV := Lib.hid hents
  have TV := Lib.hid hthw
  clear hents hthw
  have L1 := Lib.hid hb1
  have z1 := hb1.size
  have l1 := hs1.lta
  have CG := Lib.hid (spending_any z vc vs vo w1 (JB.out w1 hb1) HOK.out)
  clear hs1 hb1 CH q0 q1 q2 q3 q4 q5
  obtain ⟨q0, q1, q2, q3, q4, q5⟩ : _ ∧ _ ∧ _ ∧ _ ∧ _ ∧ _ := ⟨QB.out w1 L1.out 0 _ rfl, QB.out w1 L1.out 1 _ rfl, QB.out w1 L1.out 2 _ rfl, QB.out w1 L1.out 3 _ rfl, QB.out w1 L1.out 4 _ rfl, QB.out w1 L1.out 5 _ rfl⟩
  unfold jobV at CG
  go_wp2_with fail
  refine CG.out.mono ?_
  rintro e w2 ⟨t, vi, vto, rfl, ht2, hok2, hb2⟩
  have z2 := hb2.size
  obtain ⟨Ai, ci, rfl⟩ := ht2.1.form
  obtain ⟨Ao, co, rfl⟩ := ht2.2.form
  obtain ⟨w3, hw3⟩ : ∃ w3, w3 = w2.alloc (.cells #[.int .u32 t.ver, .slice Ai t.ins.length ci, .slice Ao t.outs.length co, .int .u32 t.lock] 34) := ⟨_, rfl⟩
  have z3 : w3.heap.size = w2.heap.size + 1 := by rw [hw3]; simp
  have hb3 : Below w2.heap.size w2 w3 := by rw [hw3]; exact (Below.refl _ _).alloc (Nat.le_refl _) _
  have XB := Lib.hid (show Boxed w3 w2.heap.size (.int .u32 t.ver) (.slice Ai t.ins.length ci) (.slice Ao t.outs.length co) (.int .u32 t.lock) from by rw [hw3]; exact Boxed.new _ _ _ _ _ _)
  have XT := Lib.hid (ht2.keep (Kept.of_below hb3 (Nat.le_refl _)))
  have OKT := Lib.hid hok2
  have S3 := Lib.hid ((S1.out.below hb2 (by omega) (by omega)).below hb3 (by omega) (by omega))
  have L3 := Lib.hid (below_next (below_next L1.out L1.out.size hb2) (by omega) hb3)
  have B3 := Lib.hid (B0.out.trans (L3.out.mono (by have := Z0.out; omega)))
  have HW3 := Lib.hid hw3
  have L13 := Lib.hid (below_next hb2 hb2.size hb3)
  clear q0 q1 q2 q3 q4 q5 CG ht2 hok2 hb2 hb3 hw3
  have q5 := QB.out w3 L3.out 5 _ rfl
  have CF := Lib.hid (fun V (hV : Below w3.heap.size w3 V) => fee_any _ _ l t ht _ _ V (S3.out.below hV (by omega) (by omega)) ((XT.out.keep (Kept.of_below hV (by omega))).wide (Nat.zero_le _) (show w2.heap.size ≤ V.heap.size by have := hV.size; omega)) OKT.out)
  have CW := Lib.hid (fun V (hV : Below w.heap.size w V) => wakes_any V (DD.out V hV))
  obtain ⟨b0, b1, b2, b3⟩ := XB.out
  go_upto_region 3 with (fail)
  rw [show World.alloc w2 _ = w3 from HW3.out.symm]
  obtain ⟨A, hA⟩ : ∃ A, feA l t ht = A := ⟨_, rfl⟩
  have CF3 := Lib.hid (CF.out w3 (Below.refl _ _))
  rw [hA] at CF3
  have HA := Lib.hid hA
  clear hA
  go_wp2_with fail
  refine CF3.out.mono ?_
  rintro e w5 ⟨ve, rfl, he, hb5⟩
  have L5 := Lib.hid hb5
  have E5 := Lib.hid he
  have B5 := Lib.hid (below_next B3.out B3.out.size hb5)
  clear hb5 he CF3 b0 b1 b2 b3 q5
  by_cases hc : A.code = 0
  · have hc0 : (feA l t ht).code = 0 := by rw [HA.out]; exact hc
    obtain ⟨k1, k2, k3, k4, k5, k6⟩ := fe_has hc0
    obtain ⟨m1, m2, m3⟩ := check_ok k1
    obtain rfl : ve = .nilIface := by have h := E5.out; rw [hc] at h; exact h.none
    have hnn := neq_none
    have hen := eql_none
    have HL := Lib.hid (show KLie w w3 sa sb w2.heap.size w1.heap.size w2.heap.size from ⟨by have := Z0.out; omega, by have := Z0.out; omega, by have := S1.out.lta; omega, by have := S1.out.ltb; omega, by omega, Nat.le_refl _, by omega⟩)
    have K5 := Lib.hid (show KSt w w3 sa sb w2.heap.size w1.heap.size w2.heap.size t (.slice Ai t.ins.length ci) (.slice Ao t.outs.length co) l w5 from ⟨S3.out.below L5.out (by omega) (by omega), XT.out.keep (Kept.of_below L5.out (by omega)), XB.out.below (by omega) L5.out, B5.out, L5.out.size⟩)
    have hn := OKT.out.1
    have GD := Lib.hid S3.out.good
    obtain ⟨x, hx⟩ : ∃ x, t.ins[0]? = some x := ⟨_, List.getElem?_eq_getElem (by omega)⟩
    obtain ⟨i1, i2, i3, _⟩ := OKT.out.2.2.1 x (List.mem_of_getElem? hx)
    have HX := Lib.hid hx
    have PT := Lib.hid (show Co.PtOk x.id x.ix from ⟨i1, i2, i3⟩)
    obtain ⟨bi, oi, rfl, _⟩ := K5.out.tx.1.at hx
    have HH := Lib.hid (spE_ok (k3 0 x (by omega) hx)).1
    have HC0 := Lib.hid hc0
    have hlne : l ≠ [] := by intro h; have := HH.out; rw [h] at this; cases this
    obtain ⟨bl, ol, rfl, f1, f2, EL⟩ := ents_all EV.out hlne
    have hl0 : 0 < l.length := List.length_pos_iff.2 hlne
    have FZ := Lib.hid (TV.out ⟨bl, ol, none⟩ _ _ rfl hl0)
    have EL := Lib.hid EL
    obtain ⟨nl, hnl⟩ : ∃ n, l.length = n := ⟨_, rfl⟩
    have HNL := Lib.hid hnl
    rw [hnl] at EV TV hl8 ⊢
    have FU := Lib.hid (fun m (hm : ∀ (b : ByteArray) (j : Int), Co.hasB l b j = true → Co.hasB m b j = true ∧ Co.atE m b j = upE x.id x.ix up (Co.atE l b j)) => fe_more (h := ht) GD.out hc0 hx hup.1 hm)
    have FH := Lib.hid (fun m (hm : Holds m l) => (fe_holds (h := ht) hm hc0).trans HA.out)
    have r1 : ¬ (t.ins.length : Int) = 0 := by omega
    have r7 : (0 : Int) < (t.ins.length : Int) := by omega
    have FB : 0 ≤ A.fee ∧ A.fee ≤ 512 * 2100000000000000 := by
      rw [← HA.out, k6]
      have a1 := sumV_bd S3.out.good t.ins
      have a2 := total_fits t.outs
      show 0 ≤ sumV l t.ins - (totalD t.outs).1 ∧ sumV l t.ins - (totalD t.outs).1 ≤ _
      omega
    clear hc E5 CF k1 k2 k3 k4 k5 k6 m2 m3 hx i1 i2 i3 hlne hnl hc0 EV
    go_wp2_with fail
    go_loopg [53] nm (fun gg s53 wr => ∃ (k : Nat) (m : List Co.EnD), k ≤ nm ∧ nm - k ≤ gg ∧ s53 = .int .i64 (k : Int) ∧ Hid (wr.heap[bl]? = w1.heap[bl]?) ∧ Hid (Holds m l) ∧ Hid (KSt w w3 sa sb w2.heap.size w1.heap.size w2.heap.size t (.slice (some ⟨bi, oi, none⟩) t.ins.length ci) (.slice Ao t.outs.length co) m wr))
    case atStart => exact ⟨0, l, Nat.zero_le _, by omega, rfl, Lib.hid ((below_next L13.out L13.out.size L5.out).block bl f2), Lib.hid (Holds.refl l), K5⟩
    case round =>
      obtain ⟨k, m, hk, hgk, rfl, HQ, HM, HK⟩ := hrel
      have hwr := HK.out.size
      by_cases hlt : k < nm
      · have j1 : (k : Int) < (nm : Int) := by omega
        have j2 : decide (k < nm) = true := decide_eq_true hlt
        have wr0 : IntKind.i64.wrap (90 + (k : Int)) = 90 + k := by rw [IntWalk.i64_in _ (by omega)]
        have CI := Lib.hid (Co.id_det (90 + (k : Int)) wr)
        have IS := Lib.hid (Co.idT_size (90 + (k : Int)) 32)
        obtain ⟨pid, hpid⟩ : ∃ s, Co.idT (90 + (k : Int)) 32 = s := ⟨_, rfl⟩
        rw [hpid] at CI IS
        clear hpid
        have OX := Lib.hid (show Co.EnD.Ok ⟨pid, 0, 5, ⟨#[]⟩, 0⟩ from five_ok IS.out)
        go_wp2_with fail
        refine CI.out.mono ?_
        rintro e w8 ⟨rfl, hb8⟩
        have K8 := Lib.hid (HK.out.below HL.out hb8)
        have CU := Lib.hid (Co.put_any sa sb m ⟨pid, 0, 5, ⟨#[]⟩, 0⟩ w8 K8.out.set OX.out)
        have Q8 := Lib.hid ((hb8.block bl (by omega)).trans HQ.out)
        have hz8 := hb8.size
        clear hb8
        go_wp2_with fail
        refine CU.out.mono ?_
        rintro e w9 ⟨rfl, hs9, hk9⟩
        have K9 := Lib.hid (K8.out.turn HL.out hs9 hk9)
        have H9 := Lib.hid (HM.out.put K8.out.set.good OX.out)
        have Q9 := Lib.hid ((hk9.block bl (by omega) (by omega) (by omega)).trans Q8.out)
        clear hs9 hk9
        go_wp2_with fail
        go_roundg (nm - (k + 1))
        case measure => omega
        case rel => exact ⟨k + 1, _, by omega, by omega, by go_num, Q9, H9, K9⟩
      · have k2' : decide (k < nm) = false := decide_eq_false hlt
        have k3' : decide ((k : Int) < (nm : Int)) = false := decide_eq_false (by omega)
        have F1 := Lib.hid (fee_any sa sb m t ht _ _ wr HK.out.set (HK.out.tx.wide (Nat.zero_le _) (by have := HK.out.size; omega)) OKT.out)
        rw [FH.out m HM.out] at F1
        obtain ⟨b0, b1, b2, b3⟩ := HK.out.box
        go_wp2_with fail
        refine F1.out.mono ?_
        rintro e wb ⟨v2, rfl, he2, hbb⟩
        obtain rfl : v2 = .nilIface := by rw [← HA.out, HC0.out] at he2; exact he2.none
        have KB := Lib.hid (HK.out.below HL.out hbb)
        have hbb' := Lib.hid hbb
        clear b0 b1 b2 b3 he2 hbb F1
        have CN := Lib.hid (Co.new_any wb)
        go_wp2_with fail
        refine CN.out.mono ?_
        rintro e wc ⟨rfl, hsc, hbc, hzc⟩
        have KC := Lib.hid (KB.out.below HL.out hbc)
        obtain ⟨ra, hra⟩ : ∃ a, wb.heap.size + 1 = a := ⟨_, rfl⟩
        obtain ⟨rb, hrb⟩ : ∃ a, wb.heap.size = a := ⟨_, rfl⟩
        rw [hra] at hsc ⊢
        rw [hrb] at hsc
        have RC := Lib.hid hsc
        have hwb := KB.out.size
        have hw0 := Z0.out
        have QC := Lib.hid (((hbc.block bl (by omega)).trans (hbb'.out.block bl (by omega))).trans HQ.out)
        have R0 := Lib.hid (show RSt wc wc ra rb bl ol l (ricL x.id x.ix up (l.take 0)) 0 from ⟨by rw [List.take_zero]; exact RC.out, fun j y _ hy => ent_block (EL.out j y hy) QC.out, fun o => by
          obtain ⟨cur, ty, hh⟩ := FZ.out
          exact Lib.frozen_of_heap (QC.out.trans hh) o, Nat.le_refl _⟩)
        have hbl : bl < wc.heap.size := by omega
        have hra' : wb.heap.size ≤ ra := by omega
        have hrb' : wb.heap.size ≤ rb := by omega
        have hna : ra ≠ bl := by omega
        have hnb : rb ≠ bl := by omega
        clear hsc hbc CN
        go_wp2_with fail
        go_loopg [76] nl (fun gg s76 wq => ∃ k : Nat, k ≤ nl ∧ nl - k ≤ gg ∧ s76 = .int .i64 (k : Int) ∧ Hid (RSt wc wq ra rb bl ol l (ricL x.id x.ix up (l.take k)) k) ∧ Hid (KSt w w3 sa sb w2.heap.size w1.heap.size w2.heap.size t (.slice (some ⟨bi, oi, none⟩) t.ins.length ci) (.slice Ao t.outs.length co) m wq))
        case atStart => exact ⟨0, Nat.zero_le _, by omega, rfl, R0, KC⟩
        case round =>
          obtain ⟨k2, hk2, hgk2, rfl, HR, HKq⟩ := hrel
          by_cases hlt2 : k2 < nl
          · have j1 : (k2 : Int) < (nl : Int) := by omega
            have j2 : decide (k2 < nl) = true := decide_eq_true hlt2
            have j3 : ¬ (k2 : Int) < 0 := by omega
            obtain ⟨y, hy⟩ : ∃ y, l[k2]? = some y := ⟨_, List.getElem?_eq_getElem (by rw [HNL.out]; exact hlt2)⟩
            obtain ⟨c0, c1, c2, c3, c4⟩ := HR.out.ent k2 y (Nat.le_refl _) hy
            have hzq := HR.out.size
            have hblq : bl < wr.heap.size := by omega
            have hyo := GD.out.ok y (List.mem_of_getElem? hy)
            have hyp := GD.out.pos y (List.mem_of_getElem? hy)
            have YO := Lib.hid (And.intro hyo hyp)
            have yv1 : y.val ≤ 2100000000000000 := by
              have := (spV_bd GD.out ⟨y.id, y.ix, 0, []⟩).2
              unfold spV at this
              rw [Co.atE_some GD.out.srt.apart (List.mem_of_getElem? hy)] at this
              exact this
            obtain ⟨w8, hw8⟩ : ∃ w8, w8 = wr.alloc (.cells #[.string y.id, .int .u32 y.ix, .int .i64 y.val, .string y.scr, .int .i64 y.ht] 77) := ⟨_, rfl⟩
            have hb8 : Below wr.heap.size wr w8 := by rw [hw8]; exact (Below.refl _ _).alloc (Nat.le_refl _) _
            have z8 : w8.heap.size = wr.heap.size + 1 := by rw [hw8]; simp
            have y0 : w8.cell? ⟨wr.heap.size, 0, none⟩ = some (.string y.id) := by rw [hw8]; simp
            have y1 : w8.cell? ⟨wr.heap.size, 1, none⟩ = some (.int .u32 y.ix) := by rw [hw8]; simp
            have y2 : w8.cell? ⟨wr.heap.size, 2, none⟩ = some (.int .i64 y.val) := by rw [hw8]; simp
            have K8 := Lib.hid (HKq.out.below HL.out hb8)
            have R8 := Lib.hid (HR.out.below hbl hb8)
            obtain ⟨_, oi', hAi, p1, p2, d0, d1, _, u, _, _⟩ := K8.out.tx.1.at HX.out
            injection hAi with hAi
            injection hAi with hA1 hA2
            subst hA1 hA2
            rw [show oi + 0 * 4 = oi from by omega] at d0 d1
            obtain ⟨b0, b1, b2, b3⟩ := K8.out.box
            obtain ⟨q, hq⟩ : ∃ q, Co.isB x.id x.ix y = q := ⟨_, rfl⟩
            have heq : ∀ W, (binOp .eql 43 (.agg #[.string y.id, .int .u32 y.ix]) (.agg #[.string x.id, .int .u32 x.ix])).run Tryd.prog W = .ok (.bool q) W := fun W => by rw [run_eql_pt, ← hq]; rfl
            have HQ2 := Lib.hid hq
            have HW8 := Lib.hid hw8
            have HY := Lib.hid hy
            clear hq hw8 hb8 hyo hy
            go_upto_region 17 with (fail)
            rw [show World.alloc wr _ = w8 from HW8.out.symm]
            go_quiet (fail)
            have hsn : bl ≠ sa ∧ bl ≠ sb ∧ (bl < w1.heap.size ∨ w2.heap.size ≤ bl) ∧ bl ≠ w2.heap.size ∧ w.heap.size ≤ bl := by omega
            have P0 := Lib.hid (fun (V : World) (hV : Below w8.heap.size w8 V) (h0 : q = false) => (show RSt wc V ra rb bl ol l (ricL x.id x.ix up (l.take k2)) (k2 + 1) ∧ KSt w w3 sa sb w2.heap.size w1.heap.size w2.heap.size t (.slice (some ⟨bi, oi, none⟩) t.ins.length ci) (.slice Ao t.outs.length co) m V ∧ Co.EntAt V bl (ol + k2 * 5) (upE x.id x.ix up y) ∧ PtBox V wr.heap.size (upE x.id x.ix up y).id (upE x.id x.ix up y).ix ∧ wr.heap.size < V.heap.size from by
              have hR := R8.out.below hbl hV
              rw [up_no (HQ2.out.trans h0)]
              exact ⟨hR.next, K8.out.below HL.out hV, hR.ent k2 y (Nat.le_refl _) HY.out, ⟨(hV.cell (p := ⟨wr.heap.size, 0, none⟩) (by show wr.heap.size < _; omega)).trans y0, (hV.cell (p := ⟨wr.heap.size, 1, none⟩) (by show wr.heap.size < _; omega)).trans y1⟩, by have := hV.size; omega⟩))
            have P1 := Lib.hid (fun (V : World) (hV : Below w8.heap.size w8 V) (h0 : q = true) => (show RSt wc (V.setCell ⟨bl, ol + k2 * 5 + 2, none⟩ (.int .i64 (mnM (y.val + up)))) ra rb bl ol l (ricL x.id x.ix up (l.take k2)) (k2 + 1) ∧ KSt w w3 sa sb w2.heap.size w1.heap.size w2.heap.size t (.slice (some ⟨bi, oi, none⟩) t.ins.length ci) (.slice Ao t.outs.length co) m (V.setCell ⟨bl, ol + k2 * 5 + 2, none⟩ (.int .i64 (mnM (y.val + up)))) ∧ Co.EntAt (V.setCell ⟨bl, ol + k2 * 5 + 2, none⟩ (.int .i64 (mnM (y.val + up)))) bl (ol + k2 * 5) (upE x.id x.ix up y) ∧ PtBox (V.setCell ⟨bl, ol + k2 * 5 + 2, none⟩ (.int .i64 (mnM (y.val + up)))) wr.heap.size (upE x.id x.ix up y).id (upE x.id x.ix up y).ix ∧ wr.heap.size < (V.setCell ⟨bl, ol + k2 * 5 + 2, none⟩ (.int .i64 (mnM (y.val + up)))).heap.size from by
              have hR := R8.out.below hbl hV
              obtain ⟨a0, a1, a2, a3, a4⟩ := hR.ent k2 y (Nat.le_refl _) HY.out
              rw [up_yes (HQ2.out.trans h0)]
              have e := fun o (ho : o ≠ ol + k2 * 5 + 2) => World.cell?_setCell_other V ⟨bl, ol + k2 * 5 + 2, none⟩ ⟨bl, o, none⟩ (.int .i64 (mnM (y.val + up))) (by intro hh; injection hh with _ hh; exact ho hh.symm)
              have e2 := fun o => World.cell?_setCell_other V ⟨bl, ol + k2 * 5 + 2, none⟩ ⟨wr.heap.size, o, none⟩ (.int .i64 (mnM (y.val + up))) (by intro hh; injection hh with hh; omega)
              exact ⟨hR.write hna hnb _, (K8.out.below HL.out hV).beside HL.out (but_set V ⟨bl, ol + k2 * 5 + 2, none⟩ _) hsn hsn, ⟨(e _ (by omega)).trans a0, (e _ (by omega)).trans a1, World.cell?_setCell_same _ _ _ a2, (e _ (by omega)).trans a3, (e _ (by omega)).trans a4⟩, ⟨(e2 0).trans ((hV.cell (p := ⟨wr.heap.size, 0, none⟩) (by show wr.heap.size < _; omega)).trans y0), (e2 1).trans ((hV.cell (p := ⟨wr.heap.size, 1, none⟩) (by show wr.heap.size < _; omega)).trans y1)⟩, by simp; have := hV.size; omega⟩))
            have hwu : IntKind.i64.wrap (y.val + up) = y.val + up := by rw [IntWalk.i64_in _ (by omega)]
            have hwv : IntKind.i64.wrap up = up := by rw [IntWalk.i64_in _ (by omega)]
            have hmi : ∀ W, (Builtin.min_ #[3, 3] 3 #[.int .i64 (y.val + up), .int .i64 2100000000000000]).run Tryd.prog W = .ok (.int .i64 (mnM (y.val + up))) W := fun W => by rw [run_min_int2]; rfl
            have hfz : ∀ o, w8.frozen? ⟨bl, o, none⟩ = false := R8.out.fz
            obtain ⟨c0', c1', c2', c3', c4'⟩ := R8.out.ent k2 y (Nat.le_refl _) HY.out
            clear c0 c1 c2 c3 c4
            go_upto_if 88 with (fail)
            go_cut [] (fun wx => Hid (RSt wc wx ra rb bl ol l (ricL x.id x.ix up (l.take k2)) (k2 + 1) ∧ KSt w w3 sa sb w2.heap.size w1.heap.size w2.heap.size t (.slice (some ⟨bi, oi, none⟩) t.ins.length ci) (.slice Ao t.outs.length co) m wx ∧ Co.EntAt wx bl (ol + k2 * 5) (upE x.id x.ix up y) ∧ PtBox wx wr.heap.size (upE x.id x.ix up y).id (upE x.id x.ix up y).ix ∧ wr.heap.size < wx.heap.size))
            case first =>
              cases q with
              | false =>
                go_wp2_with fail
                go_meet
                exact Lib.hid (P0.out _ (Co.below_drewN (Below.refl _ _) _) trivial)
              | true =>
                go_wp2_with fail
                go_meet
                exact Lib.hid (P1.out _ (Co.below_drewN (Below.refl _ _) _) trivial)
            case rest =>
              clear b0 b1 b2 b3 d0 d1 c0' c1' c2' c3' c4' y0 y1 y2 hfz heq hmi P0 P1 hwu hwv
              have UO := Lib.hid (up_ok (a := x.id) (i := x.ix) YO.out.1 YO.out.2 hup.1)
              have RS := Lib.hid (ric_step (a := x.id) (i := x.ix) (u := up) HY.out)
              generalize upE x.id x.ix up y = yy at *
              obtain ⟨hR9, hK9, hE9, ⟨a0, a1⟩, hz9⟩ := hcut.out
              have R9 := Lib.hid hR9
              have K9 := Lib.hid hK9
              obtain ⟨e0, e1, e2, e3, e4⟩ := hE9
              have hwrn : ¬ wr.heap.size = bl := by omega
              clear hR9 hK9 hcut
              obtain ⟨yi, yx, yv, ys, yt⟩ := yy
              simp only at a0 a1 e0 e1 e2 e3 e4
              go_upto_region 19 with (fail)
              go_still_tail 8, (by kernel_rfl)
              change wpList _ _ _ _ _ wc.drew
              have hb9 : Below wc.heap.size wc wc.drew := (Below.refl _ _).drew
              obtain ⟨w9, hw9⟩ : ∃ w9, wc.drew = w9 := ⟨_, rfl⟩
              rw [hw9] at hb9 ⊢
              have KK := Lib.hid (K9.out.below HL.out hb9)
              have RK := Lib.hid (R9.out.below hbl hb9)
              have CP := Lib.hid (Co.put_any ra rb _ ⟨yi, yx, yv, ys, yt⟩ w9 RK.out.set UO.out)
              simp only at CP
              clear hw9 hb9 a0 a1 e0 e1 e2 e3 e4
              go_wp2_with fail
              refine CP.out.mono ?_
              rintro e wd ⟨rfl, hsd, hkd⟩
              have hra2 : ra ≠ sa ∧ ra ≠ sb ∧ (ra < w1.heap.size ∨ w2.heap.size ≤ ra) ∧ ra ≠ w2.heap.size ∧ w.heap.size ≤ ra := by omega
              have hrb2 : rb ≠ sa ∧ rb ≠ sb ∧ (rb < w1.heap.size ∨ w2.heap.size ≤ rb) ∧ rb ≠ w2.heap.size ∧ w.heap.size ≤ rb := by omega
              have KD := Lib.hid (KK.out.beside HL.out hkd hra2 hrb2)
              have RD := Lib.hid (RK.out.turn hbl (Ne.symm hna) (Ne.symm hnb) hsd hkd)
              rw [← RS.out] at RD
              clear hsd hkd CP
              go_wp2_with fail
              go_roundg (nl - (k2 + 1))
              case measure => omega
              case rel => exact ⟨k2 + 1, by omega, by omega, by go_num, RD, KD⟩
          · have k2' : decide (k2 < nl) = false := decide_eq_false hlt2
            have k3' : decide ((k2 : Int) < (nl : Int)) = false := decide_eq_false (by omega)
            obtain rfl : k2 = nl := by omega
            rw [show l.take k2 = l from by rw [← HNL.out, List.take_length]] at HR
            obtain ⟨r, hr⟩ : ∃ r, ricL x.id x.ix up l = r := ⟨_, rfl⟩
            have HRR := Lib.hid hr
            rw [hr] at HR
            have CL := Lib.hid (Co.len_any ra rb r wr HR.out.set)
            obtain ⟨rl, hrl⟩ : ∃ n, r.length = n := ⟨_, rfl⟩
            rw [hrl] at CL
            have HRL := Lib.hid hrl
            clear hr hrl
            by_cases hlen : rl < k2
            · have j1 : (rl : Int) < (k2 : Int) := by omega
              have j2 : decide (rl < k2) = true := decide_eq_true hlen
              go_wp2_with fail
              refine CL.out.mono ?_
              rintro e wd ⟨rfl, rfl⟩
              go_wp2_with fail
              refine (CW.out wd HKq.out.bel).mono ?_
              rintro e we ⟨rfl, hbe⟩
              have BE := Lib.hid (below_next HKq.out.bel HKq.out.bel.size hbe)
              clear hbe
              go_wp2_with fail
              go_ret
              exact ⟨rfl, BE.out⟩
            · have j1 : ¬ (rl : Int) < (k2 : Int) := by omega
              have j2 : decide (rl < k2) = false := decide_eq_false hlen
              go_wp2_with fail
              refine CL.out.mono ?_
              rintro e wd ⟨rfl, rfl⟩
              have hgood := HR.out.set.good
              have RA : ∀ (b : ByteArray) (j : Int), Co.hasB l b j = true → Co.hasB r b j = true ∧ Co.atE r b j = upE x.id x.ix up (Co.atE l b j) := by
                rw [← HRR.out]
                exact fun b j h => ric_at (by rw [HRR.out]; exact hgood) (by rw [HRR.out, HRL.out, HNL.out]; exact hlen) h
              have FUr := FU.out r RA
              obtain ⟨G, hG⟩ : ∃ G, feA r t ht = G := ⟨_, rfl⟩
              rw [hG, HA.out] at FUr
              have h1 := (RA _ _ HH.out).1
              obtain ⟨h2, h3⟩ := HM.out _ _ HH.out
              have CG1 := Lib.hid (Co.get_any ra rb r x.id x.ix wd HR.out.set PT.out)
              rw [h1] at CG1
              have cb := spV_bd hgood x
              have db := spV_bd GD.out x
              unfold spV at cb db
              have CG2 := Lib.hid (fun (V : World) (hV : Co.SetIs V sa sb m) => (show Calls Tryd.prog 19 #[.pointer (some ⟨sa, 0, none⟩), .agg #[.string x.id, .int .u32 x.ix]] V fun e w' => e = .returned (.tuple #[.agg #[.int .i64 (Co.atE l x.id x.ix).val, .string (Co.atE l x.id x.ix).scr, .int .i64 (Co.atE l x.id x.ix).ht], .bool true]) ∧ Below V.heap.size V w' from by
                have := Co.get_any sa sb m x.id x.ix V hV PT.out
                rw [h2, h3] at this
                exact this))
              obtain ⟨c, hc⟩ : ∃ c, Co.atE r x.id x.ix = c := ⟨_, rfl⟩
              rw [hc] at CG1 FUr cb
              obtain ⟨d, hd⟩ : ∃ c, Co.atE l x.id x.ix = c := ⟨_, rfl⟩
              rw [hd] at CG2 FUr db
              obtain ⟨cI, cX, cV, cS, cT⟩ := c
              obtain ⟨dI, dX, dV, dS, dT⟩ := d
              simp only at CG1 CG2 FUr cb db
              have HG := Lib.hid hG
              have FR := Lib.hid FUr
              have CB := Lib.hid (And.intro cb db)
              obtain ⟨_, oi', hAi, p1, p2, d0, d1, _, u, _, _⟩ := HKq.out.tx.1.at HX.out
              injection hAi with hAi
              injection hAi with hA1 hA2
              subst hA1 hA2
              rw [show oi + 0 * 4 = oi from by omega] at d0 d1
              obtain ⟨b0, b1, b2, b3⟩ := HKq.out.box
              clear hc hd hG h1 h2 h3 RA FUr cb db hgood
              go_wp2_with fail
              refine CG1.out.mono ?_
              rintro e we ⟨rfl, hbe⟩
              have KE := Lib.hid (HKq.out.below HL.out hbe)
              have RE := Lib.hid (HR.out.below hbl hbe)
              obtain ⟨wf, hwf⟩ : ∃ wa, wa = we.alloc (.cells #[.int .i64 cV, .string cS, .int .i64 cT] 50) := ⟨_, rfl⟩
              have hbf : Below we.heap.size we wf := by rw [hwf]; exact (Below.refl _ _).alloc (Nat.le_refl _) _
              have zf : wf.heap.size = we.heap.size + 1 := by rw [hwf]; simp
              have u0 : wf.cell? ⟨we.heap.size, 0, none⟩ = some (.int .i64 cV) := by rw [hwf]; simp
              have KF := Lib.hid (KE.out.below HL.out hbf)
              have RF := Lib.hid (RE.out.below hbl hbf)
              have HWF := Lib.hid hwf
              clear b0 b1 b2 b3 d0 d1 hbe hbf hwf CG1
              obtain ⟨_, oi', hAi, p1', p2', d0, d1, _, u', _, _⟩ := KF.out.tx.1.at HX.out
              injection hAi with hAi
              injection hAi with hA1 hA2
              subst hA1 hA2
              rw [show oi + 0 * 4 = oi from by omega] at d0 d1
              obtain ⟨b0, b1, b2, b3⟩ := KF.out.box
              have CG3 := Lib.hid (CG2.out wf KF.out.set)
              go_upto_region 24 with (fail)
              rw [show World.alloc we _ = wf from HWF.out.symm]
              go_wp2_with fail
              refine CG3.out.mono ?_
              rintro e wg ⟨rfl, hbg⟩
              have KG := Lib.hid (KF.out.below HL.out hbg)
              have RG := Lib.hid (RF.out.below hbl hbg)
              have u1 := (hbg.cell (p := ⟨we.heap.size, 0, none⟩) (by show we.heap.size < _; omega)).trans u0
              have zg := hbg.size
              obtain ⟨wh, hwh⟩ : ∃ wa, wa = wg.alloc (.cells #[.int .i64 dV, .string dS, .int .i64 dT] 50) := ⟨_, rfl⟩
              have hbh : Below wg.heap.size wg wh := by rw [hwh]; exact (Below.refl _ _).alloc (Nat.le_refl _) _
              have zh : wh.heap.size = wg.heap.size + 1 := by rw [hwh]; simp
              have v0 : wh.cell? ⟨wg.heap.size, 0, none⟩ = some (.int .i64 dV) := by rw [hwh]; simp
              have u2 := (hbh.cell (p := ⟨we.heap.size, 0, none⟩) (by show we.heap.size < _; omega)).trans u1
              have KH := Lib.hid (KG.out.below HL.out hbh)
              have RH := Lib.hid (RG.out.below hbl hbh)
              have HWH := Lib.hid hwh
              have F5 := Lib.hid (fee_any ra rb r t ht _ _ wh RH.out.set (KH.out.tx.wide (Nat.zero_le _) (by have := KH.out.size; omega)) OKT.out)
              rw [HG.out] at F5
              clear b0 b1 b2 b3 d0 d1 hbg hbh hwh CG3 u0 u1
              obtain ⟨b0, b1, b2, b3⟩ := KH.out.box
              go_upto_region 25 with (fail)
              rw [show World.alloc wg _ = wh from HWH.out.symm]
              go_wp2_with fail
              refine F5.out.mono ?_
              rintro e wi ⟨v5, rfl, he5, hbi⟩
              have KI := Lib.hid (KH.out.below HL.out hbi)
              have u3 := (hbi.cell (p := ⟨we.heap.size, 0, none⟩) (by show we.heap.size < _; omega)).trans u2
              have v1 := (hbi.cell (p := ⟨wg.heap.size, 0, none⟩) (by show wg.heap.size < _; omega)).trans v0
              have zi := hbi.size
              have E5 := Lib.hid he5
              clear b0 b1 b2 b3 hbi F5 u2 v0 he5
              obtain ⟨⟨cb1, cb2⟩, db1, db2⟩ := CB.out
              have hw1 : IntKind.i64.wrap (A.fee + cV) = A.fee + cV := by rw [IntWalk.i64_in _ (by omega)]
              have hw2 : IntKind.i64.wrap (A.fee + cV - dV) = A.fee + cV - dV := by rw [IntWalk.i64_in _ (by omega)]
              rcases FR.out with h3 | ⟨h0, hfee⟩
              · obtain ⟨T, xv, rfl, hT⟩ := E5.out.fault (by rw [h3]; decide)
                have hne : ∀ W, (binOp .eql 38 (.iface T xv) .nilIface).run Tryd.prog W = .ok (.bool false) W := fun W => by
                  rcases hT with rfl | rfl
                  · exact eql_num xv W
                  · exact eql_fault xv W
                have s3 : ((3 : Int) == 3) = true := rfl
                have H3 := Lib.hid h3
                clear hT h3
                go_wp2_with fail
                refine (CW.out wi KI.out.bel).mono ?_
                rintro e wj ⟨rfl, hbj⟩
                have KJ := Lib.hid (KI.out.below HL.out hbj)
                have I3 := Lib.hid (is_err (E5.out.below hbj) (f := 3) (by decide))
                rw [H3.out, s3] at I3
                have u4 := (hbj.cell (p := ⟨we.heap.size, 0, none⟩) (by show we.heap.size < _; omega)).trans u3
                have v2 := (hbj.cell (p := ⟨wg.heap.size, 0, none⟩) (by show wg.heap.size < _; omega)).trans v1
                clear hbj u3 v1
                go_wp2_with fail
                refine I3.out.mono ?_
                rintro e wk ⟨rfl, rfl⟩
                go_wp2_with fail
                go_ret
                exact ⟨rfl, KJ.out.bel⟩
              · obtain rfl : v5 = .nilIface := by have h := E5.out; rw [h0] at h; exact h.none
                rw [hfee]
                clear E5
                go_wp2_with fail
                refine (CW.out wi KI.out.bel).mono ?_
                rintro e wj ⟨rfl, hbj⟩
                have KJ := Lib.hid (KI.out.below HL.out hbj)
                have u4 := (hbj.cell (p := ⟨we.heap.size, 0, none⟩) (by show we.heap.size < _; omega)).trans u3
                have v2 := (hbj.cell (p := ⟨wg.heap.size, 0, none⟩) (by show wg.heap.size < _; omega)).trans v1
                clear hbj u3 v1
                go_wp2_with fail
                go_ret
                exact ⟨rfl, KJ.out.bel⟩
  · obtain ⟨T, xv, rfl, hT⟩ := E5.out.fault hc
    have hne := neq_err hT
    clear hc E5 hT
    go_wp2_with fail
    refine (CW.out w5 B5.out).mono ?_
    rintro e w8 ⟨rfl, hb8⟩
    go_wp2_with fail
    go_ret
    exact ⟨rfl, below_next B5.out B5.out.size hb8⟩

end Go.Proofs.YtjclklppnkoehaaDoor

namespace Go.Proofs.YtjclklppnkoehaaDoor.checkMore
open Go.ChangeShapes Go.WideShapes Go.ChangeAt Go.RowKit Go.Joins
set_option linter.unusedVariables false
set_option maxRecDepth 100000

theorem own : ownKnob Tryd.prog.godebug = none := by kernel_rfl

/-! The row's step. -/
theorem lifted (os : Os) (started : os.Started) (H : Type) (enc : TypeId × Value → H) :
    ReturnsInHanded {} Tryd.checked os 5 .any (fun w args => (Rows.checkMoreSpec.pre enc Tryd.prog Tryd.f5 [] false w args ∧ laidMetH Tryd.prog laid1 w) ∧ sizedMet enc Tryd.prog Tryd.f5 (OpenSpec.ofChange Rows.checkMoreSpec) false w args)
      (Rows.checkMoreSpec.post enc Tryd.prog Tryd.f5 false true false false) := by
  refine returnsInHanded_of_change_and (C := Tryd.checked) (X := fun w _ => laidMetH Tryd.prog laid1 w) (fun _ _ _ hh h => h.of_heap hh) own started (by kernel_rfl) Tryd.func5
    (ChangeSpec.witness_shaped (enc := enc) (C := Tryd.checked) (os := os) (X := fun w _ => laidMetH Tryd.prog laid1 w) false (laidWorld os) #[.agg #[.slice none 0 0, .slice none 0 0, .slice none 0 0, .int .u32 0, .int .u32 0, .int .i64 0], .slice none 0 0, .int .u16 0] 8 rfl (World.shaped_of_RefB (by kernel_rfl) (by kernel_rfl)) (by kernel_rfl) (by kernel_rfl) (by kernel_rfl) (laidWorld_met os _)) ?_
  intro W base args ds gs before hval0 hW hcnd hsz0 hL _
  have hval : ∀ (j : Nat) t v, Tryd.f5.params[j]? = some t → args[j]? = some v → Value.okWide Tryd.prog W .any base t v := hval0
  have hW' := hW
  obtain ⟨p, q, hA0, hV, rfl, hfz, hnd⟩ := hW
  have hA : DataW.TrodAll enc Tryd.prog W 0 (fun _ => true) true Tryd.f5.params.toList args.toList ds p := hA0
  rw [Tryd.params5] at hA hval
  obtain ⟨v0, vs0, d0, ds0, p0, q0, hargs, rfl, rfl, h0, r0⟩ := trodAll_cons hA
  obtain ⟨v1, vs1, d1, ds1, p1, q1, rfl, rfl, rfl, h1, r1⟩ := trodAll_cons r0
  obtain ⟨v2, vs2, d2, ds2, p2, q2, rfl, rfl, rfl, h2, r2⟩ := trodAll_cons r1
  obtain ⟨rfl, rfl, rfl⟩ := trodAll_nil r2
  obtain rfl : args = #[v0, v1, v2] := by cases args; simp_all
  obtain ⟨rfl, rfl⟩ := trodVars_none hV
  have lt0 : ∀ x ∈ p0, x.block < W.heap.size := by obtain ⟨m, hm⟩ := h0; exact DataW.trod_lt m _ _ _ hm
  have lt1 : ∀ x ∈ p1, x.block < W.heap.size := by obtain ⟨m, hm⟩ := h1; exact DataW.trod_lt m _ _ _ hm
  have lt2 : ∀ x ∈ p2, x.block < W.heap.size := by obtain ⟨m, hm⟩ := h2; exact DataW.trod_lt m _ _ _ hm
  obtain ⟨z, vc, vs, vo, rfl, hz, hzok⟩ := rd_job (hval 0 27 v0 rfl rfl) h0
  obtain ⟨la, ln, lc, rfl⟩ := okWide_slice Tryd.underlying22 (hval 1 22 v1 rfl rfl)
  obtain ⟨ms, hms, hml, hmo⟩ : ∃ ys, Cns W 0 W.heap.size (.slice la ln lc) ys ∧ ys.length ≤ maxLen ∧ ∀ y ∈ ys, y.Ok := by
    obtain ⟨fuel, hf⟩ := h1
    exact rd_cns (fuel := fuel) (show DataW.trod enc Tryd.prog W 0 (fun _ => true) true fuel 22 [.slice la ln lc] = some _ from hf)
  obtain ⟨x2, hx2, hb2⟩ : ∃ x, v2 = .int .u16 x ∧ 0 ≤ x ∧ x ≤ 65535 := by
    obtain ⟨a1, rfl, _, _, w1⟩ := open_int Tryd.underlying60 (hval 2 60 v2 rfl rfl) h2
    have := Go.bounds_u16 w1
    exact ⟨a1, rfl, by omega, by omega⟩
  subst hx2
  clear hA0 hval0
  refine (more_law z vc vs vo ms (.slice la ln lc) x2 W hz hzok (errdoor_of hL) hms hml hmo hb2).mono fun e W' ⟨he, bel⟩ => ?_
  subst he
  exact ⟨_, rfl, _, _, _, [], _, [], hW', trodAll_mk1 (shut_bool Tryd.underlying4 _), (trodAll_cons_mk (Below.trod laidOut (by kernel_rfl) (of_decide_eq_true (by kernel_rfl)) h0 bel lt0) (trodAll_cons_mk (Below.trod laidOut (by kernel_rfl) (of_decide_eq_true (by kernel_rfl)) h1 bel lt1) (trodAll_cons_mk (Below.trod laidOut (by kernel_rfl) (of_decide_eq_true (by kernel_rfl)) h2 bel lt2) trodAll_mk0))), rfl, bel.frame _, fun h => by cases h⟩

theorem over : Rows.checkMoreRow.holds Tryd.pinned (OpenSpec.ofChange Rows.checkMoreSpec) :=
  OpenClaim.holds_of_wide 5 Tryd.f5 rfl rfl rfl rfl rfl rfl rfl ⟨rfl, rfl, rfl, rfl, rfl⟩ rfl rfl rfl rfl rfl (by kernel_rfl) Tryd.func5 (by kernel_rfl)
    (of_decide_eq_true (by kernel_rfl)) (by unfold Func.isWrapper; first | (rw [if_pos (by decide +kernel)]; kernel_rfl) | (rw [if_neg (by decide +kernel)]; exact ⟨rfl, rfl⟩))
    (fun os started H enc _ => lifted os started H enc)

/-- The row's statement. -/
theorem row : Rows.CheckMoreSaid :=
  over

/-- The statement: the card, tied to the program's text. -/
theorem proved : Rows.CheckMoreCardSaid :=
  Claim7.holds_tied_plain_at .later [] [.handle] true (true, "4a5d8b63bfae0bb7f4fe984d8877983e6d4d46f51a3e0299b9c07acefb29bdd0") true
    row (fun _ h => by cases h) (by kernel_rfl) (fun _ h => by cases h) checkMore_row_tie rfl ⟨rfl, rfl⟩ (by kernel_rfl) rfl
    (fun f fn hf hfn => by
      obtain rfl : f = 5 := Option.some.inj ((show Tryd.prog.funcNamed "kedge/kedgelaw11.CheckMore" = some 5 by kernel_rfl).symm.trans hf) |>.symm
      obtain rfl : fn = Tryd.f5 := (Option.some.inj (Tryd.func5.symm.trans hfn)).symm
      exact ⟨by kernel_rfl, fun j t ht => by
        rw [Tryd.params5] at ht
        have hm : t ∈ [27, 22, 60] := by simpa using Array.mem_of_getElem? ht
        have hall : ([27, 22, 60].all fun u => !Tryd.prog.wantsStandIn u) = true := by kernel_rfl
        exact (show Tryd.prog.wantsStandIn t = false by simpa using List.all_eq_true.1 hall t hm)⟩)
    (by kernel_rfl)
end Go.Proofs.YtjclklppnkoehaaDoor.checkMore
