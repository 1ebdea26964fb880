/-
  The document's Find, Total and Take over a list of coins.
-/
import Derived.Test.YtdchbeomlfancaaAll
import Derived.BigQuiet
namespace Go.Proofs.Ytdchbeomlfancaa
open Go.RowKit

/-- A world in which all that lay in w lies as it did. -/
structure After (w : World) where
  val : World
  ok : Below w.heap.size w val
/-- A region that draws its order, reads what lay there, and whose callees leave that as it was: one walk of the text's order serves every order. -/
theorem wp_region_after {P : Program} {id : Nat} {Q : Exit → Act → World → Prop} {a : Act} {w : World} {l : List Oper} (hm : P.follows .mixedOrders = true) (hB : Region.lexB .any l.toArray = true)
    (h : wpQuiet P l.toArray (fun w' => ∃ x : After w, w' = x.val) (fun a' => ∀ w', (∃ x : After w, w' = x.val) → Q .normal a' w') l a) : (Code.region id l.toArray true).wp P Q a w :=
  wp_region_quiet (C := fun w' => ∃ x : After w, w' = x.val) hm hB ⟨⟨w.drew, (Below.refl _ w).drew⟩, rfl⟩ (by simpa using h)
theorem After.call {P : Program} {f : FuncId} {args : Array Value} {w : World} {v : Value} (x : After w) (h : Calls P f args x.val fun e w' => e = .returned v ∧ Below x.val.heap.size x.val w') : Calls P f args x.val fun e w'' => e = .returned v ∧ ∃ y : After w, w'' = y.val :=
  h.mono fun _ w' ⟨he, hb⟩ => ⟨he, ⟨w', below_next x.ok x.ok.size hb⟩, rfl⟩

/-- The first place at which p holds, or -1. -/
def idxOf {α : Type} (p : α → Bool) (xs : List α) : Int := match xs.findIdx? p with | some k => (k : Int) | none => -1
theorem idxOf_hit {α : Type} {p : α → Bool} {xs : List α} {k : Nat} {x : α} (hx : xs[k]? = some x) (hp : p x = true) (hb : ∀ (j : Nat) (y : α), j < k → xs[j]? = some y → p y = false) : idxOf p xs = k := by
  have h : xs.findIdx? p = some k := by
    rw [List.findIdx?_eq_some_iff_getElem]
    obtain ⟨hk, rfl⟩ := List.getElem?_eq_some_iff.1 hx
    exact ⟨hk, hp, fun j hj => by have := hb j xs[j] hj (List.getElem?_eq_getElem (by omega)); simp [this]⟩
  simp [idxOf, h]
theorem idxOf_miss {α : Type} {p : α → Bool} {xs : List α} (hb : ∀ (j : Nat) (y : α), xs[j]? = some y → p y = false) : idxOf p xs = -1 := by
  have h : xs.findIdx? p = none := by
    rw [List.findIdx?_eq_none_iff]
    intro y hy
    obtain ⟨j, hj⟩ := List.getElem?_of_mem hy
    exact hb j y hj
  simp [idxOf, h]
/-- Where a point is. -/
theorem idx_none {l : List EnD} {p : ByteArray} {i : Int} (h : hasB l p i = false) : idxOf (isB p i) l = -1 :=
  idxOf_miss fun j y hy => by
    have := List.any_eq_false.1 h y (List.mem_of_getElem? hy)
    simpa using this
theorem idx_some {l : List EnD} (hg : Srt l) {p : ByteArray} {i : Int} (h : hasB l p i = true) : ∃ k : Nat, idxOf (isB p i) l = k ∧ l[k]? = some (atE l p i) ∧ delL l p i = l.eraseIdx k := by
  obtain ⟨k, hk⟩ : ∃ k, l.findIdx? (isB p i) = some k := by
    cases hf : l.findIdx? (isB p i) with
    | some k => exact ⟨k, rfl⟩
    | none =>
      obtain ⟨x, hx, h1⟩ := List.any_eq_true.1 h
      rw [List.findIdx?_eq_none_iff] at hf
      rw [hf x hx] at h1
      cases h1
  obtain ⟨hlt, hp, hb⟩ := List.findIdx?_eq_some_iff_getElem.1 hk
  have hap := hg.apart
  obtain ⟨e1, e2⟩ := isB_iff.1 hp
  have hat : atE l p i = l[k] := by
    have := atE_some hap (List.getElem_mem hlt)
    rw [e1, e2] at this
    exact this
  refine ⟨k, by simp [idxOf, hk], by rw [hat]; exact List.getElem?_eq_getElem hlt, ?_⟩
  have hsame : ∀ j (hj : j < l.length), j ≠ k → isB p i l[j] = false := fun j hj hne => by
    rw [← e1, ← e2, isB_same]
    rcases Nat.lt_or_gt_of_ne hne with h1 | h1
    · exact List.pairwise_iff_getElem.1 hap j k hj hlt h1
    · rw [same_comm]
      exact List.pairwise_iff_getElem.1 hap k j hlt hj h1
  unfold delL
  rw [List.eraseIdx_eq_take_drop_succ]
  conv => lhs; rw [← List.take_append_drop k l, List.filter_append]
  congr 1
  · rw [List.filter_eq_self]
    intro x hx
    obtain ⟨j, hj, rfl⟩ := List.mem_take_iff_getElem.1 hx
    rw [hsame j (by omega) (by omega)]
    rfl
  · rw [List.drop_eq_getElem_cons hlt, List.filter_cons_of_neg (by rw [hp]; simp), List.filter_eq_self]
    intro x hx
    obtain ⟨j, hj, rfl⟩ := List.mem_drop_iff_getElem.1 hx
    rw [hsame _ (by omega) (by omega)]
    rfl

set_option maxHeartbeats 1000000 in
theorem rfind_any (A : Option Addr) (n c : Nat) (xs : List EnD) (p : ByteArray) (i : Int) (w : World) (lo hi : Nat) (hx : Ents w lo hi (.slice A n c) xs) (hhi : hi ≤ w.heap.size) (hl : xs.length ≤ 1000) :
    Calls Try.prog 12 #[.slice A n c, .agg #[.string p, .int .u32 i]] w fun e w' => e = .returned (.int .i64 (idxOf (isB p i) xs)) ∧ Below w.heap.size w w' := by
  obtain rfl : n = xs.length := by obtain ⟨_, _, hv, _⟩ := hx; injection hv
  have HX := Lib.hid hx
  obtain ⟨W, hW⟩ : ∃ W, W = w.alloc (.cells #[.string p, .int .u32 i] 28) := ⟨_, rfl⟩
  have hz : W.heap.size = w.heap.size + 1 := by rw [hW]; simp
  have HBW := Lib.hid (show Below w.heap.size w W from by rw [hW]; exact (Below.refl _ _).alloc (Nat.le_refl _) _)
  have hn : W.heap[w.heap.size]? = some (.cells #[.string p, .int .u32 i] 28) := by rw [hW]; exact heap_alloc_new _ _
  have p0 : W.cell? ⟨w.heap.size, 0, none⟩ = some (.string p) := cell_in (o := 0) hn rfl
  have p1 : W.cell? ⟨w.heap.size, 1, none⟩ = some (.int .u32 i) := cell_in (o := 1) hn rfl
  have HP := Lib.hid (And.intro p0 p1)
  have HW := Lib.hid hW
  clear hx hn hW p0 p1
  go_enter Try.func12, Try.ntmps12
  go_upto_region 1 with (fail)
  rw [show World.alloc w _ = W from HW.out.symm]
  go_wp2_with fail
  go_loopg [5, 6] xs.length (fun gg s5 _ wr => ∃ kk : Nat, kk ≤ xs.length ∧ xs.length - kk ≤ gg ∧ s5 = .int .i64 kk ∧ W.heap.size ≤ wr.heap.size ∧ Hid (Below W.heap.size W wr) ∧ Hid (∀ (j : Nat) (y : EnD), j < kk → xs[j]? = some y → isB p i y = false))
  case atStart => exact ⟨0, Nat.zero_le _, by omega, rfl, Nat.le_refl _, Below.refl _ W, fun j _ hj => absurd hj (Nat.not_lt_zero _)⟩
  case round =>
    obtain ⟨kk, hkk, hg, rfl, hzr, BW, A0⟩ := hrel
    by_cases hlt : kk < xs.length
    · have hltz : (kk : Int) < (xs.length : Int) := by omega
      have hd : decide (kk < xs.length) = true := decide_eq_true hlt
      obtain ⟨x, hxk⟩ : ∃ x, xs[kk]? = some x := ⟨_, List.getElem?_eq_getElem hlt⟩
      have BB := Lib.hid (HBW.out.trans (BW.out.mono (by omega)))
      obtain ⟨b, off, rfl, h1, h2, c0, c1, _, _, _⟩ := (HX.out.keep (Kept.of_below BB.out hhi)).at hxk
      have hbw : b < wr.heap.size := by omega
      have hpw : w.heap.size < wr.heap.size := by omega
      have hpl : w.heap.size < W.heap.size := by omega
      have q0 : ∀ y : After wr, y.val.cell? ⟨w.heap.size, 0, none⟩ = some (.string p) := fun y => (y.ok.cell (p := ⟨w.heap.size, 0, none⟩) hpw).trans ((BW.out.cell (p := ⟨w.heap.size, 0, none⟩) hpl).trans HP.out.1)
      have q1 : ∀ y : After wr, y.val.cell? ⟨w.heap.size, 1, none⟩ = some (.int .u32 i) := fun y => (y.ok.cell (p := ⟨w.heap.size, 1, none⟩) hpw).trans ((BW.out.cell (p := ⟨w.heap.size, 1, none⟩) hpl).trans HP.out.2)
      have q2 : ∀ y : After wr, y.val.cell? ⟨b, off + kk * 5, none⟩ = some (.string x.id) := fun y => (y.ok.cell (p := ⟨b, off + kk * 5, none⟩) hbw).trans c0
      have q3 : ∀ y : After wr, y.val.cell? ⟨b, off + kk * 5 + 1, none⟩ = some (.int .u32 x.ix) := fun y => (y.ok.cell (p := ⟨b, off + kk * 5 + 1, none⟩) hbw).trans c1
      have hne : Nonempty (After wr) := ⟨⟨wr, Below.refl _ _⟩⟩
      have CS := Lib.hid (fun y : After wr => rsame_any x.id x.ix p i y.val)
      have HXK := Lib.hid hxk
      obtain ⟨r, hr⟩ : ∃ r, r = ptB x.id x.ix p i := ⟨_, rfl⟩
      have HR := Lib.hid hr
      rw [← hr] at CS
      clear hxk hr c0 c1
      go_wp2_with fail
      refine wp_region_after (by kernel_rfl) (by kernel_rfl) ?_
      repeat (go_big_quiet_step ((go_at_call 24; exact After.call _ (CS.out _))))
      refine wpQuiet_nil ?_
      rintro _ ⟨y, rfl⟩
      have HY := Lib.hid y.ok
      generalize y.val = wy at HY
      cases r with
      | true =>
        go_wp2_with fail
        go_ret
        exact ⟨ret_int (by rw [idxOf_hit HXK.out HR.out.symm A0.out]), BB.out.trans (HY.out.mono (by have := BB.out.size; omega))⟩
      | false =>
        go_wp2_with fail
        go_roundg (xs.length - (kk + 1))
        case measure => omega
        case rel =>
          have hs := HY.out.size
          refine ⟨kk + 1, by omega, by omega, by go_num, by omega, BW.out.trans (HY.out.mono (by omega)), (show Hid _ from fun j z hj hz' => ?_)⟩
          by_cases e : j = kk
          · subst e
            rw [HXK.out] at hz'
            injection hz' with hz'
            subst hz'
            exact HR.out.symm
          · exact A0.out j z (by omega) hz'
    · have hltz : ¬ (kk : Int) < (xs.length : Int) := by omega
      have hd : decide (kk < xs.length) = false := decide_eq_false hlt
      go_wp2_with fail
      go_ret
      exact ⟨ret_int (by rw [idxOf_miss fun j y hy => A0.out j y (by have := (List.getElem?_eq_some_iff.1 hy).1; omega) hy]), HBW.out.trans (BW.out.mono (by omega))⟩

set_option maxHeartbeats 1000000 in
theorem rtotal_any (A : Option Addr) (n c : Nat) (xs : List EnD) (w : World) (lo hi : Nat) (hx : Ents w lo hi (.slice A n c) xs) (hp : ∀ x ∈ xs, 0 ≤ x.val) (hm : tot xs ≤ 2100000000000000) (hl : xs.length ≤ 1000) :
    Calls Try.prog 28 #[.slice A n c] w fun e w' => e = .returned (.int .i64 (tot xs)) ∧ w' = w := by
  obtain rfl : n = xs.length := by obtain ⟨_, _, hv, _⟩ := hx; injection hv
  have HX := Lib.hid hx
  have HT := Lib.hid (fun k => tot_take hp k)
  clear hx hp
  go_enter Try.func28, Try.ntmps28
  go_wp2_with fail
  go_loopg [3, 4] xs.length (fun gg s3 s4 wr => ∃ kk : Nat, kk ≤ xs.length ∧ xs.length - kk ≤ gg ∧ s4 = .int .i64 kk ∧ s3 = .int .i64 (tot (xs.take kk)) ∧ wr = w)
  case atStart => exact ⟨0, Nat.zero_le _, by omega, rfl, by simp [tot], rfl⟩
  case round =>
    obtain ⟨kk, hkk, hg, rfl, rfl, rfl⟩ := hrel
    by_cases hlt : kk < xs.length
    · have hltz : (kk : Int) < (xs.length : Int) := by omega
      have hd : decide (kk < xs.length) = true := decide_eq_true hlt
      obtain ⟨x, hxk⟩ : ∃ x, xs[kk]? = some x := ⟨_, List.getElem?_eq_getElem hlt⟩
      obtain ⟨b, off, rfl, h1, h2, _, _, c2, _, _⟩ := HX.out.at hxk
      have e1 : tot (xs.take (kk + 1)) = tot (xs.take kk) + x.val := by
        rw [List.take_add_one, hxk, tot_append]
        simp [tot]
      have hwr : IntKind.i64.wrap (tot (xs.take kk) + x.val) = tot (xs.take (kk + 1)) := by
        rw [← e1]
        have := HT.out (kk + 1)
        exact IntWalk.i64_in _ (by omega)
      clear hxk e1
      generalize tot (xs.take kk) = t0 at hwr ⊢
      obtain ⟨t1, ht1⟩ : ∃ t1, t1 = tot (xs.take (kk + 1)) := ⟨_, rfl⟩
      rw [← ht1] at hwr
      have HT1 := Lib.hid ht1
      clear ht1
      go_wp2_with fail
      go_roundg (xs.length - (kk + 1))
      case measure => omega
      case rel => exact ⟨kk + 1, by omega, by omega, by go_num, by rw [HT1.out], rfl⟩
    · have hltz : ¬ (kk : Int) < (xs.length : Int) := by omega
      have hd : decide (kk < xs.length) = false := decide_eq_false hlt
      obtain rfl : kk = xs.length := by omega
      go_wp2_with fail
      go_ret
      exact ⟨rfl, rfl⟩

end Go.Proofs.Ytdchbeomlfancaa
