/-
  The program's All: the coins in the order of their points.
  The document's Find, Total and Take over a list of coins.
  The document's Take: a coin out of a list.
  The document's Put: a coin into a list.
-/
import Derived.Test.YtjclklppnkoehaaGreatDoorPut
import Derived.Laws.MakeOwn
import Derived.Deep.LoopGhost
import Derived.BigQuiet
import Derived.Test.YtjclklppnkoehaaGreatDoorTake
import Derived.Deep.CutBlock

namespace Go.Proofs.YtjclklppnkoehaaGreatDoor.Co
open Go.RowKit
set_option maxRecDepth 100000

theorem info45 : (Tryz.prog.info? 84).map (fun i => (i.zero, i.size, i.bytes)) = some (some (.agg #[.string ⟨#[]⟩, .int .u32 0, .int .i64 0, .string ⟨#[]⟩, .int .i64 0]), 5, 56) := by kernel_rfl
theorem info_parts' {t : TypeId} {z : Value} {size bytes : Nat} (h : (Tryz.prog.info? t).map (fun i => (i.zero, i.size, i.bytes)) = some (some z, size, bytes)) : ∃ i, Tryz.prog.info? t = some i ∧ i.zero = some z ∧ i.size = size ∧ i.bytes = bytes := by
  obtain ⟨i, hi, h⟩ := Option.map_eq_some_iff.1 h
  injection h with h1 h2
  injection h2 with h2 h3
  exact ⟨i, hi, h1, h2, h3⟩
theorem own_form {w : World} {base : Nat} {e : TypeId} {size n : Nat} {v : Value} {xs : List Value} (h : w.ownsRow base e size v n xs) : ∃ A c, v = .slice A n c := by
  rcases h.2 with ⟨rfl, rfl⟩ | ⟨g, cap, cur, rfl, _⟩
  · exact ⟨_, _, rfl⟩
  · exact ⟨_, _, rfl⟩
/-- Five cells laid for an append. -/
theorem five_new (w : World) (xs : List Value) (t : TypeId) (n : Nat) (hn : n = w.heap.size) : ∀ j u, xs[j]? = some u → (w.alloc (.cells xs.toArray t)).cell? ((⟨n, 0, none⟩ : Addr).add j) = some u := by
  subst hn
  intro j u h
  simp only [Addr.add_lit, Nat.zero_add]
  rw [cell_of_block (heap_alloc_new w _)]
  simpa using h

theorem own_five {w : World} {base n : Nat} {e : TypeId} {v : Value} {xs : List EnD} (h : w.ownsRow base e 5 v n (cellsE xs)) : n = xs.length := by
  have := h.1
  rw [cellsE_len] at this
  omega

theorem own_keep {w w' : World} {base g cap n size : Nat} {e : TypeId} {xs : List Value} (h : w.ownsRow base e size (.slice (some ⟨g, 0, none⟩) n cap) n xs) (hk : w'.heap[g]? = w.heap[g]?) : w'.ownsRow base e size (.slice (some ⟨g, 0, none⟩) n cap) n xs := by
  obtain ⟨h1, h2⟩ := h
  refine ⟨h1, ?_⟩
  rcases h2 with ⟨h2, _⟩ | ⟨g', cap', cur, hv, hb, hh, r⟩
  · cases h2
  · have hv' := hv
    injection hv' with e1
    injection e1 with e1
    injection e1 with e1
    subst e1
    exact .inr ⟨_, cap', cur, hv, hb, hk.trans hh, r⟩
theorem own_lt {w : World} {base g cap n size : Nat} {e : TypeId} {xs : List Value} (h : w.ownsRow base e size (.slice (some ⟨g, 0, none⟩) n cap) n xs) : base ≤ g ∧ g < w.heap.size := by
  rcases h.2 with ⟨h2, _⟩ | ⟨g', cap', cur, hv, hb, hh, r⟩
  · cases h2
  · injection hv with e1
    injection e1 with e1
    injection e1 with e1
    subst e1
    exact ⟨hb, lt_of_heap hh⟩

end Go.Proofs.YtjclklppnkoehaaGreatDoor.Co

namespace Go.Proofs.YtjclklppnkoehaaGreatDoor.Co
open Go.RowKit
set_option maxRecDepth 100000

/-- A world in which all that lay in w lies as it did. -/
structure After (w : World) where
  val : World
  ok : Below w.heap.size w val
/-- A region that draws its order, reads what lay there, and whose callees leave that as it was: one walk of the text's order serves every order. -/
theorem wp_region_after {P : Program} {id : Nat} {Q : Exit → Act → World → Prop} {a : Act} {w : World} {l : List Oper} (hm : P.follows .mixedOrders = true) (hB : Region.lexB .any l.toArray = true)
    (h : wpQuiet P l.toArray (fun w' => ∃ x : After w, w' = x.val) (fun a' => ∀ w', (∃ x : After w, w' = x.val) → Q .normal a' w') l a) : (Code.region id l.toArray true).wp P Q a w :=
  wp_region_quiet (C := fun w' => ∃ x : After w, w' = x.val) hm hB ⟨⟨w.drew, (Below.refl _ w).drew⟩, rfl⟩ (by simpa using h)
theorem After.call {P : Program} {f : FuncId} {args : Array Value} {w : World} {v : Value} (x : After w) (h : Calls P f args x.val fun e w' => e = .returned v ∧ Below x.val.heap.size x.val w') : Calls P f args x.val fun e w'' => e = .returned v ∧ ∃ y : After w, w'' = y.val :=
  h.mono fun _ w' ⟨he, hb⟩ => ⟨he, ⟨w', below_next x.ok x.ok.size hb⟩, rfl⟩

/-- The first place at which p holds, or -1. -/
def idxOf {α : Type} (p : α → Bool) (xs : List α) : Int := match xs.findIdx? p with | some k => (k : Int) | none => -1
theorem idxOf_hit {α : Type} {p : α → Bool} {xs : List α} {k : Nat} {x : α} (hx : xs[k]? = some x) (hp : p x = true) (hb : ∀ (j : Nat) (y : α), j < k → xs[j]? = some y → p y = false) : idxOf p xs = k := by
  have h : xs.findIdx? p = some k := by
    rw [List.findIdx?_eq_some_iff_getElem]
    obtain ⟨hk, rfl⟩ := List.getElem?_eq_some_iff.1 hx
    exact ⟨hk, hp, fun j hj => by have := hb j xs[j] hj (List.getElem?_eq_getElem (by omega)); simp [this]⟩
  simp [idxOf, h]
theorem idxOf_miss {α : Type} {p : α → Bool} {xs : List α} (hb : ∀ (j : Nat) (y : α), xs[j]? = some y → p y = false) : idxOf p xs = -1 := by
  have h : xs.findIdx? p = none := by
    rw [List.findIdx?_eq_none_iff]
    intro y hy
    obtain ⟨j, hj⟩ := List.getElem?_of_mem hy
    exact hb j y hj
  simp [idxOf, h]
/-- Where a point is. -/
theorem idx_none {l : List EnD} {p : ByteArray} {i : Int} (h : hasB l p i = false) : idxOf (isB p i) l = -1 :=
  idxOf_miss fun j y hy => by
    have := List.any_eq_false.1 h y (List.mem_of_getElem? hy)
    simpa using this
theorem idx_some {l : List EnD} (hg : Srt l) {p : ByteArray} {i : Int} (h : hasB l p i = true) : ∃ k : Nat, idxOf (isB p i) l = k ∧ l[k]? = some (atE l p i) ∧ delL l p i = l.eraseIdx k := by
  obtain ⟨k, hk⟩ : ∃ k, l.findIdx? (isB p i) = some k := by
    cases hf : l.findIdx? (isB p i) with
    | some k => exact ⟨k, rfl⟩
    | none =>
      obtain ⟨x, hx, h1⟩ := List.any_eq_true.1 h
      rw [List.findIdx?_eq_none_iff] at hf
      rw [hf x hx] at h1
      cases h1
  obtain ⟨hlt, hp, hb⟩ := List.findIdx?_eq_some_iff_getElem.1 hk
  have hap := hg.apart
  obtain ⟨e1, e2⟩ := isB_iff.1 hp
  have hat : atE l p i = l[k] := by
    have := atE_some hap (List.getElem_mem hlt)
    rw [e1, e2] at this
    exact this
  refine ⟨k, by simp [idxOf, hk], by rw [hat]; exact List.getElem?_eq_getElem hlt, ?_⟩
  have hsame : ∀ j (hj : j < l.length), j ≠ k → isB p i l[j] = false := fun j hj hne => by
    rw [← e1, ← e2, isB_same]
    rcases Nat.lt_or_gt_of_ne hne with h1 | h1
    · exact List.pairwise_iff_getElem.1 hap j k hj hlt h1
    · rw [same_comm]
      exact List.pairwise_iff_getElem.1 hap k j hlt hj h1
  unfold delL
  rw [List.eraseIdx_eq_take_drop_succ]
  conv => lhs; rw [← List.take_append_drop k l, List.filter_append]
  congr 1
  · rw [List.filter_eq_self]
    intro x hx
    obtain ⟨j, hj, rfl⟩ := List.mem_take_iff_getElem.1 hx
    rw [hsame j (by omega) (by omega)]
    rfl
  · rw [List.drop_eq_getElem_cons hlt, List.filter_cons_of_neg (by rw [hp]; simp), List.filter_eq_self]
    intro x hx
    obtain ⟨j, hj, rfl⟩ := List.mem_drop_iff_getElem.1 hx
    rw [hsame _ (by omega) (by omega)]
    rfl

set_option maxHeartbeats 1000000 in
theorem rfind_any (A : Option Addr) (n c : Nat) (xs : List EnD) (p : ByteArray) (i : Int) (w : World) (lo hi : Nat) (hx : Ents w lo hi (.slice A n c) xs) (hhi : hi ≤ w.heap.size) (hl : xs.length ≤ 1000) :
    Calls Tryz.prog 26 #[.slice A n c, .agg #[.string p, .int .u32 i]] w fun e w' => e = .returned (.int .i64 (idxOf (isB p i) xs)) ∧ Below w.heap.size w w' := by
  obtain rfl : n = xs.length := by obtain ⟨_, _, hv, _⟩ := hx; injection hv
  have HX := Lib.hid hx
  obtain ⟨W, hW⟩ : ∃ W, W = w.alloc (.cells #[.string p, .int .u32 i] 55) := ⟨_, rfl⟩
  have hz : W.heap.size = w.heap.size + 1 := by rw [hW]; simp
  have HBW := Lib.hid (show Below w.heap.size w W from by rw [hW]; exact (Below.refl _ _).alloc (Nat.le_refl _) _)
  have hn : W.heap[w.heap.size]? = some (.cells #[.string p, .int .u32 i] 55) := by rw [hW]; exact heap_alloc_new _ _
  have p0 : W.cell? ⟨w.heap.size, 0, none⟩ = some (.string p) := cell_in (o := 0) hn rfl
  have p1 : W.cell? ⟨w.heap.size, 1, none⟩ = some (.int .u32 i) := cell_in (o := 1) hn rfl
  have HP := Lib.hid (And.intro p0 p1)
  have HW := Lib.hid hW
  clear hx hn hW p0 p1
  go_enter Tryz.func26, Tryz.ntmps26
  go_upto_region 1 with (fail)
  rw [show World.alloc w _ = W from HW.out.symm]
  go_wp2_with fail
  go_loopg [5, 6] xs.length (fun gg s5 _ wr => ∃ kk : Nat, kk ≤ xs.length ∧ xs.length - kk ≤ gg ∧ s5 = .int .i64 kk ∧ W.heap.size ≤ wr.heap.size ∧ Hid (Below W.heap.size W wr) ∧ Hid (∀ (j : Nat) (y : EnD), j < kk → xs[j]? = some y → isB p i y = false))
  case atStart => exact ⟨0, Nat.zero_le _, by omega, rfl, Nat.le_refl _, Below.refl _ W, fun j _ hj => absurd hj (Nat.not_lt_zero _)⟩
  case round =>
    obtain ⟨kk, hkk, hg, rfl, hzr, BW, A0⟩ := hrel
    by_cases hlt : kk < xs.length
    · have hltz : (kk : Int) < (xs.length : Int) := by omega
      have hd : decide (kk < xs.length) = true := decide_eq_true hlt
      obtain ⟨x, hxk⟩ : ∃ x, xs[kk]? = some x := ⟨_, List.getElem?_eq_getElem hlt⟩
      have BB := Lib.hid (HBW.out.trans (BW.out.mono (by omega)))
      obtain ⟨b, off, rfl, h1, h2, c0, c1, _, _, _⟩ := (HX.out.keep (Kept.of_below BB.out hhi)).at hxk
      have hbw : b < wr.heap.size := by omega
      have hpw : w.heap.size < wr.heap.size := by omega
      have hpl : w.heap.size < W.heap.size := by omega
      have q0 : ∀ y : After wr, y.val.cell? ⟨w.heap.size, 0, none⟩ = some (.string p) := fun y => (y.ok.cell (p := ⟨w.heap.size, 0, none⟩) hpw).trans ((BW.out.cell (p := ⟨w.heap.size, 0, none⟩) hpl).trans HP.out.1)
      have q1 : ∀ y : After wr, y.val.cell? ⟨w.heap.size, 1, none⟩ = some (.int .u32 i) := fun y => (y.ok.cell (p := ⟨w.heap.size, 1, none⟩) hpw).trans ((BW.out.cell (p := ⟨w.heap.size, 1, none⟩) hpl).trans HP.out.2)
      have q2 : ∀ y : After wr, y.val.cell? ⟨b, off + kk * 5, none⟩ = some (.string x.id) := fun y => (y.ok.cell (p := ⟨b, off + kk * 5, none⟩) hbw).trans c0
      have q3 : ∀ y : After wr, y.val.cell? ⟨b, off + kk * 5 + 1, none⟩ = some (.int .u32 x.ix) := fun y => (y.ok.cell (p := ⟨b, off + kk * 5 + 1, none⟩) hbw).trans c1
      have hne : Nonempty (After wr) := ⟨⟨wr, Below.refl _ _⟩⟩
      have CS := Lib.hid (fun y : After wr => rsame_any x.id x.ix p i y.val)
      have HXK := Lib.hid hxk
      obtain ⟨r, hr⟩ : ∃ r, r = ptB x.id x.ix p i := ⟨_, rfl⟩
      have HR := Lib.hid hr
      rw [← hr] at CS
      clear hxk hr c0 c1
      go_wp2_with fail
      refine wp_region_after (by kernel_rfl) (by kernel_rfl) ?_
      repeat (go_big_quiet_step ((go_at_call 49; exact After.call _ (CS.out _))))
      refine wpQuiet_nil ?_
      rintro _ ⟨y, rfl⟩
      have HY := Lib.hid y.ok
      generalize y.val = wy at HY
      cases r with
      | true =>
        go_wp2_with fail
        go_ret
        exact ⟨ret_int (by rw [idxOf_hit HXK.out HR.out.symm A0.out]), BB.out.trans (HY.out.mono (by have := BB.out.size; omega))⟩
      | false =>
        go_wp2_with fail
        go_roundg (xs.length - (kk + 1))
        case measure => omega
        case rel =>
          have hs := HY.out.size
          refine ⟨kk + 1, by omega, by omega, by go_num, by omega, BW.out.trans (HY.out.mono (by omega)), (show Hid _ from fun j z hj hz' => ?_)⟩
          by_cases e : j = kk
          · subst e
            rw [HXK.out] at hz'
            injection hz' with hz'
            subst hz'
            exact HR.out.symm
          · exact A0.out j z (by omega) hz'
    · have hltz : ¬ (kk : Int) < (xs.length : Int) := by omega
      have hd : decide (kk < xs.length) = false := decide_eq_false hlt
      go_wp2_with fail
      go_ret
      exact ⟨ret_int (by rw [idxOf_miss fun j y hy => A0.out j y (by have := (List.getElem?_eq_some_iff.1 hy).1; omega) hy]), HBW.out.trans (BW.out.mono (by omega))⟩

set_option maxHeartbeats 1000000 in
theorem rtotal_any (A : Option Addr) (n c : Nat) (xs : List EnD) (w : World) (lo hi : Nat) (hx : Ents w lo hi (.slice A n c) xs) (hp : ∀ x ∈ xs, 0 ≤ x.val) (hm : tot xs ≤ 2100000000000000) (hl : xs.length ≤ 1000) :
    Calls Tryz.prog 38 #[.slice A n c] w fun e w' => e = .returned (.int .i64 (tot xs)) ∧ w' = w := by
  obtain rfl : n = xs.length := by obtain ⟨_, _, hv, _⟩ := hx; injection hv
  have HX := Lib.hid hx
  have HT := Lib.hid (fun k => tot_take hp k)
  clear hx hp
  go_enter Tryz.func38, Tryz.ntmps38
  go_wp2_with fail
  go_loopg [3, 4] xs.length (fun gg s3 s4 wr => ∃ kk : Nat, kk ≤ xs.length ∧ xs.length - kk ≤ gg ∧ s4 = .int .i64 kk ∧ s3 = .int .i64 (tot (xs.take kk)) ∧ wr = w)
  case atStart => exact ⟨0, Nat.zero_le _, by omega, rfl, by simp [tot], rfl⟩
  case round =>
    obtain ⟨kk, hkk, hg, rfl, rfl, rfl⟩ := hrel
    by_cases hlt : kk < xs.length
    · have hltz : (kk : Int) < (xs.length : Int) := by omega
      have hd : decide (kk < xs.length) = true := decide_eq_true hlt
      obtain ⟨x, hxk⟩ : ∃ x, xs[kk]? = some x := ⟨_, List.getElem?_eq_getElem hlt⟩
      obtain ⟨b, off, rfl, h1, h2, _, _, c2, _, _⟩ := HX.out.at hxk
      have e1 : tot (xs.take (kk + 1)) = tot (xs.take kk) + x.val := by
        rw [List.take_add_one, hxk, tot_append]
        simp [tot]
      have hwr : IntKind.i64.wrap (tot (xs.take kk) + x.val) = tot (xs.take (kk + 1)) := by
        rw [← e1]
        have := HT.out (kk + 1)
        exact IntWalk.i64_in _ (by omega)
      clear hxk e1
      generalize tot (xs.take kk) = t0 at hwr ⊢
      obtain ⟨t1, ht1⟩ : ∃ t1, t1 = tot (xs.take (kk + 1)) := ⟨_, rfl⟩
      rw [← ht1] at hwr
      have HT1 := Lib.hid ht1
      clear ht1
      go_wp2_with fail
      go_roundg (xs.length - (kk + 1))
      case measure => omega
      case rel => exact ⟨kk + 1, by omega, by omega, by go_num, by rw [HT1.out], rfl⟩
    · have hltz : ¬ (kk : Int) < (xs.length : Int) := by omega
      have hd : decide (kk < xs.length) = false := decide_eq_false hlt
      obtain rfl : kk = xs.length := by omega
      go_wp2_with fail
      go_ret
      exact ⟨rfl, rfl⟩

end Go.Proofs.YtjclklppnkoehaaGreatDoor.Co

namespace Go.Proofs.YtjclklppnkoehaaGreatDoor.Co
open Go.RowKit
set_option maxRecDepth 100000

theorem era_step {xs : List EnD} {k kk : Nat} {x : EnD} (h : xs[kk]? = some x) : (xs.take (kk + 1)).eraseIdx k = if kk = k then (xs.take kk).eraseIdx k else (xs.take kk).eraseIdx k ++ [x] := by
  have hlt := (List.getElem?_eq_some_iff.1 h).1
  have e : xs.take (kk + 1) = xs.take kk ++ [x] := by rw [List.take_add_one, h]; rfl
  rw [e]
  split
  · rename_i h1
    subst h1
    rw [List.eraseIdx_append_of_length_le (by simp; omega), List.eraseIdx_of_length_le (l := xs.take kk) (by simp; omega)]
    simp [Nat.min_eq_left (Nat.le_of_lt hlt)]
  · rename_i h1
    rcases Nat.lt_or_gt_of_ne h1 with h2 | h2
    · rw [List.eraseIdx_of_length_le (by simp; omega), List.eraseIdx_of_length_le (by simp; omega)]
    · rw [List.eraseIdx_append_of_lt_length (by simp; omega)]

/-- A list that is being built, and what lies beside. -/
structure Row (w : World) (v : Value) (ys : List EnD) (wr : World) : Prop where
  own : wr.ownsRow w.heap.size 84 5 v ys.length (cellsE ys)
  bel : Below w.heap.size w wr
theorem Row.nil (w : World) : Row w (.slice none 0 0) [] w := ⟨World.ownsRow_nil w w.heap.size 84 5, Below.refl _ _⟩
theorem Row.below {w wr w' : World} {v : Value} {ys : List EnD} (h : Row w v ys wr) (hb : Below wr.heap.size wr w') : Row w v ys w' :=
  ⟨((OwnAt.of_own h.own).keep (StayE.of_below hb (Nat.le_refl _)) hb.size).1, h.bel.trans (hb.mono h.bel.size)⟩
theorem Row.ents {w wr : World} {v : Value} {ys : List EnD} (h : Row w v ys wr) : Ents wr w.heap.size wr.heap.size v ys := (OwnAt.of_own h.own).ents
theorem Row.push {w wr w9 : World} {v : Value} {ys : List EnD} {x : EnD} {o : Obj} {g cap : Nat} (h : Row w v ys wr) (hg : (wr.alloc o).grownBy w9 v.ownBlock)
    (hown : w9.ownsRow w.heap.size 84 5 (.slice (some ⟨g, 0, none⟩) (ys.length + 1) cap) (ys.length + 1) (cellsE ys ++ encE x)) : Row w (.slice (some ⟨g, 0, none⟩) (ys.length + 1) cap) (ys ++ [x]) w9 := by
  refine ⟨by rw [cellsE_snoc, List.length_append]; exact hown, ?_⟩
  have hs := h.bel.size
  refine (h.bel.alloc h.bel.size o).trans ⟨hg.os, hg.tape, hg.output, hg.size, fun k hk => hg.block k (by simp; omega) ?_⟩
  intro he
  have := (h.own.lt k he.symm).1
  omega

theorem setCo_other (w : World) {n k : Nat} (h : k ≠ n) (v : Int) (s : ByteArray) (t : Int) : (setCo w n v s t).heap[k]? = w.heap[k]? := by
  unfold setCo
  exact (Below.heap_setCell _ ⟨n, 2, none⟩ _ k (by exact h)).trans ((Below.heap_setCell _ ⟨n, 1, none⟩ _ k (by exact h)).trans (Below.heap_setCell _ ⟨n, 0, none⟩ _ k (by exact h)))

end Go.Proofs.YtjclklppnkoehaaGreatDoor.Co

namespace Go.Proofs.YtjclklppnkoehaaGreatDoor.Co
open Go.RowKit
set_option maxRecDepth 100000

theorem insF_len' (x : EnD) (l : List EnD) : (insF x l).1.length ≤ l.length + 1 := by
  have := insF_len x l ([], false)
  simpa [insF] using this

theorem Row.push' {w wr w9 : World} {v : Value} {ys : List EnD} {x : EnD} {o : Obj} {g cap m : Nat} (hm : m = ys.length) (h : Row w v ys wr) (hg : (wr.alloc o).grownBy w9 v.ownBlock)
    (hown : w9.ownsRow w.heap.size 84 5 (.slice (some ⟨g, 0, none⟩) (m + 1) cap) (m + 1) (cellsE ys ++ encE x)) : Row w (.slice (some ⟨g, 0, none⟩) (m + 1) cap) (ys ++ [x]) w9 ∧ w9.ownsRow w.heap.size 84 5 (.slice (some ⟨g, 0, none⟩) (m + 1) cap) (m + 1) (cellsE (ys ++ [x])) := by
  subst hm
  exact ⟨h.push hg hown, by rw [cellsE_snoc]; exact hown⟩

/-- Behind the walk of a list: what the document's Put hands back of it. -/
def RputEnd (xs : List EnD) (x : EnD) (lo : Nat) (w : World) (e : Ending) (w' : World) : Prop :=
  ∃ v', e = .returned (.tuple #[v', .int .i64 (putE xs x)]) ∧ Ents w' lo w'.heap.size v' (putL xs x) ∧ Below w.heap.size w w'

theorem idx_lt {l : List EnD} {p : ByteArray} {i : Int} (h : hasB l p i = true) (hg : Srt l) : 0 ≤ idxOf (isB p i) l := by
  obtain ⟨k, hk, _⟩ := idx_some hg h
  rw [hk]
  exact Int.natCast_nonneg k

set_option maxHeartbeats 4000000 in
theorem rput_any (A : Option Addr) (n c : Nat) (xs : List EnD) (x : EnD) (w : World) (lo hi : Nat) (hx : Ents w lo hi (.slice A n c) xs) (hhi : hi ≤ w.heap.size) (hlo : lo ≤ w.heap.size) (hg : Good xs) (hl : xs.length ≤ 900) :
    Calls Tryz.prog 16 #[.slice A n c, .agg #[.string x.id, .int .u32 x.ix], .agg #[.int .i64 x.val, .string x.scr, .int .i64 x.ht]] w (RputEnd xs x lo w) := by
  obtain rfl : n = xs.length := by obtain ⟨_, _, hv, _⟩ := hx; injection hv
  obtain ⟨w1, hw1⟩ : ∃ w1, w1 = w.alloc (.cells #[.string x.id, .int .u32 x.ix] 55) := ⟨_, rfl⟩
  have hz1 : w1.heap.size = w.heap.size + 1 := by rw [hw1]; simp
  have hb1 : Below w.heap.size w w1 := by rw [hw1]; exact (Below.refl _ _).alloc (Nat.le_refl _) _
  obtain ⟨W, hW⟩ : ∃ W, W = w1.alloc (.cells #[.int .i64 x.val, .string x.scr, .int .i64 x.ht] 61) := ⟨_, rfl⟩
  have hz : W.heap.size = w.heap.size + 2 := by rw [hW]; simp [hz1]
  have hBW : Below w.heap.size w W := by rw [hW]; exact hb1.alloc (by omega) _
  have h28 : W.heap[w.heap.size]? = some (.cells #[.string x.id, .int .u32 x.ix] 55) := by rw [hW, Below.heap_alloc _ _ _ (by omega), hw1]; exact heap_alloc_new _ _
  have h35 : W.heap[w.heap.size + 1]? = some (.cells #[.int .i64 x.val, .string x.scr, .int .i64 x.ht] 61) := by rw [hW, ← hz1]; exact heap_alloc_new _ _
  have p0 : W.cell? ⟨w.heap.size, 0, none⟩ = some (.string x.id) := cell_in (o := 0) h28 rfl
  have p1 : W.cell? ⟨w.heap.size, 1, none⟩ = some (.int .u32 x.ix) := cell_in (o := 1) h28 rfl
  have v0 : W.cell? ⟨w.heap.size + 1, 0, none⟩ = some (.int .i64 x.val) := cell_in (o := 0) h35 rfl
  have v2 : W.cell? ⟨w.heap.size + 1, 2, none⟩ = some (.int .i64 x.ht) := cell_in (o := 2) h35 rfl
  have hxW := hx.keep (Kept.of_below hBW hhi)
  have CF := Lib.hid (rfind_any A xs.length c xs x.id x.ix W lo hi hxW (by omega) (by omega))
  have CT := Lib.hid (fun V (hV : Ents V lo hi (.slice A xs.length c) xs) => rtotal_any A xs.length c xs V lo hi hV hg.pos hg.most (by omega))
  have CG := Lib.hid (fun k V => rgood_any k V)
  have HX := Lib.hid hxW
  have HG := Lib.hid hg
  have HB := Lib.hid hBW
  have H28 := Lib.hid h28
  have H35 := Lib.hid h35
  have HW := Lib.hid (show W = (w.alloc (.cells #[.string x.id, .int .u32 x.ix] 55)).alloc (.cells #[.int .i64 x.val, .string x.scr, .int .i64 x.ht] 61) from by rw [hW, hw1])
  obtain ⟨i45, hi45, y0, y1, y2⟩ := info_parts' info45
  obtain ⟨pid, pix, v, s, t⟩ := x
  simp only at CF HW p0 p1 v0 v2 H28 H35 ⊢
  have EA : Hid (argB ⟨pid, pix, v, s, t⟩ = (decide (pid.size = 32) && (decide (0 ≤ t) && decide (t ≤ 1000000) && goodB v))) := Lib.hid rfl
  have END := Lib.hid (show ∀ W', Below W.heap.size W W' → argB ⟨pid, pix, v, s, t⟩ = false → RputEnd xs ⟨pid, pix, v, s, t⟩ lo w (.returned (.tuple #[.slice A xs.length c, .int .i64 2])) W' from fun W' hb ha => by
    obtain ⟨e1, e2⟩ := put_arg (l := xs) ha
    have := hb.size
    exact ⟨_, by rw [e1], by rw [e2]; exact (HX.out.keep (Kept.of_below hb (by omega))).wide (Nat.le_refl _) (by omega), HB.out.trans (hb.mono (by omega))⟩)
  obtain ⟨g, hgg⟩ : ∃ g, g = goodB v := ⟨_, rfl⟩
  have CG1 := Lib.hid (CG.out v W)
  rw [← hgg] at CG1
  have HGG := Lib.hid hgg
  clear hx hg hb1 hw1 hBW hW h28 h35 hxW hgg
  go_enter Tryz.func16, Tryz.ntmps16
  go_upto_region 1 with (fail)
  rw [show World.alloc (World.alloc w _) _ = W from HW.out.symm]
  go_wp2_with fail
  refine CG1.out.mono ?_
  rintro e w2 ⟨rfl, rfl⟩
  go_upto_region 2 with (fail)
  by_cases hs : pid.size = 32
  case neg =>
    have hsz : ((pid.size : Int) != 32) = true := by rw [bne_iff_ne]; omega
    have HA := Lib.hid (show argB ⟨pid, pix, v, s, t⟩ = false from by rw [EA.out]; simp [hs])
    clear hs
    go_wp2_with fail
    go_ret2
    exact END.out _ (Below.refl _ _) HA.out
  have hsz : ((pid.size : Int) != 32) = false := by rw [hs]; rfl
  have HSZ := Lib.hid hs
  clear hs
  by_cases ht0 : t < 0
  · have HA := Lib.hid (show argB ⟨pid, pix, v, s, t⟩ = false from by rw [EA.out]; simp; omega)
    go_wp2_with fail
    go_ret2
    exact END.out _ (Below.refl _ _) HA.out
  by_cases ht1 : 1000000 < t
  · have HA := Lib.hid (show argB ⟨pid, pix, v, s, t⟩ = false from by rw [EA.out]; simp; omega)
    go_wp2_with fail
    go_ret2
    exact END.out _ (Below.refl _ _) HA.out
  cases g with
  | false =>
    have HA := Lib.hid (show argB ⟨pid, pix, v, s, t⟩ = false from by rw [EA.out, ← HGG.out]; simp)
    go_wp2_with fail
    go_ret2
    exact END.out _ (Below.refl _ _) HA.out
  | true =>
    have HA := Lib.hid (show argB ⟨pid, pix, v, s, t⟩ = true from by rw [EA.out, ← HGG.out, HSZ.out]; simp; omega)
    clear END EA
    cases hh : hasB xs pid pix with
    | true =>
      obtain ⟨k, hk1, _, _⟩ := idx_some HG.out.srt hh
      rw [hk1] at CF
      have hk0 : (0 : Int) ≤ (k : Int) := Int.natCast_nonneg k
      have HH := Lib.hid hh
      clear hh hk1
      go_wp2_with fail
      refine CF.out.mono ?_
      rintro e w3 ⟨rfl, hb3⟩
      have HB3 := Lib.hid hb3
      clear hb3
      go_wp2_with fail
      go_ret2
      obtain ⟨e1, e2⟩ := put_twice HA.out HH.out
      have s3 := HB3.out.size
      exact ⟨_, by rw [e1]; rfl, by rw [e2]; exact (HX.out.keep (Kept.of_below HB3.out (by omega))).wide (Nat.le_refl _) (by omega), HB.out.trans (HB3.out.mono (by omega))⟩
    | false =>
      rw [idx_none hh] at CF
      have HH := Lib.hid hh
      clear hh
      go_wp2_with fail
      refine CF.out.mono ?_
      rintro e w3 ⟨rfl, hb3⟩
      have HB3 := Lib.hid hb3
      have s3 := hb3.size
      have HX3 := Lib.hid (HX.out.keep (Kept.of_below hb3 (by omega)))
      have h28 := (hb3.block w.heap.size (by omega)).trans H28.out
      have h35 := (hb3.block (w.heap.size + 1) (by omega)).trans H35.out
      have q0 : w3.cell? ⟨w.heap.size, 0, none⟩ = some (.string pid) := cell_in (o := 0) h28 rfl
      have q1 : w3.cell? ⟨w.heap.size, 1, none⟩ = some (.int .u32 pix) := cell_in (o := 1) h28 rfl
      have u0 : w3.cell? ⟨w.heap.size + 1, 0, none⟩ = some (.int .i64 v) := cell_in (o := 0) h35 rfl
      have u1 : w3.cell? ⟨w.heap.size + 1, 1, none⟩ = some (.string s) := cell_in (o := 1) h35 rfl
      have u2 : w3.cell? ⟨w.heap.size + 1, 2, none⟩ = some (.int .i64 t) := cell_in (o := 2) h35 rfl
      have CT3 := Lib.hid (CT.out w3 HX3.out)
      obtain ⟨tl, htl⟩ : ∃ tl, tl = tot xs := ⟨_, rfl⟩
      rw [← htl] at CT3
      have hv := goodB_iff.1 HGG.out.symm
      have hm1 := HG.out.most
      have hm0 := HG.out.zero
      have hwr : IntKind.i64.wrap (tl + v) = tl + v := IntWalk.i64_in _ (by omega)
      have HTL := Lib.hid htl
      have CG3 := Lib.hid (CG.out (tl + v) w3)
      clear hb3 p0 p1 v0 v2 htl hv hm1 hm0 h28 h35
      cases hgo : goodB (tl + v) with
      | false =>
        rw [hgo] at CG3
        have HGO := Lib.hid hgo
        clear hgo
        go_wp2_with fail
        refine CT3.out.mono ?_
        rintro e w4 ⟨rfl, hw⟩
        subst w4
        go_wp2_with fail
        refine CG3.out.mono ?_
        rintro e w4 ⟨rfl, hw⟩
        subst w4
        go_wp2_with fail
        go_ret2
        obtain ⟨e1, e2⟩ := put_range (l := xs) HA.out HH.out (by rw [← HTL.out]; exact HGO.out)
        exact ⟨_, by rw [e1]; rfl, by rw [e2]; exact HX3.out.wide (Nat.le_refl _) (by omega), HB.out.trans (HB3.out.mono (by omega))⟩
      | true =>
        rw [hgo] at CG3
        have HGO := Lib.hid hgo
        clear hgo
        go_wp2_with fail
        refine CT3.out.mono ?_
        rintro e w4 ⟨rfl, hw⟩
        subst w4
        go_wp2_with fail
        refine CG3.out.mono ?_
        rintro e w4 ⟨rfl, hw⟩
        subst w4
        go_wp2_with fail
        go_loopg [11, 12, 13, 14] xs.length (fun gg v' s12 s13 _ wr => ∃ (kk : Nat) (ys : List EnD) (dn : Bool), kk ≤ xs.length ∧ xs.length - kk ≤ gg ∧ s13 = .int .i64 kk ∧ s12 = .bool dn ∧ ys.length ≤ kk + dn.toNat ∧ Hid (insF ⟨pid, pix, v, s, t⟩ (xs.take kk) = (ys, dn)) ∧ w3.heap.size ≤ wr.heap.size ∧ Hid (Row w3 v' ys wr))
        case atStart => exact ⟨0, [], false, Nat.zero_le _, by omega, rfl, rfl, by simp, Lib.hid (by simp [insF]), Nat.le_refl _, Row.nil w3⟩
        case round =>
          obtain ⟨kk, zs, dn, hkk, hgg, rfl, rfl, hzl, HZ, hzr, HR⟩ := hrel
          obtain ⟨B, d, hv⟩ := own_form HR.out.own
          subst hv
          have hdn := Bool.toNat_le dn
          have hnw : w.heap.size < w3.heap.size := by omega
          have hnw1 : w.heap.size + 1 < w3.heap.size := by omega
          have Q0 := (HR.out.bel.cell (p := ⟨w.heap.size, 0, none⟩) hnw).trans q0
          have Q1 := (HR.out.bel.cell (p := ⟨w.heap.size, 1, none⟩) hnw).trans q1
          have U0 := (HR.out.bel.cell (p := ⟨w.heap.size + 1, 0, none⟩) hnw1).trans u0
          have U1 := (HR.out.bel.cell (p := ⟨w.heap.size + 1, 1, none⟩) hnw1).trans u1
          have U2 := (HR.out.bel.cell (p := ⟨w.heap.size + 1, 2, none⟩) hnw1).trans u2
          clear q0 q1 u0 u1 u2
          by_cases hlt : kk < xs.length
          · have hltz : (kk : Int) < (xs.length : Int) := by omega
            have hd : decide (kk < xs.length) = true := decide_eq_true hlt
            obtain ⟨y, hxk⟩ : ∃ y, xs[kk]? = some y := ⟨_, List.getElem?_eq_getElem hlt⟩
            have HS := Lib.hid (insF_step (x := ⟨pid, pix, v, s, t⟩) hxk)
            obtain ⟨b, off, rfl, h1, h2, a0, a1, a2, a3, a4⟩ := HX3.out.at hxk
            have hb3w : b < w3.heap.size := by omega
            have HA3 := Lib.hid (And.intro a0 (And.intro a1 (And.intro a2 (And.intro a3 a4))))
            have c0 := (HR.out.bel.cell (p := ⟨b, off + kk * 5, none⟩) hb3w).trans a0
            have c1 := (HR.out.bel.cell (p := ⟨b, off + kk * 5 + 1, none⟩) hb3w).trans a1
            have c2 := (HR.out.bel.cell (p := ⟨b, off + kk * 5 + 2, none⟩) hb3w).trans a2
            have c3 := (HR.out.bel.cell (p := ⟨b, off + kk * 5 + 3, none⟩) hb3w).trans a3
            have c4 := (HR.out.bel.cell (p := ⟨b, off + kk * 5 + 4, none⟩) hb3w).trans a4
            clear a0 a1 a2 a3 a4
            have hbw : b < wr.heap.size := by omega
            have hpw : w.heap.size < wr.heap.size := by omega
            have hqw : w.heap.size + 1 < wr.heap.size := by omega
            have HC := Lib.hid (And.intro c0 (And.intro c1 (And.intro c2 (And.intro c3 c4))))
            have HU := Lib.hid (And.intro Q0 (And.intro Q1 (And.intro U0 (And.intro U1 U2))))
            have r0 : ∀ z : After wr, z.val.cell? ⟨w.heap.size, 0, none⟩ = some (.string pid) := fun z => (z.ok.cell (p := ⟨w.heap.size, 0, none⟩) hpw).trans Q0
            have r1 : ∀ z : After wr, z.val.cell? ⟨w.heap.size, 1, none⟩ = some (.int .u32 pix) := fun z => (z.ok.cell (p := ⟨w.heap.size, 1, none⟩) hpw).trans Q1
            have r2 : ∀ z : After wr, z.val.cell? ⟨b, off + kk * 5, none⟩ = some (.string y.id) := fun z => (z.ok.cell (p := ⟨b, off + kk * 5, none⟩) hbw).trans c0
            have r3 : ∀ z : After wr, z.val.cell? ⟨b, off + kk * 5 + 1, none⟩ = some (.int .u32 y.ix) := fun z => (z.ok.cell (p := ⟨b, off + kk * 5 + 1, none⟩) hbw).trans c1
            have hne : Nonempty (After wr) := ⟨⟨wr, Below.refl _ _⟩⟩
            have CS := Lib.hid (fun z : After wr => rless_any pid pix y.id y.ix z.val)
            obtain ⟨r, hr⟩ : ∃ r, r = lessB pid pix y.id y.ix := ⟨_, rfl⟩
            have HRR := Lib.hid hr
            rw [← hr] at CS
            obtain ⟨m, hm⟩ : ∃ m, m = zs.length := ⟨_, rfl⟩
            have HM := Lib.hid hm
            have HRW := Lib.hid (fun W' (hW' : Below wr.heap.size wr W') => HR.out.below hW')
            rw [← hm] at HRW ⊢
            have hml : m ≤ 1000 := by omega
            clear hxk hr hm c0 c1 c2 c3 c4 Q0 Q1 U0 U1 U2
            go_wp2_with fail
            refine wp_region_after (by kernel_rfl) (by kernel_rfl) ?_
            repeat (go_big_quiet_step ((go_at_call 39; exact After.call _ (CS.out _))))
            refine wpQuiet_nil ?_
            rintro _ ⟨z, rfl⟩
            have HY := Lib.hid z.ok
            have ys0 := (z.ok.cell (p := ⟨b, off + kk * 5, none⟩) hbw).trans HC.out.1
            have ys1 := (z.ok.cell (p := ⟨b, off + kk * 5 + 1, none⟩) hbw).trans HC.out.2.1
            have ys2 := (z.ok.cell (p := ⟨b, off + kk * 5 + 2, none⟩) hbw).trans HC.out.2.2.1
            have ys3 := (z.ok.cell (p := ⟨b, off + kk * 5 + 3, none⟩) hbw).trans HC.out.2.2.2.1
            have ys4 := (z.ok.cell (p := ⟨b, off + kk * 5 + 4, none⟩) hbw).trans HC.out.2.2.2.2
            have xs0 := (z.ok.cell (p := ⟨w.heap.size, 0, none⟩) hpw).trans HU.out.1
            have xs1 := (z.ok.cell (p := ⟨w.heap.size, 1, none⟩) hpw).trans HU.out.2.1
            have xs2 := (z.ok.cell (p := ⟨w.heap.size + 1, 0, none⟩) hqw).trans HU.out.2.2.1
            have xs3 := (z.ok.cell (p := ⟨w.heap.size + 1, 1, none⟩) hqw).trans HU.out.2.2.2.1
            have xs4 := (z.ok.cell (p := ⟨w.heap.size + 1, 2, none⟩) hqw).trans HU.out.2.2.2.2
            have HRZ := Lib.hid (HRW.out z.val z.ok)
            generalize z.val = wz at HY HRZ ys0 ys1 ys2 ys3 ys4 xs0 xs1 xs2 xs3 xs4
            clear r0 r1 r2 r3 CS
            have HOW := Lib.hid HRZ.out.own
            rw [← HM.out] at HOW
            have hbytes : (m + 1) * 56 ≤ 140737488355328 := by omega
            have hmax : m + 1 ≤ maxLen := by unfold maxLen; omega
            have hzz := HY.out.size
            have hm2 : m + 1 + 1 ≤ 1002 := Nat.add_le_add_right (Nat.add_le_add_right hml 1) 1
            have hbytes2 : (m + 1 + 1) * 56 ≤ 140737488355328 := Nat.le_trans (Nat.mul_le_mul_right 56 hm2) (by decide)
            have hmax2 : m + 1 + 1 ≤ maxLen := Nat.le_trans hm2 (by unfold maxLen; decide)
            clear hm2
            have hz0 : dn = false → zs.length ≤ kk := fun h => by rw [h] at hzl; exact hzl
            have hz1 : zs.length + 1 ≤ kk + 1 + dn.toNat := by omega
            clear hzl hdn
            by_cases hrd : r = true ∧ dn = false
            · obtain ⟨rfl, rfl⟩ := hrd
              have HIN : Hid (insS ⟨pid, pix, v, s, t⟩ (zs, false) y = (zs ++ [⟨pid, pix, v, s, t⟩] ++ [y], true)) := Lib.hid (by
                unfold insS
                rw [if_pos]
                rw [show lt ⟨pid, pix, v, s, t⟩ y = true from HRR.out.symm]
                rfl)
              have hz0' := hz0 rfl
              go_upto_region 20 with (at_builtin; refine wpList_append_lies _ rfl _ _ 29 rfl w3.heap.size 84 i45 _ 5 56 Tryz.underlying29 hi45 y0 y1 y2 rfl (by decide) _ _ _ rfl (HOW.out.alloc _) ⟨wz.heap.size, 0, none⟩ 1 1 (encE ⟨pid, pix, v, s, t⟩) rfl rfl (five_new _ _ _ _ rfl) (encE_one _) (by decide) hmax hbytes (by simp; omega) _ rfl ?_; intro g1 cap1 w9 hown1 hgrow1 hat1 hlt1)
              have RR := Row.push' (x := ⟨pid, pix, v, s, t⟩) HM.out HRZ.out hgrow1 hown1
              have R1 := Lib.hid RR.1
              have HOW1 := Lib.hid RR.2
              clear RR hat1 hgrow1 hown1 ys0 ys1 ys2 ys3 ys4
              have ys0 := (R1.out.bel.cell (p := ⟨b, off + kk * 5, none⟩) hb3w).trans HA3.out.1
              have ys1 := (R1.out.bel.cell (p := ⟨b, off + kk * 5 + 1, none⟩) hb3w).trans HA3.out.2.1
              have ys2 := (R1.out.bel.cell (p := ⟨b, off + kk * 5 + 2, none⟩) hb3w).trans HA3.out.2.2.1
              have ys3 := (R1.out.bel.cell (p := ⟨b, off + kk * 5 + 3, none⟩) hb3w).trans HA3.out.2.2.2.1
              have ys4 := (R1.out.bel.cell (p := ⟨b, off + kk * 5 + 4, none⟩) hb3w).trans HA3.out.2.2.2.2
              have hz9 := R1.out.bel.size
              go_wp2_with (at_builtin; refine wpList_append_lies _ rfl _ _ 29 rfl w3.heap.size 84 i45 _ 5 56 Tryz.underlying29 hi45 y0 y1 y2 rfl (by decide) _ _ _ rfl (HOW1.out.alloc _) ⟨w9.heap.size, 0, none⟩ 1 1 (encE y) rfl rfl (five_new _ _ _ _ rfl) (encE_one _) (by decide) hmax2 hbytes2 (by simp; omega) _ rfl ?_; intro g2 cap2 w8 hown2 hgrow2 hat2 hlt2)
              go_roundg (xs.length - (kk + 1))
              case measure => omega
              case rel =>
                have hm := HM.out
                have RR := (Row.push' (x := y) (by simp [hm]) R1.out hgrow2 hown2).1
                have := RR.bel.size
                exact ⟨kk + 1, zs ++ [⟨pid, pix, v, s, t⟩] ++ [y], _, by omega, by omega, by go_num, rfl, by simp only [List.length_append, List.length_cons, List.length_nil]; exact Nat.add_le_add (Nat.add_le_add hz0' (Nat.le_refl 1)) (Nat.le_refl 1), Lib.hid (by rw [HS.out, HZ.out, HIN.out]), by omega, Lib.hid RR⟩
            · have HIN : Hid (insS ⟨pid, pix, v, s, t⟩ (zs, dn) y = (zs ++ [y], dn)) := Lib.hid (by
                unfold insS
                rw [if_neg]
                rw [show lt ⟨pid, pix, v, s, t⟩ y = r from HRR.out.symm]
                cases r <;> cases dn <;> simp_all)
              have hsplit : r = false ∨ (r = true ∧ dn = true) := by cases r <;> cases dn <;> simp_all
              clear hrd
              rcases hsplit with rfl | ⟨rfl, rfl⟩
              all_goals
                go_wp2_with (at_builtin; refine wpList_append_lies _ rfl _ _ 29 rfl w3.heap.size 84 i45 _ 5 56 Tryz.underlying29 hi45 y0 y1 y2 rfl (by decide) _ _ _ rfl (HOW.out.alloc _) ⟨wz.heap.size, 0, none⟩ 1 1 (encE y) rfl rfl (five_new _ _ _ _ rfl) (encE_one _) (by decide) hmax hbytes (by simp; omega) _ rfl ?_; intro g1 cap1 w9 hown1 hgrow1 hat1 hlt1)
                go_roundg (xs.length - (kk + 1))
                case measure => omega
                case rel =>
                  have hm := HM.out
                  subst hm
                  have RR := HRZ.out.push (x := y) hgrow1 hown1
                  have := RR.bel.size
                  exact ⟨kk + 1, zs ++ [y], _, by omega, by omega, by go_num, rfl, by simp only [List.length_append, List.length_cons, List.length_nil]; exact hz1, Lib.hid (by rw [HS.out, HZ.out, HIN.out]), by omega, Lib.hid RR⟩
          · have hltz : ¬ (kk : Int) < (xs.length : Int) := by omega
            have hd : decide (kk < xs.length) = false := decide_eq_false hlt
            obtain rfl : kk = xs.length := by omega
            rw [List.take_length] at HZ
            obtain ⟨e1, e2⟩ := put_yes (l := xs) HA.out HH.out (by rw [← HTL.out]; exact HGO.out)
            have HE := Lib.hid (And.intro e1 e2)
            have HI := Lib.hid (show insR ⟨pid, pix, v, s, t⟩ xs = if dn = true then zs else zs ++ [⟨pid, pix, v, s, t⟩] from by rw [← insD_eq]; unfold insD; rw [HZ.out])
            have HOW := Lib.hid HR.out.own
            have HRX := Lib.hid HR.out
            obtain ⟨m, hm⟩ : ∃ m, m = zs.length := ⟨_, rfl⟩
            rw [← hm] at HOW HRX ⊢
            have hml : m ≤ 1000 := by omega
            have HM := Lib.hid hm
            have hbytes : (m + 1) * 56 ≤ 140737488355328 := by omega
            have hmax : m + 1 ≤ maxLen := by unfold maxLen; omega
            clear hm e1 e2
            cases dn with
            | true =>
              go_wp2_with fail
              go_ret2
              refine ⟨.slice B m d, by rw [HE.out.1]; rfl, ?_, HB.out.trans ((HB3.out.trans (HR.out.bel.mono (by omega))).mono (by omega))⟩
              rw [HE.out.2, HI.out, if_pos trivial]
              exact HRX.out.ents.wide (by omega) (Nat.le_refl _)
            | false =>
              go_wp2_with (at_builtin; refine wpList_append_lies _ rfl _ _ 29 rfl w3.heap.size 84 i45 _ 5 56 Tryz.underlying29 hi45 y0 y1 y2 rfl (by decide) _ _ _ rfl (HOW.out.alloc _) ⟨wr.heap.size, 0, none⟩ 1 1 (encE ⟨pid, pix, v, s, t⟩) rfl rfl (five_new _ _ _ _ rfl) (encE_one _) (by decide) hmax hbytes (by simp; omega) _ rfl ?_; intro g1 cap1 w9 hown1 hgrow1 hat1 hlt1)
              go_ret2
              have RR := (Row.push' (x := ⟨pid, pix, v, s, t⟩) HM.out HRX.out hgrow1 hown1).1
              refine ⟨.slice (some ⟨g1, 0, none⟩) (m + 1) cap1, by rw [HE.out.1]; rfl, ?_, HB.out.trans ((HB3.out.trans (RR.bel.mono (by omega))).mono (by omega))⟩
              rw [HE.out.2, HI.out, if_neg (by decide)]
              exact RR.ents.wide (by omega) (Nat.le_refl _)

end Go.Proofs.YtjclklppnkoehaaGreatDoor.Co
