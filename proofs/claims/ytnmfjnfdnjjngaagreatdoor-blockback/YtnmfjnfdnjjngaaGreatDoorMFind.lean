/-
  Lists that are looked through by a closure: IndexFunc, ContainsFunc, at inputs, outputs and texts.
  Are two inputs From the same output: the program's spendsTwice.
  May a transaction be: the program's Check.
-/
import Derived.Test.YtnmfjnfdnjjngaaGreatDoorMData
import Derived.Deep.LoopGhost
import Derived.Shelf.Abstract
import Derived.Shelf.AbstractIn
import Derived.Test.YtnmfjnfdnjjngaaGreatDoorMOwn
import Derived.Test.YtnmfjnfdnjjngaaGreatDoorMPure
import Derived.RegionTactic
import Derived.BigRegion
import Derived.Carry
import Derived.Laws.EntriesVeiled

namespace Go.Proofs.YtnmfjnfdnjjngaaGreatDoor
open Go.RowKit
set_option maxRecDepth 100000

/-- The first place at which p holds, or -1. -/
def idxOf {α : Type} (p : α → Bool) (xs : List α) : Int := match xs.findIdx? p with | some k => (k : Int) | none => -1

theorem idxOf_hit {α : Type} {p : α → Bool} {xs : List α} {k : Nat} {x : α} (hx : xs[k]? = some x) (hp : p x = true) (hb : ∀ (j : Nat) (y : α), j < k → xs[j]? = some y → p y = false) : idxOf p xs = k := by
  have h : xs.findIdx? p = some k := by
    rw [List.findIdx?_eq_some_iff_getElem]
    obtain ⟨hk, rfl⟩ := List.getElem?_eq_some_iff.1 hx
    exact ⟨hk, hp, fun j hj => by have := hb j xs[j] hj (List.getElem?_eq_getElem (by omega)); simp [this]⟩
  simp [idxOf, h]
theorem idxOf_miss {α : Type} {p : α → Bool} {xs : List α} (hb : ∀ (j : Nat) (y : α), xs[j]? = some y → p y = false) : idxOf p xs = -1 := by
  have h : xs.findIdx? p = none := by
    rw [List.findIdx?_eq_none_iff]
    intro y hy
    obtain ⟨j, hj⟩ := List.getElem?_of_mem hy
    exact hb j y hj
  simp [idxOf, h]
theorem idxOf_any {α : Type} (p : α → Bool) (xs : List α) : decide (0 ≤ idxOf p xs) = xs.any p := by
  cases h : xs.findIdx? p with
  | none =>
    have h2 := List.findIdx?_eq_none_iff.1 h
    have : xs.any p = false := by rw [List.any_eq_false]; intro x hx; rw [h2 x hx]; simp
    simp [idxOf, h, this]
  | some k =>
    have h2 := (List.findIdx?_eq_some_iff_getElem.1 h)
    obtain ⟨hk, hp, _⟩ := h2
    have : xs.any p = true := List.any_eq_true.2 ⟨xs[k], List.getElem_mem hk, hp⟩
    simp [idxOf, h, this]

/-- What is asked of a closure that looks at one input: whatever blocks it lays, it tells p of it. -/
def LooksIn (w : World) (lo hi : Nat) (g : Nat) (lb : Array Value) (p : InD → Bool) (xs : List InD) : Prop :=
  ∀ (W : World) (x : InD) (A : Option Addr) (n c : Nat), x ∈ xs → Below w.heap.size w W → Strs W lo hi (.slice A n c) x.wit →
    Calls Tryz.prog g (#[.agg #[.string x.id, .int .u32 x.ix, .int .u32 x.sq, .slice A n c]] ++ lb) W fun e w' => e = .returned (.bool (p x)) ∧ Below W.heap.size W w'

set_option maxHeartbeats 1000000 in
theorem find_in (g : Nat) (lb : Array Value) (eg : ∀ args w, (callFunc g args).run Tryz.prog w = .ok (.enter g args) w) (p : InD → Bool) (A : Option Addr) (n c : Nat) (xs : List InD) (w : World) (lo hi : Nat)
    (hx : Ins w lo hi (.slice A n c) xs) (hhi : hi ≤ w.heap.size) (hl : xs.length ≤ 512) (hp : LooksIn w lo hi g lb p xs) :
    Calls Tryz.prog 140 #[.slice A n c, .func (.func g) #[] lb] w fun e w' => e = .returned (.int .i64 (idxOf p xs)) ∧ Below w.heap.size w w' := by
  obtain rfl : n = xs.length := by obtain ⟨_, _, hv, _⟩ := hx; injection hv
  have HX := Lib.hid hx
  have HP := Lib.hid hp
  clear hx hp
  go_enter Tryz.func140, Tryz.ntmps140
  go_wp2
  go_loopg [5, 8] xs.length (fun gg _ s8 wr => ∃ kk : Nat, kk ≤ xs.length ∧ xs.length - kk ≤ gg ∧ s8 = .int .i64 kk ∧ Hid (Below w.heap.size w wr) ∧ Hid (∀ (j : Nat) (y : InD), j < kk → xs[j]? = some y → p y = false))
  case atStart => exact ⟨0, Nat.zero_le _, by omega, rfl, Below.refl _ w, fun j _ hj => absurd hj (Nat.not_lt_zero _)⟩
  case round =>
    obtain ⟨kk, hkk, hg, rfl, BW, A0⟩ := hrel
    by_cases hlt : kk < xs.length
    · have hltz : (kk : Int) < (xs.length : Int) := by omega
      obtain ⟨x, hxk⟩ : ∃ x, xs[kk]? = some x := ⟨_, List.getElem?_eq_getElem hlt⟩
      obtain ⟨b, off, rfl, h1, h2, hin⟩ := (HX.out.keep (Kept.of_below BW.out hhi)).at hxk
      obtain ⟨c0, c1, c2, v, c3, hs⟩ := hin
      obtain ⟨A', c', rfl, hc', hs'⟩ := hs
      have hcall := HP.out wr x A' x.wit.length c' (List.mem_of_getElem? hxk) BW.out ⟨A', c', rfl, hc', hs'⟩
      have HXK := Lib.hid hxk
      clear hxk hs' hc'
      cases hq : p x with
      | true =>
        rw [hq] at hcall
        go_wp2_with (go_at_fn g; refine hcall.mono ?_; rintro e w' ⟨rfl, hb'⟩)
        go_ret
        exact ⟨ret_int (by rw [idxOf_hit HXK.out hq A0.out]), below_next BW.out BW.out.size hb'⟩
      | false =>
        rw [hq] at hcall
        go_wp2_with (go_at_fn g; refine hcall.mono ?_; rintro e w' ⟨rfl, hb'⟩)
        go_roundg (xs.length - (kk + 1))
        case measure => omega
        case rel =>
          refine ⟨kk + 1, by omega, by omega, by go_num, below_next BW.out BW.out.size hb', (show Hid _ from fun j y hj hy => ?_)⟩
          by_cases e : j = kk
          · subst e
            rw [HXK.out] at hy
            injection hy with hy
            subst hy
            exact hq
          · exact A0.out j y (by omega) hy
    · have hltz : ¬ (kk : Int) < (xs.length : Int) := by omega
      have : kk = xs.length := by omega
      subst this
      go_wp2
      go_ret
      refine ⟨ret_int ?_, BW.out⟩
      rw [idxOf_miss (fun j y hy => A0.out j y (List.getElem?_eq_some_iff.1 hy).1 hy)]

set_option maxHeartbeats 400000 in
theorem has_in (g : Nat) (lb : Array Value) (eg : ∀ args w, (callFunc g args).run Tryz.prog w = .ok (.enter g args) w) (p : InD → Bool) (A : Option Addr) (n c : Nat) (xs : List InD) (w : World) (lo hi : Nat)
    (hx : Ins w lo hi (.slice A n c) xs) (hhi : hi ≤ w.heap.size) (hl : xs.length ≤ 512) (hp : LooksIn w lo hi g lb p xs) :
    Calls Tryz.prog 124 #[.slice A n c, .func (.func g) #[] lb] w fun e w' => e = .returned (.bool (xs.any p)) ∧ Below w.heap.size w w' := by
  rw [← idxOf_any]
  have HF := Lib.hid (find_in g lb eg p A n c xs w lo hi hx hhi hl hp)
  generalize idxOf p xs = r at HF
  clear hx hp
  go_enter Tryz.func124, Tryz.ntmps124
  go_wp2_with fail
  refine HF.out.mono ?_
  rintro e w' ⟨rfl, hb'⟩
  go_wp2
  go_ret
  exact ⟨rfl, hb'⟩

/-- What is asked of a closure that looks at one output: whatever blocks it lays, it tells p of it. -/
def LooksOut (w : World) (g : Nat) (lb : Array Value) (p : OutD → Bool) (xs : List OutD) : Prop :=
  ∀ (W : World) (x : OutD), x ∈ xs → Below w.heap.size w W →
    Calls Tryz.prog g (#[.agg #[.int .i64 x.val, .string x.scr]] ++ lb) W fun e w' => e = .returned (.bool (p x)) ∧ Below W.heap.size W w'

set_option maxHeartbeats 1000000 in
theorem find_out (g : Nat) (lb : Array Value) (eg : ∀ args w, (callFunc g args).run Tryz.prog w = .ok (.enter g args) w) (p : OutD → Bool) (A : Option Addr) (n c : Nat) (xs : List OutD) (w : World) (lo hi : Nat)
    (hx : Outs w lo hi (.slice A n c) xs) (hhi : hi ≤ w.heap.size) (hl : xs.length ≤ 512) (hp : LooksOut w g lb p xs) :
    Calls Tryz.prog 142 #[.slice A n c, .func (.func g) #[] lb] w fun e w' => e = .returned (.int .i64 (idxOf p xs)) ∧ Below w.heap.size w w' := by
  obtain rfl : n = xs.length := by obtain ⟨_, _, hv, _⟩ := hx; injection hv
  have HX := Lib.hid hx
  have HP := Lib.hid hp
  clear hx hp
  go_enter Tryz.func142, Tryz.ntmps142
  go_wp2
  go_loopg [5, 8] xs.length (fun gg _ s8 wr => ∃ kk : Nat, kk ≤ xs.length ∧ xs.length - kk ≤ gg ∧ s8 = .int .i64 kk ∧ Hid (Below w.heap.size w wr) ∧ Hid (∀ (j : Nat) (y : OutD), j < kk → xs[j]? = some y → p y = false))
  case atStart => exact ⟨0, Nat.zero_le _, by omega, rfl, Below.refl _ w, fun j _ hj => absurd hj (Nat.not_lt_zero _)⟩
  case round =>
    obtain ⟨kk, hkk, hg, rfl, BW, A0⟩ := hrel
    by_cases hlt : kk < xs.length
    · have hltz : (kk : Int) < (xs.length : Int) := by omega
      obtain ⟨x, hxk⟩ : ∃ x, xs[kk]? = some x := ⟨_, List.getElem?_eq_getElem hlt⟩
      obtain ⟨b, off, rfl, h1, h2, hin⟩ := (HX.out.keep (Kept.of_below BW.out hhi)).at hxk
      obtain ⟨c0, c1⟩ := hin
      have hcall := HP.out wr x (List.mem_of_getElem? hxk) BW.out
      have HXK := Lib.hid hxk
      clear hxk
      cases hq : p x with
      | true =>
        rw [hq] at hcall
        go_wp2_with (go_at_fn g; refine hcall.mono ?_; rintro e w' ⟨rfl, hb'⟩)
        go_ret
        exact ⟨ret_int (by rw [idxOf_hit HXK.out hq A0.out]), below_next BW.out BW.out.size hb'⟩
      | false =>
        rw [hq] at hcall
        go_wp2_with (go_at_fn g; refine hcall.mono ?_; rintro e w' ⟨rfl, hb'⟩)
        go_roundg (xs.length - (kk + 1))
        case measure => omega
        case rel =>
          refine ⟨kk + 1, by omega, by omega, by go_num, below_next BW.out BW.out.size hb', (show Hid _ from fun j y hj hy => ?_)⟩
          by_cases e : j = kk
          · subst e
            rw [HXK.out] at hy
            injection hy with hy
            subst hy
            exact hq
          · exact A0.out j y (by omega) hy
    · have hltz : ¬ (kk : Int) < (xs.length : Int) := by omega
      have : kk = xs.length := by omega
      subst this
      go_wp2
      go_ret
      refine ⟨ret_int ?_, BW.out⟩
      rw [idxOf_miss (fun j y hy => A0.out j y (List.getElem?_eq_some_iff.1 hy).1 hy)]

set_option maxHeartbeats 400000 in
theorem has_out (g : Nat) (lb : Array Value) (eg : ∀ args w, (callFunc g args).run Tryz.prog w = .ok (.enter g args) w) (p : OutD → Bool) (A : Option Addr) (n c : Nat) (xs : List OutD) (w : World) (lo hi : Nat)
    (hx : Outs w lo hi (.slice A n c) xs) (hhi : hi ≤ w.heap.size) (hl : xs.length ≤ 512) (hp : LooksOut w g lb p xs) :
    Calls Tryz.prog 130 #[.slice A n c, .func (.func g) #[] lb] w fun e w' => e = .returned (.bool (xs.any p)) ∧ Below w.heap.size w w' := by
  rw [← idxOf_any]
  have HF := Lib.hid (find_out g lb eg p A n c xs w lo hi hx hhi hl hp)
  generalize idxOf p xs = r at HF
  clear hx hp
  go_enter Tryz.func130, Tryz.ntmps130
  go_wp2_with fail
  refine HF.out.mono ?_
  rintro e w' ⟨rfl, hb'⟩
  go_wp2
  go_ret
  exact ⟨rfl, hb'⟩

/-- What is asked of a closure that looks at one text: whatever blocks it lays, it tells p of it. -/
def LooksStr (w : World) (g : Nat) (lb : Array Value) (p : ByteArray → Bool) (xs : List ByteArray) : Prop :=
  ∀ (W : World) (x : ByteArray), x ∈ xs → Below w.heap.size w W →
    Calls Tryz.prog g (#[.string x] ++ lb) W fun e w' => e = .returned (.bool (p x)) ∧ Below W.heap.size W w'

set_option maxHeartbeats 1000000 in
theorem find_str (g : Nat) (lb : Array Value) (eg : ∀ args w, (callFunc g args).run Tryz.prog w = .ok (.enter g args) w) (p : ByteArray → Bool) (A : Option Addr) (n c : Nat) (xs : List ByteArray) (w : World) (lo hi : Nat)
    (hx : Strs w lo hi (.slice A n c) xs) (hhi : hi ≤ w.heap.size) (hl : xs.length ≤ 512) (hp : LooksStr w g lb p xs) :
    Calls Tryz.prog 141 #[.slice A n c, .func (.func g) #[] lb] w fun e w' => e = .returned (.int .i64 (idxOf p xs)) ∧ Below w.heap.size w w' := by
  obtain rfl : n = xs.length := by obtain ⟨_, _, hv, _⟩ := hx; injection hv
  have HX := Lib.hid hx
  have HP := Lib.hid hp
  clear hx hp
  go_enter Tryz.func141, Tryz.ntmps141
  go_wp2
  go_loopg [5, 8] xs.length (fun gg _ s8 wr => ∃ kk : Nat, kk ≤ xs.length ∧ xs.length - kk ≤ gg ∧ s8 = .int .i64 kk ∧ Hid (Below w.heap.size w wr) ∧ Hid (∀ (j : Nat) (y : ByteArray), j < kk → xs[j]? = some y → p y = false))
  case atStart => exact ⟨0, Nat.zero_le _, by omega, rfl, Below.refl _ w, fun j _ hj => absurd hj (Nat.not_lt_zero _)⟩
  case round =>
    obtain ⟨kk, hkk, hg, rfl, BW, A0⟩ := hrel
    by_cases hlt : kk < xs.length
    · have hltz : (kk : Int) < (xs.length : Int) := by omega
      obtain ⟨x, hxk⟩ : ∃ x, xs[kk]? = some x := ⟨_, List.getElem?_eq_getElem hlt⟩
      obtain ⟨b, off, rfl, h1, h2, c0⟩ := (HX.out.keep (Kept.of_below BW.out hhi)).at hlt
      rw [show xs.getD kk ByteArray.empty = x from by simp [List.getD_eq_getElem?_getD, hxk]] at c0
      have hcall := HP.out wr x (List.mem_of_getElem? hxk) BW.out
      have HXK := Lib.hid hxk
      clear hxk
      cases hq : p x with
      | true =>
        rw [hq] at hcall
        go_wp2_with (go_at_fn g; refine hcall.mono ?_; rintro e w' ⟨rfl, hb'⟩)
        go_ret
        exact ⟨ret_int (by rw [idxOf_hit HXK.out hq A0.out]), below_next BW.out BW.out.size hb'⟩
      | false =>
        rw [hq] at hcall
        go_wp2_with (go_at_fn g; refine hcall.mono ?_; rintro e w' ⟨rfl, hb'⟩)
        go_roundg (xs.length - (kk + 1))
        case measure => omega
        case rel =>
          refine ⟨kk + 1, by omega, by omega, by go_num, below_next BW.out BW.out.size hb', (show Hid _ from fun j y hj hy => ?_)⟩
          by_cases e : j = kk
          · subst e
            rw [HXK.out] at hy
            injection hy with hy
            subst hy
            exact hq
          · exact A0.out j y (by omega) hy
    · have hltz : ¬ (kk : Int) < (xs.length : Int) := by omega
      have : kk = xs.length := by omega
      subst this
      go_wp2
      go_ret
      refine ⟨ret_int ?_, BW.out⟩
      rw [idxOf_miss (fun j y hy => A0.out j y (List.getElem?_eq_some_iff.1 hy).1 hy)]

set_option maxHeartbeats 400000 in
theorem has_str (g : Nat) (lb : Array Value) (eg : ∀ args w, (callFunc g args).run Tryz.prog w = .ok (.enter g args) w) (p : ByteArray → Bool) (A : Option Addr) (n c : Nat) (xs : List ByteArray) (w : World) (lo hi : Nat)
    (hx : Strs w lo hi (.slice A n c) xs) (hhi : hi ≤ w.heap.size) (hl : xs.length ≤ 512) (hp : LooksStr w g lb p xs) :
    Calls Tryz.prog 129 #[.slice A n c, .func (.func g) #[] lb] w fun e w' => e = .returned (.bool (xs.any p)) ∧ Below w.heap.size w w' := by
  rw [← idxOf_any]
  have HF := Lib.hid (find_str g lb eg p A n c xs w lo hi hx hhi hl hp)
  generalize idxOf p xs = r at HF
  clear hx hp
  go_enter Tryz.func129, Tryz.ntmps129
  go_wp2_with fail
  refine HF.out.mono ?_
  rintro e w' ⟨rfl, hb'⟩
  go_wp2
  go_ret
  exact ⟨rfl, hb'⟩

end Go.Proofs.YtnmfjnfdnjjngaaGreatDoor

namespace Go.Proofs.YtnmfjnfdnjjngaaGreatDoor
open Go.RowKit
set_option maxRecDepth 100000

/-- Is a point counted more than once? -/
def moreB (n : Nat) : Bool := decide (1 < n)

theorem run_makeMap_hint {P : Program} (t k e : TypeId) (kd : IntKind) (n : Int) (ht : P.underlying t = some (.map k e)) (w : World) :
    (Instr.makeMap t (some (.int kd n))).run P w = .ok (.map (some w.heap.size)) (w.alloc (.map #[] 0)) := by
  simp [Instr.makeMap, run_underlying ht]; rfl

set_option maxHeartbeats 400000 in
theorem more_any (x : InD) (A : Option Addr) (n c : Nat) (g b : Nat) (xs : List InD) (w : World) (hx : x.Ok) (h0 : w.cell? ⟨g, 0, none⟩ = some (.map (some b))) (hm : MapIs w b xs) :
    Calls Tryz.prog 132 #[.agg #[.string x.id, .int .u32 x.ix, .int .u32 x.sq, .slice A n c], .pointer (some ⟨g, 0, none⟩)] w fun e w' => e = .returned (.bool (moreB (cnt xs x))) ∧ Below w.heap.size w w' := by
  have hg := lt_of_cell h0
  have hlook := fun o => (hm.keep (w' := w.alloc o) (Below.heap_alloc _ _ _ hm.lt)).look hx
  clear hm
  generalize cnt xs x = k at hlook ⊢
  go_enter Tryz.func132, Tryz.ntmps132
  go_wp2
  go_ret
  exact ⟨ret_bool (by unfold moreB; simp; omega), (Below.refl _ _).alloc (Nat.le_refl _) _⟩

/-- Is an output spent twice? -/
def twiceB (xs : List InD) : Bool := xs.any fun x => moreB (cnt xs x)

/-- A counter and a map, as the loop's head has them. -/
def CountHead (xs : List InD) (w : World) (g b gg : Nat) (s : Value) (wr : World) : Prop :=
  ∃ k : Nat, k ≤ xs.length ∧ xs.length - k ≤ gg ∧ s = .int .i64 k ∧ MapIs wr b (xs.take k) ∧ wr.cell? ⟨g, 0, none⟩ = some (.map (some b)) ∧ Below w.heap.size w wr

set_option maxHeartbeats 1000000 in
theorem twice_any (A : Option Addr) (n c : Nat) (xs : List InD) (w : World) (lo hi : Nat) (hx : Ins w lo hi (.slice A n c) xs) (hhi : hi ≤ w.heap.size) (hl : xs.length ≤ 512) (hok : ∀ x ∈ xs, x.Ok) :
    Calls Tryz.prog 110 #[.slice A n c] w fun e w' => e = .returned (.bool (twiceB xs)) ∧ Below w.heap.size w w' := by
  obtain rfl : n = xs.length := by obtain ⟨_, _, hv, _⟩ := hx; injection hv
  have HX := Lib.hid hx
  have HO := Lib.hid hok
  clear hx hok
  have hmm := fun (i : Int) (W : World) => run_makeMap_hint (P := Tryz.prog) 227 60 3 .i64 i Tryz.underlying227 W
  go_enter Tryz.func110, Tryz.ntmps110
  go_wp2_with fail
  go_loopg [5, 11] xs.length (fun gg _ s wr => CountHead xs w (w.heap.size + 1) w.heap.size gg s wr)
  case atStart =>
    refine ⟨0, Nat.zero_le _, by omega, rfl, ?_, by simp, ((Below.refl _ _).alloc (Nat.le_refl _) _).alloc (by simp) _⟩
    exact (MapIs.made w).keep (Below.heap_alloc _ _ _ (by simp))
  case round =>
    obtain ⟨k, hk, hg, rfl, hmap, hcell, BW⟩ := hrel
    have hsz : w.heap.size + 1 < wr.heap.size := lt_of_cell hcell
    have hs0 := BW.size
    have BW := Lib.hid BW
    by_cases hlt : k < xs.length
    · have hltz : (k : Int) < (xs.length : Int) := by omega
      have hd : decide (k < xs.length) = true := decide_eq_true hlt
      obtain ⟨x, hxk⟩ : ∃ x, xs[k]? = some x := ⟨_, List.getElem?_eq_getElem hlt⟩
      obtain ⟨b, off, rfl, h1, h2, c0, c1, c2, v, c3, hs⟩ := (HX.out.keep (Kept.of_below BW.out hhi)).at hxk
      obtain ⟨A1, m1, rfl, _, _⟩ := hs
      have hxo := HO.out x (List.mem_of_getElem? hxk)
      have hcn : cnt (xs.take k) x ≤ k := by unfold cnt; exact Nat.le_trans (List.countP_le_length) (by simp; omega)
      obtain ⟨W, hW⟩ : ∃ W, W = wr.alloc (.cells #[.string x.id, .int .u32 x.ix, .int .u32 x.sq, .slice A1 x.wit.length m1] 107) := ⟨_, rfl⟩
      have hmW : MapIs W w.heap.size (xs.take k) := by rw [hW]; exact hmap.keep (Below.heap_alloc _ _ _ (by omega))
      have hmd : MapIs W.drew w.heap.size (xs.take k) := hmW
      obtain ⟨st, w1, w2, r1, r2, r3, b1, b2, hm2⟩ := hmd.step hxo
      have r0 := hmd.look hxo
      have BB := Lib.hid (And.intro b1 (And.intro b2 hm2))
      have HXK := Lib.hid hxk
      have HW := Lib.hid hW
      have BWW : Below w.heap.size w W.drew := by rw [hW]; exact (BW.out.alloc hs0 _).drew
      have BWW := Lib.hid BWW
      have hcW : W.cell? ⟨w.heap.size + 1, 0, none⟩ = some (.map (some w.heap.size)) := by rw [hW]; rw [World.cell?_alloc_lt _ _ _ (by show w.heap.size + 1 < _; omega)]; exact hcell
      have HCW := Lib.hid hcW
      have hzW : W.heap.size = wr.heap.size + 1 := by rw [hW]; simp
      have HZW := Lib.hid hzW
      clear b1 b2 hm2 hxk hW hmW hmd hmap hcW hzW
      go_wp2_with fail
      rw [← HW.out]
      have q0 : W.cell? ⟨wr.heap.size, 0, none⟩ = some (.string x.id) := by rw [HW.out]; simp
      have q1 : W.cell? ⟨wr.heap.size, 1, none⟩ = some (.int .u32 x.ix) := by rw [HW.out]; simp
      have q2 := HCW.out
      generalize cnt (xs.take k) x = m at r0 r1 r2 r3 hcn
      have r3' : (Instr.entryStore 227 (.map (some w.heap.size)) (.int .i64 (st : Int)) (.int .i64 ((m : Int) + 1))).run Tryz.prog w1 = .ok () w2 := r3
      have hwr : IntKind.i64.wrap ((m : Int) + 1) = (m : Int) + 1 := IntWalk.i64_in _ (by omega)
      clear r3
      go_region
      all_goals go_wp2_with fail
      all_goals go_roundg (xs.length - (k + 1))
      case measure => omega
      case rel =>
        obtain ⟨b1, b2, hm2⟩ := BB.out
        refine ⟨k + 1, by omega, by omega, by go_num, ?_, ?_, But.below (But.below BWW.out b1 (Nat.le_refl _)) b2 (Nat.le_refl _)⟩
        · rw [List.take_succ_eq_append_getElem hlt]
          rw [show xs[k] = x from by have := HXK.out; rw [List.getElem?_eq_getElem hlt] at this; injection this]
          exact hm2
        · rw [b2.cell (by omega), b1.cell (by omega)]
          exact HCW.out
    · have hltz : ¬ (k : Int) < (xs.length : Int) := by omega
      obtain rfl : k = xs.length := by omega
      rw [List.take_length] at hmap
      have HM := Lib.hid hmap
      clear hmap
      have eg : ∀ args w, (callFunc 132 args).run Tryz.prog w = .ok (.enter 132 args) w := enters_of Tryz.func132 (by kernel_rfl) rfl
      go_wp2_with fail
      refine (has_in 132 #[.pointer (some ⟨w.heap.size + 1, 0, none⟩)] eg (fun x => moreB (cnt xs x)) A xs.length c xs wr lo hi (HX.out.keep (Kept.of_below BW.out hhi)) (by omega) hl ?_).mono ?_
      · intro W x A1 n1 c1 hx hb hs
        exact more_any x A1 n1 c1 _ w.heap.size xs W (HO.out x hx) ((hb.cell (by show w.heap.size + 1 < _; omega)).trans hcell) (HM.out.keep (hb.block _ (by omega)))
      rintro e w' ⟨rfl, hb'⟩
      go_wp2_with fail
      go_ret
      exact ⟨rfl, below_next BW.out hs0 hb'⟩

end Go.Proofs.YtnmfjnfdnjjngaaGreatDoor

namespace Go.Proofs.YtnmfjnfdnjjngaaGreatDoor
open Go.RowKit
set_option maxRecDepth 100000

/-- Has it as many parts as it may have? -/
def countsB (t : TxD) : Bool := inR t.ins.length 1 256 && inR t.outs.length 1 256 && !(t.ins.any fun x => manyB x.wit.length)
/-- Is a text too long? -/
def longB (t : TxD) : Bool := (t.outs.any fun o => decide (40 < o.scr.size)) || (t.ins.any fun x => x.wit.any fun s => decide (80 < s.size))
/-- Is a point amiss? -/
def pointsB (xs : List InD) : Bool := !(xs.any fun x => amissB (xs.length == 1) x.id x.ix)
/-- P5.1. -/
def checkD (t : TxD) : Int := if countsB t = false then 6 else if longB t = true then 20 else if pointsB t.ins = false then 4 else if twiceB t.ins = true then 7 else (totalD t.outs).2

theorem eg47 : ∀ args w, (callFunc 125 args).run Tryz.prog w = .ok (.enter 125 args) w := enters_of Tryz.func125 (by kernel_rfl) rfl
theorem eg48 : ∀ args w, (callFunc 126 args).run Tryz.prog w = .ok (.enter 126 args) w := enters_of Tryz.func126 (by kernel_rfl) rfl
theorem eg49 : ∀ args w, (callFunc 127 args).run Tryz.prog w = .ok (.enter 127 args) w := enters_of Tryz.func127 (by kernel_rfl) rfl
theorem eg50 : ∀ args w, (callFunc 128 args).run Tryz.prog w = .ok (.enter 128 args) w := enters_of Tryz.func128 (by kernel_rfl) rfl
theorem eg53 : ∀ args w, (callFunc 131 args).run Tryz.prog w = .ok (.enter 131 args) w := enters_of Tryz.func131 (by kernel_rfl) rfl

theorem countsB_ins {t : TxD} (h : inR t.ins.length 1 256 = false) : countsB t = false := by simp [countsB, h]
theorem countsB_outs {t : TxD} (h : inR t.outs.length 1 256 = false) : countsB t = false := by simp [countsB, h]
theorem countsB_items {t : TxD} (h : inR t.ins.length 1 256 = true) (h2 : inR t.outs.length 1 256 = true) : countsB t = !(t.ins.any fun x => manyB x.wit.length) := by simp [countsB, h, h2]

set_option maxHeartbeats 1000000 in
theorem counts_any (t : TxD) (vi vo : Value) (w : World) (lo hi : Nat) (ht : TxAt w lo hi vi vo t) (hhi : hi ≤ w.heap.size) (hok : t.Ok) :
    Calls Tryz.prog 107 #[.agg #[.int .u32 t.ver, vi, vo, .int .u32 t.lock]] w fun e w' => e = .returned (.bool (countsB t)) ∧ Below w.heap.size w w' := by
  obtain ⟨tv, ti, tz, tl⟩ := t
  obtain ⟨A1, m1, rfl⟩ := ht.1.form
  obtain ⟨A2, m2, rfl⟩ := ht.2.form
  have HT := Lib.hid ht
  have HO := Lib.hid hok
  simp only
  clear ht hok
  have B0 := Lib.hid (fun o => (Below.refl w.heap.size w).alloc (Nat.le_refl _) o)
  cases h1 : inR ti.length 1 256
  · have E := Lib.hid (countsB_ins (t := ⟨tv, ti, tz, tl⟩) h1)
    go_enter Tryz.func107, Tryz.ntmps107
    go_wp2_with (go_at_call 123; refine (within_any _ _ _ _).mono ?_; rintro e w' ⟨rfl, rfl⟩)
    go_ret
    exact ⟨ret_bool E.out.symm, B0.out _⟩
  · cases h2 : inR tz.length 1 256
    · have E := Lib.hid (countsB_outs (t := ⟨tv, ti, tz, tl⟩) h2)
      go_enter Tryz.func107, Tryz.ntmps107
      go_wp2_with (go_at_call 123; refine (within_any _ _ _ _).mono ?_; rintro e w' ⟨rfl, rfl⟩)
      go_ret
      exact ⟨ret_bool E.out.symm, B0.out _⟩
    · have E := Lib.hid (countsB_items (t := ⟨tv, ti, tz, tl⟩) h1 h2)
      go_enter Tryz.func107, Tryz.ntmps107
      go_wp2_with (go_at_call 123; refine (within_any _ _ _ _).mono ?_; rintro e w' ⟨rfl, rfl⟩)
      refine (has_in 125 #[] eg47 (fun x => manyB x.wit.length) A1 _ m1 ti _ lo hi (HT.out.1.keep (Kept.of_below (B0.out _) hhi)) (by simp; omega) HO.out.1 ?_).mono ?_
      · intro W x A n c hx hb hs
        obtain ⟨_, _, hv, _⟩ := hs
        injection hv with _ hn
        subst hn
        exact items_any _ _ _ _ _ _ _
      rintro e w' ⟨rfl, hb'⟩
      go_wp2_with fail
      go_ret
      exact ⟨ret_bool E.out.symm, below_next (B0.out _) (by simp) hb'⟩

set_option maxHeartbeats 1000000 in
theorem hasitem_any (x : InD) (A : Option Addr) (n c g : Nat) (w : World) (lo hi : Nat) (hs : Strs w lo hi (.slice A n c) x.wit) (hhi : hi ≤ w.heap.size) (hl : x.wit.length ≤ 512) (h0 : w.cell? ⟨g, 0, none⟩ = some (.func (.func 127) #[] #[])) :
    Calls Tryz.prog 128 #[.agg #[.string x.id, .int .u32 x.ix, .int .u32 x.sq, .slice A n c], .pointer (some ⟨g, 0, none⟩)] w fun e w' => e = .returned (.bool (x.wit.any fun s => decide (80 < s.size))) ∧ Below w.heap.size w w' := by
  have hg := lt_of_cell h0
  have HS := Lib.hid hs
  clear hs
  have B0 := Lib.hid (fun o => (Below.refl w.heap.size w).alloc (Nat.le_refl _) o)
  go_enter Tryz.func128, Tryz.ntmps128
  go_wp2_with fail
  refine (has_str 127 #[] eg49 (fun s => decide (80 < s.size)) A n c x.wit _ lo hi (HS.out.keep (Kept.of_below (B0.out _) hhi)) (by simp; omega) hl ?_).mono ?_
  · intro W s _ _
    exact item_any s W
  rintro e w' ⟨rfl, hb'⟩
  go_wp2_with fail
  go_ret
  exact ⟨rfl, below_next (B0.out _) (by simp) hb'⟩

theorem longB_out {t : TxD} (h : (t.outs.any fun o => decide (40 < o.scr.size)) = true) : longB t = true := by simp [longB, h]
theorem longB_in {t : TxD} (h : (t.outs.any fun o => decide (40 < o.scr.size)) = false) : longB t = t.ins.any fun x => x.wit.any fun s => decide (80 < s.size) := by simp [longB, h]

set_option maxHeartbeats 1000000 in
theorem long_any (t : TxD) (vi vo : Value) (w : World) (lo hi : Nat) (ht : TxAt w lo hi vi vo t) (hhi : hi ≤ w.heap.size) (hok : t.Ok) :
    Calls Tryz.prog 108 #[.agg #[.int .u32 t.ver, vi, vo, .int .u32 t.lock]] w fun e w' => e = .returned (.bool (longB t)) ∧ Below w.heap.size w w' := by
  obtain ⟨tv, ti, tz, tl⟩ := t
  obtain ⟨A1, m1, rfl⟩ := ht.1.form
  obtain ⟨A2, m2, rfl⟩ := ht.2.form
  have HT := Lib.hid ht
  have HO := Lib.hid hok
  simp only
  clear ht hok
  have B0 := Lib.hid (fun o o' => ((Below.refl w.heap.size w).alloc (Nat.le_refl _) o).alloc (by simp) o')
  have E1 := Lib.hid (longB_out (t := ⟨tv, ti, tz, tl⟩))
  have E2 := Lib.hid (longB_in (t := ⟨tv, ti, tz, tl⟩))
  go_enter Tryz.func108, Tryz.ntmps108
  go_wp2_with fail
  refine (has_out 126 #[] eg48 (fun o => decide (40 < o.scr.size)) A2 _ m2 tz _ lo hi (HT.out.2.keep (Kept.of_below (B0.out _ _) hhi)) (by simp; omega) HO.out.2.1 ?_).mono ?_
  · intro W x _ _
    exact script_any _ _ _
  rintro e w' ⟨rfl, hb'⟩
  have hz : w.heap.size + 2 ≤ w'.heap.size := by have := hb'.size; simp at this; omega
  have f0 := hb'.cell (p := ⟨w.heap.size, 1, none⟩) (by simp; omega)
  have f1 := hb'.cell (p := ⟨w.heap.size + 1, 0, none⟩) (by simp)
  simp at f0 f1
  have hb2 := Lib.hid (below_next (B0.out _ _) (by simp; omega) hb')
  clear hb'
  cases h1 : tz.any fun o => decide (40 < o.scr.size)
  · go_wp2_with fail
    refine (has_in 128 #[.pointer (some ⟨w.heap.size + 1, 0, none⟩)] eg50 (fun x => x.wit.any fun s => decide (80 < s.size)) A1 _ m1 ti _ lo hi (HT.out.1.keep (Kept.of_below hb2.out hhi)) (by omega) HO.out.1 ?_).mono ?_
    · intro W x A n c hx hb hs
      exact hasitem_any x A n c _ W lo hi hs (by have := hb.size; omega) (by have := (HO.out.2.2.1 x hx).2.2.2.2.2.1; omega) ((hb.cell (by show w.heap.size + 1 < _; omega)).trans f1)
    rintro e w2 ⟨rfl, hb3⟩
    go_wp2_with fail
    go_ret
    exact ⟨ret_bool (E2.out h1).symm, below_next hb2.out (by omega) hb3⟩
  · go_wp2_with fail
    go_ret
    exact ⟨ret_bool (E1.out h1).symm, hb2.out⟩

set_option maxHeartbeats 1000000 in
theorem points_any (A : Option Addr) (n c : Nat) (xs : List InD) (w : World) (lo hi : Nat) (hx : Ins w lo hi (.slice A n c) xs) (hhi : hi ≤ w.heap.size) (hl : xs.length ≤ 512) :
    Calls Tryz.prog 109 #[.slice A n c] w fun e w' => e = .returned (.bool (pointsB xs)) ∧ Below w.heap.size w w' := by
  obtain rfl : n = xs.length := by obtain ⟨_, _, hv, _⟩ := hx; injection hv
  have HX := Lib.hid hx
  clear hx
  have E := Lib.hid (show pointsB xs = !(xs.any fun x => amissB (xs.length == 1) x.id x.ix) from rfl)
  have hb1 : ((xs.length : Int) == 1) = (xs.length == 1) := by
    by_cases h : xs.length = 1
    · simp [h]
    · rw [show (xs.length == 1) = false from by simp [h]]; simp; omega
  have HB1 := Lib.hid hb1
  clear hb1
  generalize (xs.length == 1) = al at E HB1
  go_enter Tryz.func109, Tryz.ntmps109
  go_wp2_with (go_at_call 49; refine (base_point _).mono ?_; rintro e w' ⟨rfl, hb'⟩)
  rw [HB1.out]
  have BB := Lib.hid (fun o o' => (hb'.alloc hb'.size o).alloc (by have := hb'.size; simp; omega) o')
  have hz' := hb'.size
  refine (has_in 131 #[.pointer (some ⟨w'.heap.size + 1, 0, none⟩), .pointer (some ⟨w'.heap.size, 0, none⟩)] eg53 (fun x => amissB al x.id x.ix) A _ c xs _ lo hi (HX.out.keep (Kept.of_below (BB.out _ _) hhi)) (by simp; omega) hl ?_).mono ?_
  · intro W x A1 n1 c1 hx hb hs
    have h1 := hb.cell (p := ⟨w'.heap.size + 1, 0, none⟩) (by simp)
    have h2 := hb.cell (p := ⟨w'.heap.size, 0, none⟩) (by simp; omega)
    have h3 := hb.cell (p := ⟨w'.heap.size, 1, none⟩) (by simp; omega)
    exact amiss_any x.id x.ix x.sq A1 n1 c1 al _ _ W (h1.trans (by simp)) (h2.trans (by simp)) (h3.trans (by simp))
  rintro e w2 ⟨rfl, hb3⟩
  go_wp2_with fail
  go_ret
  exact ⟨ret_bool E.out.symm, below_next (BB.out _ _) (by simp; omega) hb3⟩

theorem checkD_count {t : TxD} (h : countsB t = false) : checkD t = 6 := by simp [checkD, h]
theorem checkD_long {t : TxD} (h : countsB t = true) (h2 : longB t = true) : checkD t = 20 := by simp [checkD, h, h2]
theorem checkD_form {t : TxD} (h : countsB t = true) (h2 : longB t = false) (h3 : pointsB t.ins = false) : checkD t = 4 := by simp [checkD, h, h2, h3]
theorem checkD_twice {t : TxD} (h : countsB t = true) (h2 : longB t = false) (h3 : pointsB t.ins = true) (h4 : twiceB t.ins = true) : checkD t = 7 := by simp [checkD, h, h2, h3, h4]
theorem checkD_range {t : TxD} (h : countsB t = true) (h2 : longB t = false) (h3 : pointsB t.ins = true) (h4 : twiceB t.ins = false) : checkD t = (totalD t.outs).2 := by simp [checkD, h, h2, h3, h4]

/-- A transaction in a box. -/
def Boxed (w : World) (b : Nat) (v0 v1 v2 v3 : Value) : Prop := w.cell? ⟨b, 0, none⟩ = some v0 ∧ w.cell? ⟨b, 1, none⟩ = some v1 ∧ w.cell? ⟨b, 2, none⟩ = some v2 ∧ w.cell? ⟨b, 3, none⟩ = some v3
theorem Boxed.new (w : World) (v0 v1 v2 v3 : Value) (t : TypeId) : Boxed (w.alloc (.cells #[v0, v1, v2, v3] t)) w.heap.size v0 v1 v2 v3 := by
  refine ⟨?_, ?_, ?_, ?_⟩ <;> simp
theorem Boxed.below {w w' : World} {b : Nat} {v0 v1 v2 v3 : Value} (h : Boxed w b v0 v1 v2 v3) (hlt : b < w.heap.size) (hb : Below w.heap.size w w') : Boxed w' b v0 v1 v2 v3 :=
  ⟨(hb.cell (p := ⟨b, 0, none⟩) hlt).trans h.1, (hb.cell (p := ⟨b, 1, none⟩) hlt).trans h.2.1, (hb.cell (p := ⟨b, 2, none⟩) hlt).trans h.2.2.1, (hb.cell (p := ⟨b, 3, none⟩) hlt).trans h.2.2.2⟩

set_option maxHeartbeats 1000000 in
theorem check_any (t : TxD) (vi vo : Value) (w : World) (lo hi : Nat) (ht : TxAt w lo hi vi vo t) (hhi : hi ≤ w.heap.size) (hok : t.Ok) :
    Calls Tryz.prog 84 #[.agg #[.int .u32 t.ver, vi, vo, .int .u32 t.lock]] w fun e w' => e = .returned (.int .i64 (checkD t)) ∧ Below w.heap.size w w' := by
  obtain ⟨tv, ti, tz, tl⟩ := t
  obtain ⟨A1, m1, rfl⟩ := ht.1.form
  obtain ⟨A2, m2, rfl⟩ := ht.2.form
  have HT := Lib.hid ht
  have HO := Lib.hid hok
  simp only
  clear ht hok
  have B0 := Lib.hid (fun o => (Below.refl w.heap.size w).alloc (Nat.le_refl _) o)
  have X0 := Lib.hid (Boxed.new w (.int .u32 tv) (.slice A1 ti.length m1) (.slice A2 tz.length m2) (.int .u32 tl) 51)
  have E1 := Lib.hid (checkD_count (t := ⟨tv, ti, tz, tl⟩))
  have E2 := Lib.hid (checkD_long (t := ⟨tv, ti, tz, tl⟩))
  have E3 := Lib.hid (checkD_form (t := ⟨tv, ti, tz, tl⟩))
  have E4 := Lib.hid (checkD_twice (t := ⟨tv, ti, tz, tl⟩))
  have E5 := Lib.hid (checkD_range (t := ⟨tv, ti, tz, tl⟩))
  go_enter Tryz.func84, Tryz.ntmps84
  go_wp2_with fail
  refine (counts_any ⟨tv, ti, tz, tl⟩ _ _ _ lo hi (HT.out.keep (Kept.of_below (B0.out _) hhi)) (by simp; omega) HO.out).mono ?_
  rintro e w1 ⟨rfl, hb1⟩
  have X1 := Lib.hid (X0.out.below (by simp) hb1)
  have z1 : w.heap.size + 1 ≤ w1.heap.size := by have := hb1.size; simp at this; exact this
  have K1 := Lib.hid (below_next (B0.out _) (by simp) hb1)
  clear hb1
  obtain ⟨a0, a1, a2, a3⟩ := X1.out
  cases h1 : countsB ⟨tv, ti, tz, tl⟩
  · go_wp2_with fail
    go_ret
    exact ⟨ret_int (E1.out h1).symm, K1.out⟩
  go_wp2_with fail
  refine (long_any ⟨tv, ti, tz, tl⟩ _ _ _ lo hi (HT.out.keep (Kept.of_below K1.out hhi)) (by omega) HO.out).mono ?_
  rintro e w2 ⟨rfl, hb2⟩
  have X2 := Lib.hid (X1.out.below (by omega) hb2)
  have z2 : w.heap.size + 1 ≤ w2.heap.size := by have := hb2.size; omega
  have K2 := Lib.hid (below_next K1.out (by omega) hb2)
  clear hb2 a0 a1 a2 a3
  obtain ⟨a0, a1, a2, a3⟩ := X2.out
  cases h2 : longB ⟨tv, ti, tz, tl⟩
  case true =>
    go_wp2_with fail
    go_ret
    exact ⟨ret_int (E2.out h1 h2).symm, K2.out⟩
  go_wp2_with fail
  refine (points_any A1 _ m1 ti _ lo hi (HT.out.1.keep (Kept.of_below K2.out hhi)) (by omega) HO.out.1).mono ?_
  rintro e w3 ⟨rfl, hb3⟩
  have X3 := Lib.hid (X2.out.below (by omega) hb3)
  have z3 : w.heap.size + 1 ≤ w3.heap.size := by have := hb3.size; omega
  have K3 := Lib.hid (below_next K2.out (by omega) hb3)
  clear hb3 a0 a1 a2 a3
  obtain ⟨a0, a1, a2, a3⟩ := X3.out
  cases h3 : pointsB ti
  · go_wp2_with fail
    go_ret
    exact ⟨ret_int (E3.out h1 h2 h3).symm, K3.out⟩
  go_wp2_with fail
  refine (twice_any A1 _ m1 ti _ lo hi (HT.out.1.keep (Kept.of_below K3.out hhi)) (by omega) HO.out.1 HO.out.2.2.1).mono ?_
  rintro e w4 ⟨rfl, hb4⟩
  have X4 := Lib.hid (X3.out.below (by omega) hb4)
  have z4 : w.heap.size + 1 ≤ w4.heap.size := by have := hb4.size; omega
  have K4 := Lib.hid (below_next K3.out (by omega) hb4)
  clear hb4 a0 a1 a2 a3
  obtain ⟨a0, a1, a2, a3⟩ := X4.out
  cases h4 : twiceB ti
  case true =>
    go_wp2_with fail
    go_ret
    exact ⟨ret_int (E4.out h1 h2 h3 h4).symm, K4.out⟩
  go_wp2_with fail
  refine (total_any ⟨tv, ti, tz, tl⟩ _ _ _ lo hi (HT.out.2.keep (Kept.of_below K4.out hhi)) (by omega) HO.out.2.1).mono ?_
  rintro e w5 ⟨rfl, hb5⟩
  go_wp2_with fail
  go_ret
  exact ⟨ret_int (E5.out h1 h2 h3 h4).symm, below_next K4.out (by omega) hb5⟩

end Go.Proofs.YtnmfjnfdnjjngaaGreatDoor
