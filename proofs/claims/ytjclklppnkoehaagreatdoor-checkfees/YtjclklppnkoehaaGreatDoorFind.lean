/-
  Lists that are looked through by a closure: IndexFunc, ContainsFunc, at inputs, outputs and texts.
-/
import Derived.Test.YtjclklppnkoehaaGreatDoorLeaf
import Derived.Deep.LoopGhost
import Derived.Shelf.Abstract
import Derived.Shelf.AbstractIn
namespace Go.Proofs.YtjclklppnkoehaaGreatDoor
open Go.RowKit
set_option maxRecDepth 100000

/-- The first place at which p holds, or -1. -/
def idxOf {α : Type} (p : α → Bool) (xs : List α) : Int := match xs.findIdx? p with | some k => (k : Int) | none => -1

theorem idxOf_hit {α : Type} {p : α → Bool} {xs : List α} {k : Nat} {x : α} (hx : xs[k]? = some x) (hp : p x = true) (hb : ∀ (j : Nat) (y : α), j < k → xs[j]? = some y → p y = false) : idxOf p xs = k := by
  have h : xs.findIdx? p = some k := by
    rw [List.findIdx?_eq_some_iff_getElem]
    obtain ⟨hk, rfl⟩ := List.getElem?_eq_some_iff.1 hx
    exact ⟨hk, hp, fun j hj => by have := hb j xs[j] hj (List.getElem?_eq_getElem (by omega)); simp [this]⟩
  simp [idxOf, h]
theorem idxOf_miss {α : Type} {p : α → Bool} {xs : List α} (hb : ∀ (j : Nat) (y : α), xs[j]? = some y → p y = false) : idxOf p xs = -1 := by
  have h : xs.findIdx? p = none := by
    rw [List.findIdx?_eq_none_iff]
    intro y hy
    obtain ⟨j, hj⟩ := List.getElem?_of_mem hy
    exact hb j y hj
  simp [idxOf, h]
theorem idxOf_any {α : Type} (p : α → Bool) (xs : List α) : decide (0 ≤ idxOf p xs) = xs.any p := by
  cases h : xs.findIdx? p with
  | none =>
    have h2 := List.findIdx?_eq_none_iff.1 h
    have : xs.any p = false := by rw [List.any_eq_false]; intro x hx; rw [h2 x hx]; simp
    simp [idxOf, h, this]
  | some k =>
    have h2 := (List.findIdx?_eq_some_iff_getElem.1 h)
    obtain ⟨hk, hp, _⟩ := h2
    have : xs.any p = true := List.any_eq_true.2 ⟨xs[k], List.getElem_mem hk, hp⟩
    simp [idxOf, h, this]

/-- What is asked of a closure that looks at one input: whatever blocks it lays, it tells p of it. -/
def LooksIn (w : World) (lo hi : Nat) (g : Nat) (lb : Array Value) (p : InD → Bool) (xs : List InD) : Prop :=
  ∀ (W : World) (x : InD) (A : Option Addr) (n c : Nat), x ∈ xs → Below w.heap.size w W → Strs W lo hi (.slice A n c) x.wit →
    Calls Tryz.prog g (#[.agg #[.string x.id, .int .u32 x.ix, .int .u32 x.sq, .slice A n c]] ++ lb) W fun e w' => e = .returned (.bool (p x)) ∧ Below W.heap.size W w'

set_option maxHeartbeats 1000000 in
theorem find_in (g : Nat) (lb : Array Value) (eg : ∀ args w, (callFunc g args).run Tryz.prog w = .ok (.enter g args) w) (p : InD → Bool) (A : Option Addr) (n c : Nat) (xs : List InD) (w : World) (lo hi : Nat)
    (hx : Ins w lo hi (.slice A n c) xs) (hhi : hi ≤ w.heap.size) (hl : xs.length ≤ 512) (hp : LooksIn w lo hi g lb p xs) :
    Calls Tryz.prog 72 #[.slice A n c, .func (.func g) #[] lb] w fun e w' => e = .returned (.int .i64 (idxOf p xs)) ∧ Below w.heap.size w w' := by
  obtain rfl : n = xs.length := by obtain ⟨_, _, hv, _⟩ := hx; injection hv
  have HX := Lib.hid hx
  have HP := Lib.hid hp
  clear hx hp
  go_enter Tryz.func72, Tryz.ntmps72
  go_wp2
  go_loopg [5, 8] xs.length (fun gg _ s8 wr => ∃ kk : Nat, kk ≤ xs.length ∧ xs.length - kk ≤ gg ∧ s8 = .int .i64 kk ∧ Hid (Below w.heap.size w wr) ∧ Hid (∀ (j : Nat) (y : InD), j < kk → xs[j]? = some y → p y = false))
  case atStart => exact ⟨0, Nat.zero_le _, by omega, rfl, Below.refl _ w, fun j _ hj => absurd hj (Nat.not_lt_zero _)⟩
  case round =>
    obtain ⟨kk, hkk, hg, rfl, BW, A0⟩ := hrel
    by_cases hlt : kk < xs.length
    · have hltz : (kk : Int) < (xs.length : Int) := by omega
      obtain ⟨x, hxk⟩ : ∃ x, xs[kk]? = some x := ⟨_, List.getElem?_eq_getElem hlt⟩
      obtain ⟨b, off, rfl, h1, h2, hin⟩ := (HX.out.keep (Kept.of_below BW.out hhi)).at hxk
      obtain ⟨c0, c1, c2, v, c3, hs⟩ := hin
      obtain ⟨A', c', rfl, hc', hs'⟩ := hs
      have hcall := HP.out wr x A' x.wit.length c' (List.mem_of_getElem? hxk) BW.out ⟨A', c', rfl, hc', hs'⟩
      have HXK := Lib.hid hxk
      clear hxk hs' hc'
      cases hq : p x with
      | true =>
        rw [hq] at hcall
        go_wp2_with (go_at_fn g; refine hcall.mono ?_; rintro e w' ⟨rfl, hb'⟩)
        go_ret
        exact ⟨ret_int (by rw [idxOf_hit HXK.out hq A0.out]), below_next BW.out BW.out.size hb'⟩
      | false =>
        rw [hq] at hcall
        go_wp2_with (go_at_fn g; refine hcall.mono ?_; rintro e w' ⟨rfl, hb'⟩)
        go_roundg (xs.length - (kk + 1))
        case measure => omega
        case rel =>
          refine ⟨kk + 1, by omega, by omega, by go_num, below_next BW.out BW.out.size hb', (show Hid _ from fun j y hj hy => ?_)⟩
          by_cases e : j = kk
          · subst e
            rw [HXK.out] at hy
            injection hy with hy
            subst hy
            exact hq
          · exact A0.out j y (by omega) hy
    · have hltz : ¬ (kk : Int) < (xs.length : Int) := by omega
      have : kk = xs.length := by omega
      subst this
      go_wp2
      go_ret
      refine ⟨ret_int ?_, BW.out⟩
      rw [idxOf_miss (fun j y hy => A0.out j y (List.getElem?_eq_some_iff.1 hy).1 hy)]

set_option maxHeartbeats 400000 in
theorem has_in (g : Nat) (lb : Array Value) (eg : ∀ args w, (callFunc g args).run Tryz.prog w = .ok (.enter g args) w) (p : InD → Bool) (A : Option Addr) (n c : Nat) (xs : List InD) (w : World) (lo hi : Nat)
    (hx : Ins w lo hi (.slice A n c) xs) (hhi : hi ≤ w.heap.size) (hl : xs.length ≤ 512) (hp : LooksIn w lo hi g lb p xs) :
    Calls Tryz.prog 58 #[.slice A n c, .func (.func g) #[] lb] w fun e w' => e = .returned (.bool (xs.any p)) ∧ Below w.heap.size w w' := by
  rw [← idxOf_any]
  have HF := Lib.hid (find_in g lb eg p A n c xs w lo hi hx hhi hl hp)
  generalize idxOf p xs = r at HF
  clear hx hp
  go_enter Tryz.func58, Tryz.ntmps58
  go_wp2_with fail
  refine HF.out.mono ?_
  rintro e w' ⟨rfl, hb'⟩
  go_wp2
  go_ret
  exact ⟨rfl, hb'⟩

/-- What is asked of a closure that looks at one output: whatever blocks it lays, it tells p of it. -/
def LooksOut (w : World) (g : Nat) (lb : Array Value) (p : OutD → Bool) (xs : List OutD) : Prop :=
  ∀ (W : World) (x : OutD), x ∈ xs → Below w.heap.size w W →
    Calls Tryz.prog g (#[.agg #[.int .i64 x.val, .string x.scr]] ++ lb) W fun e w' => e = .returned (.bool (p x)) ∧ Below W.heap.size W w'

set_option maxHeartbeats 1000000 in
theorem find_out (g : Nat) (lb : Array Value) (eg : ∀ args w, (callFunc g args).run Tryz.prog w = .ok (.enter g args) w) (p : OutD → Bool) (A : Option Addr) (n c : Nat) (xs : List OutD) (w : World) (lo hi : Nat)
    (hx : Outs w lo hi (.slice A n c) xs) (hhi : hi ≤ w.heap.size) (hl : xs.length ≤ 512) (hp : LooksOut w g lb p xs) :
    Calls Tryz.prog 74 #[.slice A n c, .func (.func g) #[] lb] w fun e w' => e = .returned (.int .i64 (idxOf p xs)) ∧ Below w.heap.size w w' := by
  obtain rfl : n = xs.length := by obtain ⟨_, _, hv, _⟩ := hx; injection hv
  have HX := Lib.hid hx
  have HP := Lib.hid hp
  clear hx hp
  go_enter Tryz.func74, Tryz.ntmps74
  go_wp2
  go_loopg [5, 8] xs.length (fun gg _ s8 wr => ∃ kk : Nat, kk ≤ xs.length ∧ xs.length - kk ≤ gg ∧ s8 = .int .i64 kk ∧ Hid (Below w.heap.size w wr) ∧ Hid (∀ (j : Nat) (y : OutD), j < kk → xs[j]? = some y → p y = false))
  case atStart => exact ⟨0, Nat.zero_le _, by omega, rfl, Below.refl _ w, fun j _ hj => absurd hj (Nat.not_lt_zero _)⟩
  case round =>
    obtain ⟨kk, hkk, hg, rfl, BW, A0⟩ := hrel
    by_cases hlt : kk < xs.length
    · have hltz : (kk : Int) < (xs.length : Int) := by omega
      obtain ⟨x, hxk⟩ : ∃ x, xs[kk]? = some x := ⟨_, List.getElem?_eq_getElem hlt⟩
      obtain ⟨b, off, rfl, h1, h2, hin⟩ := (HX.out.keep (Kept.of_below BW.out hhi)).at hxk
      obtain ⟨c0, c1⟩ := hin
      have hcall := HP.out wr x (List.mem_of_getElem? hxk) BW.out
      have HXK := Lib.hid hxk
      clear hxk
      cases hq : p x with
      | true =>
        rw [hq] at hcall
        go_wp2_with (go_at_fn g; refine hcall.mono ?_; rintro e w' ⟨rfl, hb'⟩)
        go_ret
        exact ⟨ret_int (by rw [idxOf_hit HXK.out hq A0.out]), below_next BW.out BW.out.size hb'⟩
      | false =>
        rw [hq] at hcall
        go_wp2_with (go_at_fn g; refine hcall.mono ?_; rintro e w' ⟨rfl, hb'⟩)
        go_roundg (xs.length - (kk + 1))
        case measure => omega
        case rel =>
          refine ⟨kk + 1, by omega, by omega, by go_num, below_next BW.out BW.out.size hb', (show Hid _ from fun j y hj hy => ?_)⟩
          by_cases e : j = kk
          · subst e
            rw [HXK.out] at hy
            injection hy with hy
            subst hy
            exact hq
          · exact A0.out j y (by omega) hy
    · have hltz : ¬ (kk : Int) < (xs.length : Int) := by omega
      have : kk = xs.length := by omega
      subst this
      go_wp2
      go_ret
      refine ⟨ret_int ?_, BW.out⟩
      rw [idxOf_miss (fun j y hy => A0.out j y (List.getElem?_eq_some_iff.1 hy).1 hy)]

set_option maxHeartbeats 400000 in
theorem has_out (g : Nat) (lb : Array Value) (eg : ∀ args w, (callFunc g args).run Tryz.prog w = .ok (.enter g args) w) (p : OutD → Bool) (A : Option Addr) (n c : Nat) (xs : List OutD) (w : World) (lo hi : Nat)
    (hx : Outs w lo hi (.slice A n c) xs) (hhi : hi ≤ w.heap.size) (hl : xs.length ≤ 512) (hp : LooksOut w g lb p xs) :
    Calls Tryz.prog 64 #[.slice A n c, .func (.func g) #[] lb] w fun e w' => e = .returned (.bool (xs.any p)) ∧ Below w.heap.size w w' := by
  rw [← idxOf_any]
  have HF := Lib.hid (find_out g lb eg p A n c xs w lo hi hx hhi hl hp)
  generalize idxOf p xs = r at HF
  clear hx hp
  go_enter Tryz.func64, Tryz.ntmps64
  go_wp2_with fail
  refine HF.out.mono ?_
  rintro e w' ⟨rfl, hb'⟩
  go_wp2
  go_ret
  exact ⟨rfl, hb'⟩

/-- What is asked of a closure that looks at one text: whatever blocks it lays, it tells p of it. -/
def LooksStr (w : World) (g : Nat) (lb : Array Value) (p : ByteArray → Bool) (xs : List ByteArray) : Prop :=
  ∀ (W : World) (x : ByteArray), x ∈ xs → Below w.heap.size w W →
    Calls Tryz.prog g (#[.string x] ++ lb) W fun e w' => e = .returned (.bool (p x)) ∧ Below W.heap.size W w'

set_option maxHeartbeats 1000000 in
theorem find_str (g : Nat) (lb : Array Value) (eg : ∀ args w, (callFunc g args).run Tryz.prog w = .ok (.enter g args) w) (p : ByteArray → Bool) (A : Option Addr) (n c : Nat) (xs : List ByteArray) (w : World) (lo hi : Nat)
    (hx : Strs w lo hi (.slice A n c) xs) (hhi : hi ≤ w.heap.size) (hl : xs.length ≤ 512) (hp : LooksStr w g lb p xs) :
    Calls Tryz.prog 73 #[.slice A n c, .func (.func g) #[] lb] w fun e w' => e = .returned (.int .i64 (idxOf p xs)) ∧ Below w.heap.size w w' := by
  obtain rfl : n = xs.length := by obtain ⟨_, _, hv, _⟩ := hx; injection hv
  have HX := Lib.hid hx
  have HP := Lib.hid hp
  clear hx hp
  go_enter Tryz.func73, Tryz.ntmps73
  go_wp2
  go_loopg [5, 8] xs.length (fun gg _ s8 wr => ∃ kk : Nat, kk ≤ xs.length ∧ xs.length - kk ≤ gg ∧ s8 = .int .i64 kk ∧ Hid (Below w.heap.size w wr) ∧ Hid (∀ (j : Nat) (y : ByteArray), j < kk → xs[j]? = some y → p y = false))
  case atStart => exact ⟨0, Nat.zero_le _, by omega, rfl, Below.refl _ w, fun j _ hj => absurd hj (Nat.not_lt_zero _)⟩
  case round =>
    obtain ⟨kk, hkk, hg, rfl, BW, A0⟩ := hrel
    by_cases hlt : kk < xs.length
    · have hltz : (kk : Int) < (xs.length : Int) := by omega
      obtain ⟨x, hxk⟩ : ∃ x, xs[kk]? = some x := ⟨_, List.getElem?_eq_getElem hlt⟩
      obtain ⟨b, off, rfl, h1, h2, c0⟩ := (HX.out.keep (Kept.of_below BW.out hhi)).at hlt
      rw [show xs.getD kk ByteArray.empty = x from by simp [List.getD_eq_getElem?_getD, hxk]] at c0
      have hcall := HP.out wr x (List.mem_of_getElem? hxk) BW.out
      have HXK := Lib.hid hxk
      clear hxk
      cases hq : p x with
      | true =>
        rw [hq] at hcall
        go_wp2_with (go_at_fn g; refine hcall.mono ?_; rintro e w' ⟨rfl, hb'⟩)
        go_ret
        exact ⟨ret_int (by rw [idxOf_hit HXK.out hq A0.out]), below_next BW.out BW.out.size hb'⟩
      | false =>
        rw [hq] at hcall
        go_wp2_with (go_at_fn g; refine hcall.mono ?_; rintro e w' ⟨rfl, hb'⟩)
        go_roundg (xs.length - (kk + 1))
        case measure => omega
        case rel =>
          refine ⟨kk + 1, by omega, by omega, by go_num, below_next BW.out BW.out.size hb', (show Hid _ from fun j y hj hy => ?_)⟩
          by_cases e : j = kk
          · subst e
            rw [HXK.out] at hy
            injection hy with hy
            subst hy
            exact hq
          · exact A0.out j y (by omega) hy
    · have hltz : ¬ (kk : Int) < (xs.length : Int) := by omega
      have : kk = xs.length := by omega
      subst this
      go_wp2
      go_ret
      refine ⟨ret_int ?_, BW.out⟩
      rw [idxOf_miss (fun j y hy => A0.out j y (List.getElem?_eq_some_iff.1 hy).1 hy)]

set_option maxHeartbeats 400000 in
theorem has_str (g : Nat) (lb : Array Value) (eg : ∀ args w, (callFunc g args).run Tryz.prog w = .ok (.enter g args) w) (p : ByteArray → Bool) (A : Option Addr) (n c : Nat) (xs : List ByteArray) (w : World) (lo hi : Nat)
    (hx : Strs w lo hi (.slice A n c) xs) (hhi : hi ≤ w.heap.size) (hl : xs.length ≤ 512) (hp : LooksStr w g lb p xs) :
    Calls Tryz.prog 63 #[.slice A n c, .func (.func g) #[] lb] w fun e w' => e = .returned (.bool (xs.any p)) ∧ Below w.heap.size w w' := by
  rw [← idxOf_any]
  have HF := Lib.hid (find_str g lb eg p A n c xs w lo hi hx hhi hl hp)
  generalize idxOf p xs = r at HF
  clear hx hp
  go_enter Tryz.func63, Tryz.ntmps63
  go_wp2_with fail
  refine HF.out.mono ?_
  rintro e w' ⟨rfl, hb'⟩
  go_wp2
  go_ret
  exact ⟨rfl, hb'⟩

end Go.Proofs.YtjclklppnkoehaaGreatDoor
