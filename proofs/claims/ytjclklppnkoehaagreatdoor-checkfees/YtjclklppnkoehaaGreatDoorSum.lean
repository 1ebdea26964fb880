/-
  Sums of amounts: the program's and the document's (layer 1's contracts, at this seat's numbers).
-/
import Derived.Test.YtjclklppnkoehaaGreatDoorLeaf
namespace Go.Proofs.YtjclklppnkoehaaGreatDoor
open Go.RowKit
set_option maxRecDepth 100000

/-- Is a number from 0 to the most? -/
def uptoB (n m : Int) : Bool := decide (0 ≤ n) && decide (n ≤ m)

theorem uptoB_iff (n m : Int) : uptoB n m = true ↔ 0 ≤ n ∧ n ≤ m := by
  unfold uptoB; simp

theorem uptoB_true {n m : Int} (h1 : 0 ≤ n) (h2 : n ≤ m) : uptoB n m = true := (uptoB_iff n m).2 ⟨h1, h2⟩

theorem uptoB_false {n m : Int} (h : ¬ (0 ≤ n ∧ n ≤ m)) : uptoB n m = false := by
  cases hb : uptoB n m
  · rfl
  · exact absurd ((uptoB_iff n m).1 hb) h

/-- An amount. -/
def goodB (a : Int) : Bool := uptoB a 2100000000000000
theorem goodB_iff (a : Int) : goodB a = true ↔ 0 ≤ a ∧ a ≤ 2100000000000000 := uptoB_iff _ _
theorem goodB_true {a : Int} (h1 : 0 ≤ a) (h2 : a ≤ 2100000000000000) : goodB a = true := uptoB_true h1 h2
theorem goodB_false {a : Int} (h : ¬ (0 ≤ a ∧ a ≤ 2100000000000000)) : goodB a = false := uptoB_false h

def addOk (a b : Int) : Bool := goodB a && goodB b && goodB (a + b)
def addV (a b : Int) : Int := if addOk a b = true then a + b else 0
def addE (a b : Int) : Int := if addOk a b = true then 0 else 3

set_option maxHeartbeats 400000 in
theorem awithin_any (n m : Int) (w : World) :
    Calls Tryz.prog 46 #[.int .i64 n, .int .i64 m] w fun e w' => e = .returned (.bool (uptoB n m)) ∧ w = w' := by
  by_cases h : 0 ≤ n
  · go_enter Tryz.func46, Tryz.ntmps46
    go_wp2
    go_ret
    exact ⟨ret_bool (by simp [uptoB, h]), rfl⟩
  · go_enter Tryz.func46, Tryz.ntmps46
    go_wp2
    go_ret
    exact ⟨ret_bool (uptoB_false (by omega)).symm, rfl⟩

set_option maxHeartbeats 400000 in
theorem good_any (n : Int) (w : World) :
    Calls Tryz.prog 22 #[.int .i64 n] w fun e w' => e = .returned (.bool (goodB n)) ∧ w = w' := by
  go_enter Tryz.func22, Tryz.ntmps22
  go_wp2_with (go_at_call 46; refine (awithin_any _ _ _).mono ?_; rintro e w' ⟨rfl, rfl⟩)
  go_ret
  exact ⟨rfl, rfl⟩

set_option maxHeartbeats 400000 in
theorem add_any (a b : Int) (w : World) :
    Calls Tryz.prog 36 #[.int .i64 a, .int .i64 b] w fun e w' => e = .returned (.tuple #[.int .i64 (addV a b), .int .i64 (addE a b)]) ∧ w = w' := by
  cases h1 : goodB a
  · go_enter Tryz.func36, Tryz.ntmps36
    go_wp2_with (go_at_call 22; refine (good_any _ _).mono ?_; rintro e w' ⟨rfl, rfl⟩)
    go_ret2
    exact ⟨ret_pair (by simp [addV, addOk, h1]) (by simp [addE, addOk, h1]), rfl⟩
  · cases h2 : goodB b
    · go_enter Tryz.func36, Tryz.ntmps36
      go_wp2_with (go_at_call 22; refine (good_any _ _).mono ?_; rintro e w' ⟨rfl, rfl⟩)
      go_ret2
      exact ⟨ret_pair (by simp [addV, addOk, h2]) (by simp [addE, addOk, h2]), rfl⟩
    · have b1 := (goodB_iff a).1 h1
      have b2 := (goodB_iff b).1 h2
      cases h3 : goodB (a + b)
      · go_enter Tryz.func36, Tryz.ntmps36
        go_wp2_with (go_at_call 22; refine (good_any _ _).mono ?_; rintro e w' ⟨rfl, rfl⟩)
        go_ret2
        exact ⟨ret_pair (by simp [addV, addOk, h3]) (by simp [addE, addOk, h3]), rfl⟩
      · go_enter Tryz.func36, Tryz.ntmps36
        go_wp2_with (go_at_call 22; refine (good_any _ _).mono ?_; rintro e w' ⟨rfl, rfl⟩)
        go_ret2
        exact ⟨ret_pair (by simp [addV, addOk, h1, h2, h3]) (by simp [addE, addOk, h1, h2, h3]), rfl⟩

set_option maxHeartbeats 400000 in
theorem rgood_any (n : Int) (w : World) :
    Calls Tryz.prog 37 #[.int .i64 n] w fun e w' => e = .returned (.bool (goodB n)) ∧ w = w' := by
  by_cases h : 0 ≤ n
  · go_enter Tryz.func37, Tryz.ntmps37
    go_wp2
    go_ret
    exact ⟨ret_bool (by simp [goodB, uptoB, h]), rfl⟩
  · go_enter Tryz.func37, Tryz.ntmps37
    go_wp2
    go_ret
    exact ⟨ret_bool (goodB_false (by omega)).symm, rfl⟩

/-- The numbers zs stand at the address A, all of them below block B. -/
def Ints (w : World) (B : Nat) (A : Option Addr) (zs : List Int) : Prop :=
  zs = [] ∨ ∃ b off : Nat, A = some ⟨b, off, none⟩ ∧ b < B ∧ ∀ k : Nat, k < zs.length → w.cell? ⟨b, off + k, none⟩ = some (.int .i64 (zs.getD k 0))

theorem Ints.at {w : World} {B : Nat} {A : Option Addr} {zs : List Int} (h : Ints w B A zs) {k : Nat} (hk : k < zs.length) :
    ∃ b off : Nat, A = some ⟨b, off, none⟩ ∧ b < B ∧ w.cell? ⟨b, off + k, none⟩ = some (.int .i64 (zs.getD k 0)) := by
  rcases h with rfl | ⟨b, off, e, hb, hc⟩
  · simp at hk
  · exact ⟨b, off, e, hb, hc k hk⟩

theorem Ints.keep {w w' : World} {B : Nat} {A : Option Addr} {zs : List Int} (h : Ints w B A zs) (hk : ∀ b o : Nat, b < B → w'.cell? ⟨b, o, none⟩ = w.cell? ⟨b, o, none⟩) : Ints w' B A zs := by
  rcases h with rfl | ⟨b, off, e, hb, hc⟩
  · exact .inl rfl
  · exact .inr ⟨b, off, e, hb, fun k h => (hk _ _ hb).trans (hc k h)⟩

theorem Ints.below {w w' : World} {B : Nat} {A : Option Addr} {zs : List Int} (h : Ints w B A zs) (hb : Below B w w') : Ints w' B A zs := h.keep fun _ _ hp => hb.cell hp
theorem Ints.more {w : World} {B B' : Nat} {A : Option Addr} {zs : List Int} (h : Ints w B A zs) (hB : B ≤ B') : Ints w B' A zs := by
  rcases h with rfl | ⟨b, off, e, hb, hc⟩
  · exact .inl rfl
  · exact .inr ⟨b, off, e, by omega, hc⟩
theorem Ints.alloc {w : World} {B : Nat} {A : Option Addr} {zs : List Int} (h : Ints w B A zs) (hB : B ≤ w.heap.size) (o : Obj) : Ints (w.alloc o) B A zs :=
  h.keep fun b i hb => World.cell?_alloc_lt w o ⟨b, i, none⟩ (by show b < w.heap.size; omega)
theorem Ints.drewN {w : World} {B : Nat} {A : Option Addr} {zs : List Int} (h : Ints w B A zs) (n : Nat) : Ints (w.drewN n) B A zs := h
theorem Ints.take {w : World} {B : Nat} {A : Option Addr} {zs : List Int} (h : Ints w B A zs) (n : Nat) : Ints w B A (zs.take n) := by
  rcases h with rfl | ⟨b, off, e, hb, hc⟩
  · exact .inl (by simp)
  · refine .inr ⟨b, off, e, hb, fun k hk => ?_⟩
    have h1 : k < zs.length := by simp at hk; omega
    have h2 : k < n := by simp at hk; omega
    rw [hc k h1]
    simp [List.getD_eq_getElem?_getD, h2]

/-- The sum of amounts, from s on, and the error beside it. -/
def sumFrom (s : Int) : List Int → Int × Int
  | [] => (s, 0)
  | a :: r => if addOk s a = true then sumFrom (s + a) r else (0, 3)

theorem sumFrom_step (s : Int) (zs : List Int) (k : Nat) (hk : k < zs.length) :
    sumFrom s (zs.drop k) = if addOk s (zs.getD k 0) = true then sumFrom (s + zs.getD k 0) (zs.drop (k + 1)) else (0, 3) := by
  rw [List.drop_eq_getElem_cons hk]
  simp [sumFrom, List.getD_eq_getElem?_getD, hk]

theorem sumFrom_end (s : Int) (zs : List Int) (k : Nat) (hk : zs.length ≤ k) : sumFrom s (zs.drop k) = (s, 0) := by
  rw [List.drop_eq_nil_of_le hk]; rfl

/-- Where a sum stands behind k numbers. -/
def SumAt (zs : List Int) (k : Nat) (s : Int) : Prop := goodB s = true ∧ sumFrom 0 zs = sumFrom s (zs.drop k)

theorem SumAt.zero (zs : List Int) : SumAt zs 0 0 := ⟨by decide, by simp⟩
theorem SumAt.good {zs : List Int} {k : Nat} {s : Int} (h : SumAt zs k s) : goodB s = true := h.1
theorem SumAt.yes {zs : List Int} {k : Nat} {s : Int} (h : SumAt zs k s) (hk : k < zs.length) (ha : addOk s (zs.getD k 0) = true) : SumAt zs (k + 1) (s + zs.getD k 0) := by
  refine ⟨?_, by rw [h.2, sumFrom_step s zs k hk, if_pos ha]⟩
  unfold addOk at ha
  simp only [Bool.and_eq_true] at ha
  exact ha.2
theorem SumAt.no {zs : List Int} {k : Nat} {s : Int} (h : SumAt zs k s) (hk : k < zs.length) (ha : addOk s (zs.getD k 0) = false) : sumFrom 0 zs = (0, 3) := by
  rw [h.2, sumFrom_step s zs k hk, if_neg (by rw [ha]; simp)]
theorem SumAt.fin {zs : List Int} {k : Nat} {s : Int} (h : SumAt zs k s) (hk : zs.length ≤ k) : sumFrom 0 zs = (s, 0) := by
  rw [h.2, sumFrom_end s zs k hk]

theorem addV_yes {a b : Int} (h : addOk a b = true) : addV a b = a + b := by simp [addV, h]
theorem addE_yes {a b : Int} (h : addOk a b = true) : addE a b = 0 := by simp [addE, h]
theorem addV_no {a b : Int} (h : addOk a b = false) : addV a b = 0 := by simp [addV, h]
theorem addE_no {a b : Int} (h : addOk a b = false) : addE a b = 3 := by simp [addE, h]

/-- A counter and a sum, as a loop's head has them. -/
def SumHead (zs : List Int) (t i : Value) : Prop := ∃ (k : Nat) (s : Int), k ≤ zs.length ∧ i = .int .i64 k ∧ t = .int .i64 s ∧ SumAt zs k s

set_option maxHeartbeats 400000 in
theorem sum_any (A : Option Addr) (cap B : Nat) (zs : List Int) (w : World) (h : Ints w B A zs) (hm : zs.length ≤ maxLen) :
    Calls Tryz.prog 47 #[.slice A zs.length cap] w fun e w' => e = .returned (.tuple #[.int .i64 (sumFrom 0 zs).1, .int .i64 (sumFrom 0 zs).2]) ∧ w = w' := by
  unfold maxLen at hm
  go_enter Tryz.func47, Tryz.ntmps47
  go_wp2_with fail
  go_loop [4, 11] (fun t i => SumHead zs t i) (fun _ i => zs.length - (intOf i).toNat)
  case atStart => exact ⟨0, 0, by omega, rfl, rfl, SumAt.zero zs⟩
  case round =>
    obtain ⟨k, s, hk, rfl, rfl, hs⟩ := hrel
    by_cases hlt : k < zs.length
    · obtain ⟨b, off, rfl, _, hc⟩ := h.at hlt
      generalize hx : zs.getD k 0 = x at hc
      have hs' := Lib.hid hs
      have hx' := Lib.hid hx
      clear hs hx
      have hb : decide (k < zs.length) = true := decide_eq_true hlt
      cases ha : addOk s x
      · have a1 := addV_no ha
        have a2 := addE_no ha
        have HA := Lib.hid ha
        clear ha
        go_wp2_with (go_at_call 36; refine (add_any _ _ _).mono ?_; rintro e w' ⟨rfl, rfl⟩)
        go_ret2
        have e := hs'.out.no hlt (by rw [hx'.out]; exact HA.out)
        exact ⟨ret_pair (by rw [e]) (by rw [e]), rfl⟩
      · have a1 := addV_yes ha
        have a2 := addE_yes ha
        have HA := Lib.hid ha
        clear ha
        go_wp2_with (go_at_call 36; refine (add_any _ _ _).mono ?_; rintro e w' ⟨rfl, rfl⟩)
        go_round
        case rel => exact ⟨k + 1, s + x, by omega, by go_num, rfl, by have e := hs'.out.yes hlt (by rw [hx'.out]; exact HA.out); rw [hx'.out] at e; exact e⟩
        case measure => simp [intOf]; omega
    · go_wp2_with fail
      go_ret2
      have e := hs.fin (by omega)
      exact ⟨ret_pair (by rw [e]) (by rw [e]), rfl⟩

theorem addOk_of {s x : Int} (hs : goodB s = true) : addOk s x = (goodB x && goodB (s + x)) := by simp [addOk, hs]

set_option maxHeartbeats 400000 in
theorem rsum_any (A : Option Addr) (cap B : Nat) (zs : List Int) (w : World) (h : Ints w B A zs) (hm : zs.length ≤ maxLen) :
    Calls Tryz.prog 29 #[.slice A zs.length cap] w fun e w' => e = .returned (.tuple #[.int .i64 (sumFrom 0 zs).1, .int .i64 (sumFrom 0 zs).2]) ∧ w = w' := by
  unfold maxLen at hm
  go_enter Tryz.func29, Tryz.ntmps29
  go_wp2_with fail
  go_loop [4, 5] (fun t i => SumHead zs t i) (fun _ i => zs.length - (intOf i).toNat)
  case atStart => exact ⟨0, 0, by omega, rfl, rfl, SumAt.zero zs⟩
  case round =>
    obtain ⟨k, s, hk, rfl, rfl, hs⟩ := hrel
    by_cases hlt : k < zs.length
    · obtain ⟨b, off, rfl, _, hc⟩ := h.at hlt
      generalize hx : zs.getD k 0 = x at hc
      have hs' := Lib.hid hs
      have hx' := Lib.hid hx
      have gs := (goodB_iff s).1 hs.good
      have ho := addOk_of (x := x) hs.good
      have HO := Lib.hid ho
      clear hs hx ho
      have hb : decide (k < zs.length) = true := decide_eq_true hlt
      cases g1 : goodB x
      · go_wp2_with (go_at_call 37; refine (rgood_any _ _).mono ?_; rintro e w' ⟨rfl, rfl⟩)
        go_ret2
        have e := hs'.out.no hlt (by rw [hx'.out, HO.out, g1]; rfl)
        exact ⟨ret_pair (by rw [e]) (by rw [e]), rfl⟩
      · have gx := (goodB_iff x).1 g1
        cases g2 : goodB (s + x)
        · go_wp2_with (go_at_call 37; refine (rgood_any _ _).mono ?_; rintro e w' ⟨rfl, rfl⟩)
          go_ret2
          have e := hs'.out.no hlt (by rw [hx'.out, HO.out, g1, g2]; rfl)
          exact ⟨ret_pair (by rw [e]) (by rw [e]), rfl⟩
        · go_wp2_with (go_at_call 37; refine (rgood_any _ _).mono ?_; rintro e w' ⟨rfl, rfl⟩)
          go_round
          case rel => exact ⟨k + 1, s + x, by omega, by go_num, rfl, by have e := hs'.out.yes hlt (by rw [hx'.out, HO.out, g1, g2]; rfl); rw [hx'.out] at e; exact e⟩
          case measure => simp [intOf]; omega
    · go_wp2_with fail
      go_ret2
      have e := hs.fin (by omega)
      exact ⟨ret_pair (by rw [e]) (by rw [e]), rfl⟩
end Go.Proofs.YtjclklppnkoehaaGreatDoor
