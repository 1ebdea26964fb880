/-
  AmountBack: its walk.
-/
import Derived.Test.YtndjbobgccpdfaaOwn
import Derived.Deep.DeepCutAuto
namespace Go.Proofs.Ytndjbobgccpdfaa
open Go.RowKit

theorem back_add {a b : Int} (h : addOk a b = true) : subE (addV a b) b = 0 ∧ subV (addV a b) b = a := by
  rw [addV_yes h]
  simp only [addOk, Bool.and_eq_true, goodB_iff] at h
  have : subOk (a + b) b = true := by
    simp only [subOk, Bool.and_eq_true, goodB_iff, decide_eq_true_eq]
    omega
  simp [subE, subV, this]

theorem back_sub {a b : Int} (h : subOk a b = true) : addE (subV a b) b = 0 ∧ addV (subV a b) b = a := by
  have e : subV a b = a - b := by simp [subV, h]
  rw [e]
  simp only [subOk, Bool.and_eq_true, goodB_iff, decide_eq_true_eq] at h
  have : addOk (a - b) b = true := by
    simp only [addOk, Bool.and_eq_true, goodB_iff]
    omega
  simp [addE, addV, this]

/-- Numbers that are so small that thirty of them are still an amount. -/
def Few (xs : List Int) : Prop := ∀ x ∈ xs, 0 ≤ x ∧ x < 70000000000000

theorem sum_few : ∀ (xs : List Int) (s : Int), Few xs → 0 ≤ s → s + 70000000000000 * xs.length ≤ 2100000000000000 → sumFrom s xs = (s + xs.sum, 0)
  | [], s, _, _, _ => by simp [sumFrom]
  | x :: r, s, h, h0, hs => by
    have hx := h x (by simp)
    have hr : Few r := fun y hy => h y (by simp [hy])
    simp only [List.length_cons, Int.natCast_add, Int.natCast_one] at hs
    have ok : addOk s x = true := by
      simp only [addOk, Bool.and_eq_true, goodB_iff]
      omega
    have ih := sum_few r (s + x) hr (by omega) (by omega)
    simp only [sumFrom, ok, if_true, ih, List.sum_cons]
    rw [Int.add_assoc]

theorem Few.push {xs : List Int} {x : Int} (h : Few xs) (h0 : 0 ≤ x) (h1 : x < 70000000000000) : Few (xs ++ [x]) := by
  intro y hy
  rcases List.mem_append.1 hy with h' | h'
  · exact h y h'
  · simp at h'; subst h'; exact ⟨h0, h1⟩

theorem sum_back (xs : List Int) (h : Few xs) (hl : xs.length ≤ 30) : sumFrom 0 xs = (xs.sum, 0) ∧ sumFrom 0 xs.reverse = (xs.sum, 0) := by
  refine ⟨?_, ?_⟩
  · rw [sum_few xs 0 h (by omega) (by omega)]; simp
  · rw [sum_few xs.reverse 0 (fun x hx => h x (by simpa using hx)) (by omega) (by rw [List.length_reverse]; omega)]
    simp [List.sum_reverse]

/-- A counter and a slice of small numbers that grows, as a loop's head has them. -/
def SomeHead (w : World) (m : Nat) (v i : Value) (wr : World) : Prop := ∃ (k : Nat) (xs : List Int), k ≤ m ∧ i = .int .i64 k ∧ xs.length = k ∧ Few xs ∧ Own wr w.heap.size v xs ∧ Below w.heap.size w wr

/-- .. and the slice of them from the last one on. -/
def BackHead (w : World) (xs : List Int) (v i : Value) (wr : World) : Prop := ∃ k : Nat, k ≤ xs.length ∧ i = .int .i64 k ∧ Own wr w.heap.size v (xs.reverse.take k) ∧ Below w.heap.size w wr

theorem take_back (xs : List Int) (k : Nat) (h : k < xs.length) : xs.reverse.take (k + 1) = xs.reverse.take k ++ [xs.getD (xs.length - 1 - k) 0] := by
  rw [List.take_succ_eq_append_getElem (by simpa using h)]
  congr 1
  simp [List.getElem_reverse, List.getD_eq_getElem?_getD, show xs.length - 1 - k < xs.length by omega]

set_option maxRecDepth 100000 in
set_option maxHeartbeats 1000000 in
theorem back_any (A : Option Addr) (cap : Nat) (zs : List Int) (a b : Int) (w : World) (h : Ints w w.heap.size A zs) (_hm : zs.length ≤ maxLen) (hcap : zs.length ≤ cap) :
    Calls Try.prog 7 #[.int .i64 a, .int .i64 b, .slice A zs.length cap] w fun e w' => e = .returned (.bool true) ∧ Below w.heap.size w w' := by
  obtain ⟨i0, hi0, hz0, hz1, hz2⟩ := info_parts info3
  unfold maxLen at _hm
  have hx := run_max0
  have hn := run_min30
  have hc := cutN_le 30 zs.length
  have H := Lib.hid h
  clear h
  go_enter Try.func7, Try.ntmps7
  go_upto_if 31 with (go_at_call 12; refine (add_any _ _ _).mono ?_; rintro e w' ⟨rfl, rfl⟩)
  go_cut [] (fun wx => w = wx)
  case first =>
    cases h : addOk a b
    · have e1 : (addE a b == 0) = false := by rw [addE_no h]; rfl
      clear h
      go_wp2_with fail
      go_meet
      rfl
    · have e1 : (addE a b == 0) = true := by rw [addE_yes h]; rfl
      obtain ⟨e2, e3⟩ := back_add h
      clear h
      go_wp2_with (go_at_call 13; refine (sub_any _ _ _).mono ?_; rintro e w' ⟨rfl, rfl⟩)
      go_meet
      rfl
  case rest =>
    obtain rfl := hcut
    go_upto_if 52 with (go_at_call 13; refine (sub_any _ _ _).mono ?_; rintro e w' ⟨rfl, rfl⟩)
    go_cut [] (fun wx => w = wx)
    case first =>
      cases h : subOk a b
      · have e1 : (subE a b == 0) = false := by simp [subE, h]
        clear h
        go_wp2_with fail
        go_meet
        rfl
      · have e1 : (subE a b == 0) = true := by simp [subE, h]
        obtain ⟨e2, e3⟩ := back_sub h
        clear h
        go_wp2_with (go_at_call 12; refine (add_any _ _ _).mono ?_; rintro e w' ⟨rfl, rfl⟩)
        go_meet
        rfl
    case rest =>
      obtain rfl := hcut
      go_wp2_with fail
      go_loopw [15, 72] (fun v i wr => SomeHead w (cutN 30 zs.length) v i wr) (fun _ i _ => cutN 30 zs.length - (intOf i).toNat)
      case atStart => exact ⟨0, [], by omega, rfl, rfl, fun _ h => by simp at h, Own.nil _ _, Below.refl _ _⟩
      case round =>
        obtain ⟨k, xs, hk, rfl, hl, hfew, hown, hbel⟩ := hrel
        by_cases hlt : k < cutN 30 zs.length
        · obtain ⟨b, off, rfl, hb, hcell⟩ := (H.out.below hbel).at (show k < zs.length by omega)
          generalize zs.getD k 0 = x at hcell
          have hkb : decide (k < cutN 30 zs.length) = true := decide_eq_true hlt
          have HL := Lib.hid hl
          have HF := Lib.hid hfew
          have HOWN := Lib.hid hown
          have HB := Lib.hid hbel
          have hs := hbel.size
          have hle : xs.length ≤ 30 := by omega
          have hp := pos_nn x
          clear hl hown hbel hfew
          go_wp2_with (at_builtin; refine wpList_append_own _ rfl _ _ 22 rfl w.heap.size 3 i0 (.int .i64 0) 1 8 Try.underlying22 hi0 hz0 hz1 hz2 rfl (by decide) _ _ _ rfl (HOWN.out.alloc _) ⟨wr.heap.size, 0, none⟩ 1 1 [.int .i64 (pos x % 70000000000000)] rfl rfl (one_new _ _ _) (by simp [Value.oneCell']) (by unfold maxLen; omega) (by omega) (by simp; omega) ?_; intro v' w1 hown' hgrow _)
          go_roundw
          case rel => exact ⟨k + 1, xs ++ [pos x % 70000000000000], by omega, by go_num, by simp [HL.out], HF.out.push (by omega) (by omega), Own.push hown', (HB.out.alloc hs _).grown hgrow (by simp; omega) HOWN.out.row⟩
          case measure => simp [intOf]; omega
        · obtain ⟨A', c', rfl, hc', hints⟩ := hown.ints
          have hs := hbel.size
          have HB := Lib.hid hbel
          have HI := Lib.hid hints
          have HF := Lib.hid hfew
          have hle : xs.length ≤ 30 := by omega
          have hkb : decide (k < cutN 30 zs.length) = false := decide_eq_false hlt
          clear hints hbel hown hl hfew
          go_wp2_with fail
          obtain ⟨w2, rfl⟩ : ∃ w2, w2 = wr := ⟨_, rfl⟩
          go_loopw [16, 85] (fun v i wx => BackHead w2 xs v i wx) (fun _ i _ => xs.length - (intOf i).toNat)
          case atStart => exact ⟨0, by omega, rfl, Own.nil _ _, Below.refl _ _⟩
          case round =>
            obtain ⟨j, hj, rfl, hown, hbel⟩ := hrel
            by_cases hjt : j < xs.length
            · obtain ⟨b, off, rfl, hb, hcell⟩ := (HI.out.below hbel).at (show xs.length - 1 - j < xs.length by omega)
              have htb := Lib.hid (take_back xs j hjt)
              generalize hy : xs.getD (xs.length - 1 - j) 0 = y at hcell htb
              have hjb : decide (j < xs.length) = true := decide_eq_true hjt
              have HOWN := Lib.hid hown
              have HB2 := Lib.hid hbel
              have hs2 := hbel.size
              have hl2 : (xs.reverse.take j).length = j := by simp; omega
              have hjle : (xs.reverse.take j).length ≤ 30 := by omega
              generalize hR : xs.reverse.take j = R at hown hl2 hjle HOWN htb
              have i1 : (0 : Int) ≤ (xs.length : Int) - 1 - (j : Int) := by omega
              have i2 : (xs.length : Int) - 1 - (j : Int) < (xs.length : Int) := by omega
              clear hown hbel hy hR hl2
              go_wp2_with (at_builtin; refine wpList_append_own _ rfl _ _ 22 rfl w2.heap.size 3 i0 (.int .i64 0) 1 8 Try.underlying22 hi0 hz0 hz1 hz2 rfl (by decide) _ _ _ rfl (HOWN.out.alloc _) ⟨wr.heap.size, 0, none⟩ 1 1 [.int .i64 y] rfl rfl (one_new _ _ _) (by simp [Value.oneCell']) (by unfold maxLen; omega) (by omega) (by simp; omega) ?_; intro v' w1 hown' hgrow _)
              go_roundw
              case rel => exact ⟨j + 1, by omega, by go_num, by rw [htb.out]; exact Own.push hown', (HB2.out.alloc hs2 _).grown hgrow (by simp; omega) HOWN.out.row⟩
              case measure => simp [intOf]; omega
            · obtain ⟨A2, c2, rfl, hc2, hints2⟩ := hown.ints
              have e0 : xs.reverse.take j = xs.reverse := List.take_of_length_le (by simp; omega)
              rw [e0] at hints2
              have hs2 := hbel.size
              have HI2 := Lib.hid hints2
              have HI1 := Lib.hid (HI.out.below hbel)
              have HB2 := Lib.hid (HB.out.trans (hbel.mono hs))
              have hjb : decide (j < xs.length) = false := decide_eq_false hjt
              have M1 := Lib.hid (show xs.length ≤ maxLen by unfold maxLen; omega)
              have M2 := Lib.hid (show xs.reverse.length ≤ maxLen by rw [List.length_reverse]; unfold maxLen; omega)
              obtain ⟨f1, f2⟩ := sum_back xs HF.out hle
              have k1 := sum_any A' c' _ xs wr HI1.out M1.out
              have k2 := sum_any A2 c2 _ xs.reverse wr HI2.out M2.out
              rw [List.length_reverse, f2] at k2
              rw [f1] at k1
              have K1 := Lib.hid k1
              have K2 := Lib.hid k2
              rw [e0, List.length_reverse]
              clear hints2 hown hbel e0 k1 k2 f1 f2
              go_wp2_with fail
              refine K1.out.mono ?_
              rintro e w' ⟨rfl, rfl⟩
              go_wp2_with fail
              refine K2.out.mono ?_
              rintro e w' ⟨rfl, rfl⟩
              go_wp2_with fail
              refine (wakes_any _).mono ?_
              rintro e w' ⟨rfl, n3, rfl⟩
              go_wp2_with fail
              go_ret
              exact ⟨rfl, below_drewN HB2.out _⟩
end Go.Proofs.Ytndjbobgccpdfaa
