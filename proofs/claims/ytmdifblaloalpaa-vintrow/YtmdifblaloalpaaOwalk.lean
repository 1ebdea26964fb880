/-
  The statement VintOne, walked.
-/
import Derived.Test.YtmdifblaloalpaaGwalk
import Derived.Deep.RegionHeld3
namespace Go.Proofs.Ytmdifblaloalpaa
open Go.RowKit

/-- The lesser and the greater of two. -/
def lo (a b : Int) : Int := if a ≤ b then a else b
def hi (a b : Int) : Int := if a ≤ b then b else a
theorem run_lo (w : World) (ts : Array TypeId) (t : TypeId) (a b : Int) : (Builtin.min_ ts t #[.int .u64 a, .int .u64 b]).run Try.prog w = .ok (.int .u64 (lo a b)) w := by
  rw [run_min_int2 w ts t .u64 .u64 a b]
  congr 2
  unfold lo
  (repeat' split) <;> omega
theorem run_hi (w : World) (ts : Array TypeId) (t : TypeId) (a b : Int) : (Builtin.max_ ts t #[.int .u64 a, .int .u64 b]).run Try.prog w = .ok (.int .u64 (hi a b)) w := by
  rw [run_max_int2 w ts t .u64 .u64 a b]
  congr 2
  unfold hi
  (repeat' split) <;> omega

/-- Of two numbers neither's text begins with the other one's. -/
theorem vstr_head {x y : Int} (x0 : 0 ≤ x) (x1 : x < 18446744073709551616) (y0 : 0 ≤ y) (y1 : y < 18446744073709551616) (h : vstr x = (vstr y).extract 0 (vlen x)) : x = y := by
  have e := extract_part (vstr y) 0 (vlen x)
  rw [Nat.zero_add, ← h] at e
  have e2 := congrArg nums e
  rw [vstr_nums, nums_strOfNums _ (part_bd _ _ _)] at e2
  unfold part at e2
  have e3 : (nums (vstr y)).drop 0 = vlist x ++ ((nums (vstr y)).drop 0).drop (vlen x) := by rw [e2, List.take_append_drop]
  have g1 := (got_drop (vstr y) 0 x _ x0 x1 e3).2.1
  have g2 := (got_drop (vstr y) 0 y [] y0 y1 (by rw [vstr_nums, List.append_nil]; rfl)).2.1
  exact g1.symm.trans g2
theorem vstr_inj {x y : Int} (x0 : 0 ≤ x) (x1 : x < 18446744073709551616) (y0 : 0 ≤ y) (y1 : y < 18446744073709551616) (h : vstr x = vstr y) : x = y := by
  refine vstr_head x0 x1 y0 y1 ?_
  rw [← vstr_size x, h]
  refine nums_inj ?_
  unfold nums
  rw [ByteArray.data_extract]
  simp
  rw [List.take_of_length_le (by simp)]

/-- What is got at the beginning, put again, is what stood there. -/
theorem got_first (s : ByteArray) (h : gotE s 0 = 0) : ∃ t : Int, gotT s 0 = t ∧ 1 ≤ t ∧ t ≤ s.size ∧ vstr (gotN s 0) = s.extract 0 t.toNat ∧ 0 ≤ gotN s 0 ∧ gotN s 0 < 18446744073709551616 := by
  have hw := wid_nn (fst s 0)
  obtain ⟨k, ek⟩ := Int.eq_ofNat_of_zero_le hw.1
  have hT : gotT s 0 = 0 + 1 + wid (fst s 0) := by rw [gotT, if_pos h]
  have hN : gotN s 0 = body s 0 := by rw [gotN, if_pos h]
  have h' := h
  unfold gotE at h'
  split at h'
  · omega
  split at h'
  · omega
  split at h'
  · omega
  split at h'
  · rename_i c1 c2 c3 c4
    refine ⟨1 + k, by omega, by omega, by omega, ?_, ?_⟩
    · rw [hN]
      have := vstr_at s 0 k (by omega) ek.symm c4
      rw [Nat.zero_add] at this
      exact this
    · rw [hN]
      exact body_bd s 0 (by omega)
  · omega

theorem vget_first (s : ByteArray) (w : World) (hs : s.size ≤ 140737488351232) (n t : Int) (e0 : Int) (h1 : gotN s 0 = n) (h2 : gotT s 0 = t) (h3 : gotE s 0 = e0) :
    Calls Try.prog 8 #[.string s, .int .i64 0] w fun e w' => e = .returned (.tuple #[.int .u64 n, .int .i64 t, .int .i64 e0]) ∧ Below w.heap.size w w' :=
  (vget_any s 0 w (by omega)).mono fun _ _ ⟨he, hw⟩ => ⟨he.trans (ret_nnn h1 h2 h3), hw⟩
theorem vput_str (n : Int) (t : ByteArray) (w : World) (h0 : 0 ≤ n) (h1 : n < 18446744073709551616) (ht : vstr n = t) :
    Calls Try.prog 7 #[.int .u64 n] w fun e w' => e = .returned (.string t) ∧ Below w.heap.size w w' :=
  (vput_any n w h0 h1).mono fun _ _ ⟨he, hw⟩ => ⟨he.trans (ret_str ht), hw⟩

/-- What the walk needs of two numbers' texts. -/
structure Pair (a b p q : Int) (x y : ByteArray) : Prop where
  hmin : ∀ (w : World) (ts : Array TypeId) (t : TypeId), (Builtin.min_ ts t #[.int .u64 a, .int .u64 b]).run Try.prog w = .ok (.int .u64 p) w
  hmax : ∀ (w : World) (ts : Array TypeId) (t : TypeId), (Builtin.max_ ts t #[.int .u64 a, .int .u64 b]).run Try.prog w = .ok (.int .u64 q) w
  p0 : 0 ≤ p
  p1 : p < 18446744073709551616
  q0 : 0 ≤ q
  q1 : q < 18446744073709551616
  hx : vstr p = x
  hy : vstr q = y
  le : x.size ≤ y.size
  one : 1 ≤ x.size
  nine : y.size ≤ 9
  same : a = b → x = y
  apart : a ≠ b → (x.toList == y.toList) = false ∧ (x.toList == (y.extract 0 x.size).toList) = false

theorem pair_of (a b : Int) (a0 : 0 ≤ a) (a1 : a < 18446744073709551616) (b0 : 0 ≤ b) (b1 : b < 18446744073709551616) : ∃ p q x y, Pair a b p q x y := by
  have hlo : (lo a b = a ∧ hi a b = b ∧ a ≤ b) ∨ (lo a b = b ∧ hi a b = a ∧ b ≤ a) := by unfold lo hi; split <;> omega
  have hle : lo a b ≤ hi a b := by omega
  refine ⟨lo a b, hi a b, vstr (lo a b), vstr (hi a b), fun w ts t => run_lo w ts t a b, fun w ts t => run_hi w ts t a b, by omega, by omega, by omega, by omega, rfl, rfl, ?_, ?_, ?_, ?_, ?_⟩
  · rw [vstr_size, vstr_size]; exact vlen_mono hle
  · rw [vstr_size]; exact (vlen_pos _).1
  · rw [vstr_size]; exact (vlen_pos _).2
  · intro e; rw [show lo a b = hi a b by omega]
  · intro e
    have hne : lo a b ≠ hi a b := by omega
    refine ⟨bytes_ne fun h => hne (vstr_inj (by omega) (by omega) (by omega) (by omega) h), bytes_ne fun h => hne (vstr_head (by omega) (by omega) (by omega) (by omega) ?_)⟩
    rw [vstr_size] at h
    exact h

set_option maxHeartbeats 1000000 in
theorem one_ok (s : ByteArray) (a b : Int) (w : World) (hs : s.size ≤ 140737488351232) (n t p q : Int) (x y : ByteArray) (HE : Hid (gotE s 0 = 0)) (HT : Hid (gotT s 0 = t)) (HN : Hid (gotN s 0 = n))
    (HV : Hid (vstr n = s.extract 0 t.toNat)) (t1 : 1 ≤ t) (t2 : t ≤ s.size) (n0 : 0 ≤ n) (n1 : n < 18446744073709551616) (hp : Pair a b p q x y) :
    Calls Try.prog 5 #[.string s, .int .u64 a, .int .u64 b] w fun e w' => e = .returned (.bool true) ∧ Below w.heap.size w w' := by
  obtain ⟨hmin, hmax, p0, p1, q0, q1, hx, hy, hle, hone, hnine, hsame, hap⟩ := hp
  have HX := Lib.hid hx
  have HY := Lib.hid hy
  clear hx hy
  have d1 : decide ((s.size : Int) < t) = false := by simp; omega
  have d2 : decide (t < 1) = false := by simp; omega
  have t0 : 0 ≤ t := by omega
  by_cases hab : a = b
  · obtain rfl := hsame hab
    subst hab
    clear hap hsame
    go_enter Try.func5, Try.ntmps5
    go_wp2_with fail
    refine (vget_first s w hs n t 0 HN.out HT.out HE.out).mono ?_
    rintro e w1 ⟨rfl, hB1⟩
    go_wp2_with fail
    go_region_held3 (fun _ => True) (trivial) (first | (go_at_call 7; refine (vput_str n _ _ n0 n1 HV.out).mono ?_; rintro e w2 ⟨rfl, hB2⟩))
    have HB := Lib.hid (hB1.drew.trans (hB2.mono (by have := hB1.size; simp; exact this)))
    clear hB1 hB2
    go_wp2_with fail
    refine (vput_str p _ _ p0 p1 HX.out).mono ?_
    rintro e w3 ⟨rfl, hB3⟩
    go_wp2_with fail
    refine (vput_str q _ _ q0 q1 HY.out).mono ?_
    rintro e w4 ⟨rfl, hB4⟩
    have HB4 := Lib.hid ((HB.out.trans (hB3.mono HB.out.size)).trans (hB4.mono (Nat.le_trans HB.out.size hB3.size)))
    clear hB3 hB4
    go_wp2_with fail
    refine (wakes_any w4).mono ?_
    rintro e w5 ⟨rfl, hB5⟩
    go_wp2_with fail
    go_ret
    exact ⟨rfl, HB4.out.trans (hB5.mono HB4.out.size)⟩
  · obtain ⟨f1, f2⟩ := hap hab
    have f0 : (a == b) = false := by simpa using hab
    clear hap hsame hab
    obtain ⟨m, hm⟩ : ∃ m, x.size = m := ⟨_, rfl⟩
    obtain ⟨k, hk⟩ : ∃ k, y.size = k := ⟨_, rfl⟩
    rw [hm] at hle hone f2
    rw [hk] at hle hnine
    go_enter Try.func5, Try.ntmps5
    go_wp2_with fail
    refine (vget_first s w hs n t 0 HN.out HT.out HE.out).mono ?_
    rintro e w1 ⟨rfl, hB1⟩
    go_wp2_with fail
    go_region_held3 (fun _ => True) (trivial) (first | (go_at_call 7; refine (vput_str n _ _ n0 n1 HV.out).mono ?_; rintro e w2 ⟨rfl, hB2⟩))
    have HB := Lib.hid (hB1.drew.trans (hB2.mono (by have := hB1.size; simp; exact this)))
    clear hB1 hB2
    go_wp2_with fail
    refine (vput_str p _ _ p0 p1 HX.out).mono ?_
    rintro e w3 ⟨rfl, hB3⟩
    go_wp2_with fail
    refine (vput_str q _ _ q0 q1 HY.out).mono ?_
    rintro e w4 ⟨rfl, hB4⟩
    have HB4 := Lib.hid ((HB.out.trans (hB3.mono HB.out.size)).trans (hB4.mono (Nat.le_trans HB.out.size hB3.size)))
    clear hB3 hB4
    go_wp2_with fail
    refine (wakes_any w4).mono ?_
    rintro e w5 ⟨rfl, hB5⟩
    go_wp2_with fail
    go_ret
    exact ⟨rfl, HB4.out.trans (hB5.mono HB4.out.size)⟩

set_option maxHeartbeats 1000000 in
theorem one_no (s : ByteArray) (a b : Int) (w : World) (hs : s.size ≤ 140737488351232) (n t c p q : Int) (x y : ByteArray) (HE : Hid (gotE s 0 = c)) (HT : Hid (gotT s 0 = t)) (HN : Hid (gotN s 0 = n))
    (hc : (c == 0) = false) (hp : Pair a b p q x y) :
    Calls Try.prog 5 #[.string s, .int .u64 a, .int .u64 b] w fun e w' => e = .returned (.bool true) ∧ Below w.heap.size w w' := by
  obtain ⟨hmin, hmax, p0, p1, q0, q1, hx, hy, hle, hone, hnine, hsame, hap⟩ := hp
  have HX := Lib.hid hx
  have HY := Lib.hid hy
  clear hx hy
  by_cases hab : a = b
  · obtain rfl := hsame hab
    subst hab
    clear hap hsame
    go_enter Try.func5, Try.ntmps5
    go_wp2_with fail
    refine (vget_first s w hs n t c HN.out HT.out HE.out).mono ?_
    rintro e w1 ⟨rfl, hB1⟩
    go_wp2_with fail
    go_quiet (fail)
    have HB := Lib.hid (below_drewN hB1 nq)
    go_wp2_with fail
    refine (vput_str p _ _ p0 p1 HX.out).mono ?_
    rintro e w3 ⟨rfl, hB3⟩
    go_wp2_with fail
    refine (vput_str q _ _ q0 q1 HY.out).mono ?_
    rintro e w4 ⟨rfl, hB4⟩
    have HB4 := Lib.hid ((HB.out.trans (hB3.mono HB.out.size)).trans (hB4.mono (Nat.le_trans HB.out.size hB3.size)))
    clear hB3 hB4
    go_wp2_with fail
    refine (wakes_any w4).mono ?_
    rintro e w5 ⟨rfl, hB5⟩
    go_wp2_with fail
    go_ret
    exact ⟨rfl, HB4.out.trans (hB5.mono HB4.out.size)⟩
  · obtain ⟨f1, f2⟩ := hap hab
    have f0 : (a == b) = false := by simpa using hab
    clear hap hsame hab
    obtain ⟨m, hm⟩ : ∃ m, x.size = m := ⟨_, rfl⟩
    obtain ⟨k, hk⟩ : ∃ k, y.size = k := ⟨_, rfl⟩
    rw [hm] at hle hone f2
    rw [hk] at hle hnine
    go_enter Try.func5, Try.ntmps5
    go_wp2_with fail
    refine (vget_first s w hs n t c HN.out HT.out HE.out).mono ?_
    rintro e w1 ⟨rfl, hB1⟩
    go_wp2_with fail
    go_quiet (fail)
    have HB := Lib.hid (below_drewN hB1 nq)
    go_wp2_with fail
    refine (vput_str p _ _ p0 p1 HX.out).mono ?_
    rintro e w3 ⟨rfl, hB3⟩
    go_wp2_with fail
    refine (vput_str q _ _ q0 q1 HY.out).mono ?_
    rintro e w4 ⟨rfl, hB4⟩
    have HB4 := Lib.hid ((HB.out.trans (hB3.mono HB.out.size)).trans (hB4.mono (Nat.le_trans HB.out.size hB3.size)))
    clear hB3 hB4
    go_wp2_with fail
    refine (wakes_any w4).mono ?_
    rintro e w5 ⟨rfl, hB5⟩
    go_wp2_with fail
    go_ret
    exact ⟨rfl, HB4.out.trans (hB5.mono HB4.out.size)⟩

theorem one_any (s : ByteArray) (a b : Int) (w : World) (hs : s.size ≤ 140737488351232) (a0 : 0 ≤ a) (a1 : a < 18446744073709551616) (b0 : 0 ≤ b) (b1 : b < 18446744073709551616) :
    Calls Try.prog 5 #[.string s, .int .u64 a, .int .u64 b] w fun e w' => e = .returned (.bool true) ∧ Below w.heap.size w w' := by
  obtain ⟨p, q, x, y, hp⟩ := pair_of a b a0 a1 b0 b1
  by_cases hE : gotE s 0 = 0
  · obtain ⟨t, hT, t1, t2, hV, n0, n1⟩ := got_first s hE
    exact one_ok s a b w hs _ t p q x y hE hT rfl hV t1 t2 n0 n1 hp
  · exact one_no s a b w hs _ _ _ p q x y rfl rfl rfl (by simpa using hE) hp
end Go.Proofs.Ytmdifblaloalpaa
