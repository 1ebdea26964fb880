/-
  What is got where a number's bytes stand.
-/
import Derived.Test.YtmdifblaloalpaaRget
namespace Go.Proofs.Ytmdifblaloalpaa
open Go.RowKit

theorem part_drop {s : ByteArray} {a k : Nat} {l r : List Int} (h : (nums s).drop a = l ++ r) (hk : l.length = k) : part s a k = l := by
  unfold part
  rw [h, List.take_append_of_le_length (by omega), List.take_of_length_le (by omega)]
theorem drop_size {s : ByteArray} {a : Nat} {l r : List Int} (h : (nums s).drop a = l ++ r) (hl : 1 ≤ l.length) : a + l.length + r.length = s.size := by
  have := congrArg List.length h
  rw [List.length_drop, nums_length, List.length_append] at this
  omega
theorem drop_one {s : ByteArray} {a : Nat} {b : Int} {l r : List Int} (h : (nums s).drop a = b :: l ++ r) : (nums s).drop (a + 1) = l ++ r := by
  rw [← List.drop_drop, h]
  rfl
theorem fst_drop {s : ByteArray} {a : Nat} {b : Int} {r : List Int} (h : (nums s).drop a = b :: r) : fst s a = b := by
  have hs := drop_size (l := [b]) (r := r) h (by simp)
  simp at hs
  have e := part_one s a (by omega)
  rw [part_drop (k := 1) (l := [b]) (r := r) h rfl] at e
  simpa using e.symm

/-- At a place where a number's bytes stand: the number, the place behind it, and no error. -/
theorem got_drop (s : ByteArray) (a : Nat) (n : Int) (r : List Int) (h0 : 0 ≤ n) (h1 : n < 18446744073709551616) (h : (nums s).drop a = vlist n ++ r) :
    gotE s a = 0 ∧ gotN s a = n ∧ gotT s a = a + vlen n := by
  have hs := drop_size h (by rw [vlist_length]; exact (vlen_pos n).1)
  rw [vlist_length] at hs
  have key : body s a = n ∧ (vlen n : Int) = 1 + wid (fst s a) := by
    unfold vlist at h
    unfold vlen at hs ⊢
    by_cases c1 : n < 253
    · rw [if_pos c1] at h hs ⊢
      have e : fst s a = n := (fst_drop (b := n % 256) h).trans (by omega)
      rw [body_less (by omega), e]
      exact ⟨rfl, by simp [wid, c1]⟩
    rw [if_neg c1] at h hs ⊢
    by_cases c2 : n < 65536
    · rw [if_pos c2] at h hs ⊢
      have e : fst s a = 253 := fst_drop h
      have e2 : part s (a + 1) 2 = digs n 2 := part_drop (drop_one h) (digs_length _ _)
      rw [body_more (by omega), e]
      refine ⟨?_, rfl⟩
      refine (getN_yes (s := s) (a := a + 1) (k := 2) (by decide) (by omega)).trans ?_
      rw [e2, num_digs]
      simp
      omega
    rw [if_neg c2] at h hs ⊢
    by_cases c3 : n < 4294967296
    · rw [if_pos c3] at h hs ⊢
      have e : fst s a = 254 := fst_drop h
      have e2 : part s (a + 1) 4 = digs n 4 := part_drop (drop_one h) (digs_length _ _)
      rw [body_more (by omega), e]
      refine ⟨?_, rfl⟩
      refine (getN_yes (s := s) (a := a + 1) (k := 4) (by decide) (by omega)).trans ?_
      rw [e2, num_digs]
      simp
      omega
    rw [if_neg c3] at h hs ⊢
    have e : fst s a = 255 := fst_drop h
    have e2 : part s (a + 1) 8 = digs n 8 := part_drop (drop_one h) (digs_length _ _)
    rw [body_more (by omega), e]
    refine ⟨?_, rfl⟩
    refine (getN_yes (s := s) (a := a + 1) (k := 8) (by decide) (by omega)).trans ?_
    rw [e2, num_digs]
    simp
    omega
  obtain ⟨k1, k2⟩ := key
  have hE : gotE s a = 0 := gotE_ok (by omega) (by omega) (by rw [k1]; exact k2)
  refine ⟨hE, ?_, ?_⟩
  · rw [gotN, if_pos hE, k1]
  · rw [gotT, if_pos hE]
    omega

theorem drop_mid (a b : ByteArray) (n : Int) : (nums (a ++ vstr n ++ b)).drop a.size = vlist n ++ nums b := by
  rw [nums_append, nums_append, vstr_nums, List.append_assoc, List.drop_append_of_le_length (by rw [nums_length]; exact Nat.le_refl _), List.drop_of_length_le (by rw [nums_length]; exact Nat.le_refl _), List.nil_append]

/-- What was put is got again, between any two texts. -/
theorem vget_mid (a b : ByteArray) (n : Int) (w : World) (h0 : 0 ≤ n) (h1 : n < 18446744073709551616) (ha : a.size ≤ 140737488351232) (hb : b.size ≤ 140737488351232) :
    Calls Try.prog 8 #[.string (a ++ vstr n ++ b), .int .i64 a.size] w fun e w' => e = .returned (.tuple #[.int .u64 n, .int .i64 (a.size + vlen n), .int .i64 0]) ∧ Below w.heap.size w w' := by
  obtain ⟨e1, e2, e3⟩ := got_drop _ _ n _ h0 h1 (drop_mid a b n)
  refine (vget_any _ _ w ?_).mono fun _ _ ⟨he, hw⟩ => ⟨he.trans (ret_nnn e2 e3 e1), hw⟩
  have := vlen_pos n
  rw [ByteArray.size_append, ByteArray.size_append, vstr_size]
  omega

theorem put_252 (w : World) : Calls Try.prog 7 #[.int .u64 252] w fun e w' => e = .returned (.string ⟨#[252]⟩) ∧ Below w.heap.size w w' :=
  (vput_any 252 w (by decide) (by decide)).mono fun _ _ ⟨he, hw⟩ => ⟨he.trans (ret_str (by decide)), hw⟩
theorem put_253 (w : World) : Calls Try.prog 7 #[.int .u64 253] w fun e w' => e = .returned (.string ⟨#[253, 253, 0]⟩) ∧ Below w.heap.size w w' :=
  (vput_any 253 w (by decide) (by decide)).mono fun _ _ ⟨he, hw⟩ => ⟨he.trans (ret_str (by decide)), hw⟩
theorem get_253 (w : World) : Calls Try.prog 8 #[.string ⟨#[253, 253, 0]⟩, .int .i64 0] w fun e w' => e = .returned (.tuple #[.int .u64 253, .int .i64 3, .int .i64 0]) ∧ Below w.heap.size w w' :=
  (vget_any ⟨#[253, 253, 0]⟩ 0 w (by decide)).mono fun _ _ ⟨he, hw⟩ => ⟨he.trans (ret_nnn (by decide) (by decide) (by decide)), hw⟩
theorem get_252 (w : World) : Calls Try.prog 8 #[.string ⟨#[253, 252, 0]⟩, .int .i64 0] w fun e w' => e = .returned (.tuple #[.int .u64 0, .int .i64 0, .int .i64 4]) ∧ Below w.heap.size w w' :=
  (vget_any ⟨#[253, 252, 0]⟩ 0 w (by decide)).mono fun _ _ ⟨he, hw⟩ => ⟨he.trans (ret_nnn (by decide) (by decide) (by decide)), hw⟩

set_option maxHeartbeats 1000000 in
theorem wakes_any (w : World) : Calls Try.prog 9 #[] w fun e w' => e = .returned (.bool true) ∧ Below w.heap.size w w' := by
  go_enter Try.func9, Try.ntmps9
  go_wp2_with fail
  refine (get_253 w).mono ?_
  rintro e w1 ⟨rfl, hB1⟩
  go_wp2_with fail
  refine (get_252 w1).mono ?_
  rintro e w2 ⟨rfl, hB2⟩
  go_wp2_with fail
  refine (put_252 w2).mono ?_
  rintro e w3 ⟨rfl, hB3⟩
  go_wp2_with fail
  refine (put_253 w3).mono ?_
  rintro e w4 ⟨rfl, hB4⟩
  go_wp2_with fail
  go_ret
  exact ⟨rfl, ((hB1.trans (hB2.mono hB1.size)).trans (hB3.mono (Nat.le_trans hB1.size hB2.size))).trans (hB4.mono (Nat.le_trans (Nat.le_trans hB1.size hB2.size) hB3.size))⟩
end Go.Proofs.Ytmdifblaloalpaa
