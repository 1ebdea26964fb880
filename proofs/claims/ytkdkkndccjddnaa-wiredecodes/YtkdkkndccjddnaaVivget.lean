/-
  Numbers got: the program's Get.
  Numbers got: the document's Get.
-/
import Derived.Test.YtkdkkndccjddnaaViput
import Derived.OwnWalk

namespace Go.Proofs.Ytkdkkndccjddnaa.Vi
open Go.RowKit

theorem get_is (s : ByteArray) (a k n : Int) (o : Bool) (w : World) (hs : s.size ≤ maxLen) (hn : getN s a k = n) (ho : okB s a k = o) :
    Calls Try.prog 73 #[.string s, .int .i64 a, .int .i64 k] w fun e w' => e = .returned (.tuple #[.int .u64 n, .bool o]) ∧ w = w' :=
  (get_any s a k w hs).mono fun _ _ ⟨he, hw⟩ => ⟨he.trans (ret_nb hn ho), hw⟩
theorem rget_is (s : ByteArray) (a k n : Int) (o : Bool) (w : World) (hs : s.size ≤ maxLen) (hn : getN s a k = n) (ho : okB s a k = o) :
    Calls Try.prog 59 #[.string s, .int .i64 a, .int .i64 k] w fun e w' => e = .returned (.tuple #[.int .u64 n, .bool o]) ∧ w = w' :=
  (rget_any s a k w hs).mono fun _ _ ⟨he, hw⟩ => ⟨he.trans (ret_nb hn ho), hw⟩

theorem okB_one {s : ByteArray} {a : Nat} (h : a < s.size) : okB s a 1 = true := okB_yes (k := 1) (by decide) (by omega)
theorem behind_is (b k : Int) (w : World) (h : ¬ b < 253) (hk : wid b = k) : Calls Try.prog 96 #[.int .u64 b] w fun e w' => e = .returned (.int .i64 k) ∧ w = w' :=
  (behind_any b w h).mono fun _ _ ⟨he, hw⟩ => ⟨he.trans (ret_int hk), hw⟩
theorem vput_is (n : Int) (m : Nat) (w : World) (h0 : 0 ≤ n) (h1 : n < 18446744073709551616) (hm : vlen n = m) :
    Calls Try.prog 64 #[.int .u64 n] w fun e w' => (∃ t : ByteArray, t.size = m ∧ e = .returned (.string t)) ∧ Below w.heap.size w w' :=
  (vput_any n w h0 h1).mono fun _ _ ⟨he, hw⟩ => ⟨⟨vstr n, (vstr_size n).trans hm, he⟩, hw⟩

set_option maxHeartbeats 1000000 in
theorem vget_any (s : ByteArray) (a : Int) (w : World) (hs : s.size ≤ 422212465065984) : Calls Try.prog 92 #[.string s, .int .i64 a] w (GotEnd s a w) := by
  have hm : s.size ≤ maxLen := by unfold maxLen; omega
  by_cases h1 : a < 0
  · have H := Lib.hid (gotE_arg (s := s) (Or.inl h1))
    go_enter Try.func92, Try.ntmps92
    go_wp2_with fail
    go_ret3
    exact GotEnd.bad H.out (by decide) (Below.refl _ _)
  by_cases h2 : (s.size : Int) < a
  · have H := Lib.hid (gotE_arg (Or.inr h2))
    go_enter Try.func92, Try.ntmps92
    go_wp2_with fail
    go_ret3
    exact GotEnd.bad H.out (by decide) (Below.refl _ _)
  obtain ⟨a, rfl⟩ := Int.eq_ofNat_of_zero_le (show 0 ≤ a by omega)
  have d1 : decide ((a : Int) < 0) = false := decide_eq_false h1
  have d2 : decide ((s.size : Int) < (a : Int)) = false := decide_eq_false h2
  by_cases h3 : a = s.size
  · have H := Lib.hid (gotE_end (s := s) (a := a) (by omega))
    have ho : okB s a 1 = false := okB_far (by omega)
    have hn := getN_no ho
    have HN := Lib.hid hn
    have HO := Lib.hid ho
    clear h3 hn ho
    go_enter Try.func92, Try.ntmps92
    go_wp2_with fail
    refine (get_is s a 1 0 false w hm HN.out HO.out).mono ?_
    rintro e w' ⟨rfl, rfl⟩
    go_wp2_with fail
    go_ret3
    exact GotEnd.bad H.out (by decide) (Below.refl _ _)
  have hlt : a < s.size := by omega
  have hb := fst_bd s a hlt
  have HO := Lib.hid (okB_one hlt)
  obtain ⟨b, eb⟩ : ∃ b, fst s a = b := ⟨_, rfl⟩
  by_cases h4 : fst s a < 253
  · have ew : wid (fst s a) = 0 := by simp [wid, h4]
    have el : (vlen (body s a) : Int) = 1 + wid (fst s a) := by rw [body_less h4, ew]; simp [vlen, h4]
    have H := Lib.hid (gotE_ok (s := s) (a := a) (by omega) (by omega) el)
    have HN := Lib.hid (body_less h4)
    have HW := Lib.hid ew
    clear el ew
    rw [eb] at hb h4
    have EB := Lib.hid eb
    clear eb
    go_enter Try.func92, Try.ntmps92
    go_wp2_with fail
    refine (get_is s a 1 b true w hm EB.out HO.out).mono ?_
    rintro e w' ⟨rfl, rfl⟩
    go_wp2_with fail
    go_ret3
    exact GotEnd.ok H.out (HN.out.trans EB.out) (by rw [HW.out]; omega) (Below.refl _ _)
  have hz := szB_wid h4
  have hwb := wid_nn (fst s a)
  obtain ⟨k, ek⟩ := Int.eq_ofNat_of_zero_le hwb.1
  have hk8 : k ≤ 8 := by omega
  by_cases h5 : (s.size : Int) < a + 1 + k
  · have H := Lib.hid (gotE_short (s := s) (a := a) (by omega) (by omega) (by rw [ek]; exact h5))
    have ho : okB s (a + 1) k = false := okB_far (by omega)
    have HN2 := Lib.hid (getN_no ho)
    have HO2 := Lib.hid ho
    have EK := Lib.hid (eb ▸ ek)
    clear h5 ho hwb hz ek
    rw [eb] at hb h4
    have EB := Lib.hid eb
    clear eb
    go_enter Try.func92, Try.ntmps92
    go_wp2_with fail
    refine (get_is s a 1 b true w hm EB.out HO.out).mono ?_
    rintro e w' ⟨rfl, rfl⟩
    go_wp2_with fail
    refine (behind_is b k w (by omega) EK.out).mono ?_
    rintro e w' ⟨rfl, rfl⟩
    go_wp2_with fail
    refine (get_is s (a + 1) k 0 false w hm HN2.out HO2.out).mono ?_
    rintro e w' ⟨rfl, rfl⟩
    go_wp2_with fail
    go_ret3
    exact GotEnd.bad H.out (by decide) (Below.refl _ _)
  have hk : a + 1 + k ≤ s.size := by omega
  have hok : okB s ((a + 1 : Nat) : Int) k = true := okB_yes (a := a + 1) (by rw [← ek]; exact hz) (by omega)
  have hbody := body_more h4
  have hbb := body_bd s a hlt
  obtain ⟨n, en⟩ : ∃ n, body s a = n := ⟨_, rfl⟩
  obtain ⟨m, em⟩ : ∃ m, vlen n = m := ⟨_, rfl⟩
  have hm9 := vlen_pos n
  rw [em] at hm9
  have HN2 := Lib.hid (show getN s (a + 1) k = n by rw [← en, hbody, ek])
  have HO2 := Lib.hid (show okB s (a + 1) k = true from hok)
  have EM := Lib.hid em
  by_cases h6 : m = 1 + k
  · have H := Lib.hid (gotE_ok (s := s) (a := a) (by omega) (by rw [ek]; exact_mod_cast hk) (by rw [en, em, ek, h6]; simp))
    have HT := Lib.hid (show (a : Int) + 1 + wid (fst s a) = a + 1 + k by rw [ek])
    have EN := Lib.hid en
    have EK := Lib.hid (eb ▸ ek)
    rw [en] at hbb
    rw [eb] at hb h4
    have EB := Lib.hid eb
    subst h6
    clear hbody hok hwb hz ek en em eb h5
    go_enter Try.func92, Try.ntmps92
    go_wp2_with fail
    refine (get_is s a 1 b true w hm EB.out HO.out).mono ?_
    rintro e w' ⟨rfl, rfl⟩
    go_wp2_with fail
    refine (behind_is b k w (by omega) EK.out).mono ?_
    rintro e w' ⟨rfl, rfl⟩
    go_wp2_with fail
    refine (get_is s (a + 1) k n true w hm HN2.out HO2.out).mono ?_
    rintro e w' ⟨rfl, rfl⟩
    go_wp2_with fail
    refine (vput_is n (1 + k) w hbb.1 hbb.2 EM.out).mono ?_
    rintro e w1 ⟨⟨t, ht, rfl⟩, hB⟩
    go_wp2_with fail
    go_ret3
    exact GotEnd.ok H.out EN.out HT.out hB
  · have H := Lib.hid (gotE_form (s := s) (a := a) (by omega) (by rw [ek]; exact_mod_cast hk) (by rw [en, em, ek]; show ¬ (m : Int) = 1 + (k : Int); omega))
    have EN := Lib.hid en
    have EK := Lib.hid (eb ▸ ek)
    rw [en] at hbb
    rw [eb] at hb h4
    have EB := Lib.hid eb
    clear hbody hok hwb hz ek en em eb h5
    go_enter Try.func92, Try.ntmps92
    go_wp2_with fail
    refine (get_is s a 1 b true w hm EB.out HO.out).mono ?_
    rintro e w' ⟨rfl, rfl⟩
    go_wp2_with fail
    refine (behind_is b k w (by omega) EK.out).mono ?_
    rintro e w' ⟨rfl, rfl⟩
    go_wp2_with fail
    refine (get_is s (a + 1) k n true w hm HN2.out HO2.out).mono ?_
    rintro e w' ⟨rfl, rfl⟩
    go_wp2_with fail
    refine (vput_is n m w hbb.1 hbb.2 EM.out).mono ?_
    rintro e w1 ⟨⟨t, ht, rfl⟩, hB⟩
    go_wp2_with fail
    go_ret3
    exact GotEnd.bad H.out (by decide) hB
end Go.Proofs.Ytkdkkndccjddnaa.Vi

namespace Go.Proofs.Ytkdkkndccjddnaa.Vi
open Go.RowKit

theorem toList_inj {a b : ByteArray} (h : a.toList = b.toList) : a = b := by
  rw [Go.ByteArray.toList_eq, Go.ByteArray.toList_eq] at h
  exact ByteArray.ext (Array.ext' h)
theorem bytes_ne {a b : ByteArray} (h : a ≠ b) : (a.toList == b.toList) = false := by
  rw [Bool.eq_false_iff]
  intro e
  exact h (toList_inj (by simpa using e))

theorem rvput_is (n : Int) (t : ByteArray) (w : World) (h0 : 0 ≤ n) (h1 : n < 18446744073709551616) (ht : vstr n = t) :
    Calls Try.prog 39 #[.int .u64 n] w fun e w' => e = .returned (.string t) ∧ Below w.heap.size w w' :=
  (rvput_any n w h0 h1).mono fun _ _ ⟨he, hw⟩ => ⟨he.trans (ret_str ht), hw⟩

theorem index_fst (s : ByteArray) (a : Nat) (h : a < s.size) (w : World) :
    (Instr.index 9 (.string s) (.int .i64 (a : Int))).run Try.prog w = .ok (.int .u8 (fst s a)) w := by
  rw [run_index_string w 9 s .i64 a Try.underlying9, fst_at s a h]
  simp [h]

set_option maxHeartbeats 2000000 in
theorem rvget_any (s : ByteArray) (a : Int) (w : World) (hs : s.size ≤ 422212465065984) : Calls Try.prog 60 #[.string s, .int .i64 a] w (GotEnd s a w) := by
  have hm : s.size ≤ maxLen := by unfold maxLen; omega
  by_cases h1 : a < 0
  · have H := Lib.hid (gotE_arg (s := s) (Or.inl h1))
    go_enter Try.func60, Try.ntmps60
    go_wp2_with fail
    go_ret3
    exact GotEnd.bad H.out (by decide) (Below.refl _ _)
  by_cases h2 : (s.size : Int) < a
  · have H := Lib.hid (gotE_arg (Or.inr h2))
    go_enter Try.func60, Try.ntmps60
    go_wp2_with fail
    go_ret3
    exact GotEnd.bad H.out (by decide) (Below.refl _ _)
  obtain ⟨a, rfl⟩ := Int.eq_ofNat_of_zero_le (show 0 ≤ a by omega)
  have d1 : decide ((a : Int) < 0) = false := decide_eq_false h1
  have d2 : decide ((s.size : Int) < (a : Int)) = false := decide_eq_false h2
  by_cases h3 : a = s.size
  · have H := Lib.hid (gotE_end (s := s) (a := a) (by omega))
    have d3 : ((a : Int) == (s.size : Int)) = true := by simp; omega
    clear h3
    go_enter Try.func60, Try.ntmps60
    go_wp2_with fail
    go_ret3
    exact GotEnd.bad H.out (by decide) (Below.refl _ _)
  have d3 : ((a : Int) == (s.size : Int)) = false := by simp; omega
  have hlt : a < s.size := by omega
  have hb := fst_bd s a hlt
  have hx := index_fst s a hlt
  obtain ⟨b, eb⟩ : ∃ b, fst s a = b := ⟨_, rfl⟩
  by_cases h4 : fst s a < 253
  · have ew : wid (fst s a) = 0 := by simp [wid, h4]
    have el : (vlen (body s a) : Int) = 1 + wid (fst s a) := by rw [body_less h4, ew]; simp [vlen, h4]
    have H := Lib.hid (gotE_ok (s := s) (a := a) (by omega) (by omega) el)
    have HN := Lib.hid (body_less h4)
    have HW := Lib.hid ew
    have HV := Lib.hid (vstr_at s a 0 (by omega) (by rw [ew]; rfl) el)
    clear el ew
    rw [eb] at hb h4 hx
    have EB := Lib.hid eb
    clear eb
    have n4 : IntKind.u64.wrap b = b := IntWalk.u64_in _ (by omega)
    go_enter Try.func60, Try.ntmps60
    go_wp2_with fail
    refine (rvput_is b _ w (by omega) (by omega) (by rw [← EB.out, ← HN.out, HV.out])).mono ?_
    rintro e w1 ⟨rfl, hB⟩
    go_wp2_with fail
    go_ret3
    exact GotEnd.ok H.out (HN.out.trans EB.out) (by rw [HW.out]; omega) hB
  have h253 : fst s a = 253 ∨ fst s a = 254 ∨ fst s a = 255 := by omega
  clear eb b
  rcases h253 with eb | eb | eb
  · have ek : wid (fst s a) = (2 : Nat) := by rw [eb]; rfl
    have hz : ¬ fst s a < 253 := by omega
    by_cases h5 : (s.size : Int) < a + 1 + 2
    · have H := Lib.hid (gotE_short (s := s) (a := a) (by omega) (by omega) (by rw [ek]; exact h5))
      rw [eb] at hx
      clear hb h4 hz ek eb
      go_enter Try.func60, Try.ntmps60
      go_wp2_with fail
      go_ret3
      exact GotEnd.bad H.out (by decide) (Below.refl _ _)
    have hk : a + 1 + 2 ≤ s.size := by omega
    have hbody := body_more hz
    have hbb := body_bd s a hlt
    obtain ⟨n, en⟩ : ∃ n, body s a = n := ⟨_, rfl⟩
    have HN2 := Lib.hid (show getN s (a + 1) 2 = n by rw [← en, hbody, ek]; rfl)
    have HO2 := Lib.hid (show okB s (a + 1) 2 = true from okB_yes (a := a + 1) (k := 2) (by decide) (by omega))
    have n4 : IntKind.u64.wrap 253 = 253 := rfl
    by_cases h6 : (vlen (body s a) : Int) = 1 + wid (fst s a)
    · have H := Lib.hid (gotE_ok (s := s) (a := a) (by omega) (by rw [ek]; exact_mod_cast hk) h6)
      have HV := Lib.hid (vstr_at s a 2 hk ek.symm h6)
      have HT := Lib.hid (show (a : Int) + 1 + wid (fst s a) = a + 1 + 2 by rw [ek]; rfl)
      have EN := Lib.hid en
      rw [en] at hbb
      rw [eb] at hx
      clear hbody hb h4 hz ek eb en h6
      go_enter Try.func60, Try.ntmps60
      go_wp2_with fail
      refine (rget_is s (a + 1) 2 n true w hm HN2.out HO2.out).mono ?_
      rintro e w' ⟨rfl, rfl⟩
      go_wp2_with fail
      refine (rvput_is n _ w hbb.1 hbb.2 (by rw [← EN.out, HV.out])).mono ?_
      rintro e w1 ⟨rfl, hB⟩
      go_wp2_with fail
      go_ret3
      exact GotEnd.ok H.out EN.out (HT.out.trans (by omega)) hB
    · have H := Lib.hid (gotE_form (s := s) (a := a) (by omega) (by rw [ek]; exact_mod_cast hk) h6)
      have hv := vstr_not s a 2 hk ek.symm h6
      rw [en] at hbb hv
      rw [eb] at hx
      have hv2 : ((vstr n).toList == (s.extract a (a + 1 + 2)).toList) = false := bytes_ne hv
      clear hbody hb h4 hz ek eb en h6 hv
      go_enter Try.func60, Try.ntmps60
      go_wp2_with fail
      refine (rget_is s (a + 1) 2 n true w hm HN2.out HO2.out).mono ?_
      rintro e w' ⟨rfl, rfl⟩
      go_wp2_with fail
      refine (rvput_any n w hbb.1 hbb.2).mono ?_
      rintro e w1 ⟨rfl, hB⟩
      go_wp2_with fail
      go_ret3
      exact GotEnd.bad H.out (by decide) hB
  · have ek : wid (fst s a) = (4 : Nat) := by rw [eb]; rfl
    have hz : ¬ fst s a < 253 := by omega
    by_cases h5 : (s.size : Int) < a + 1 + 4
    · have H := Lib.hid (gotE_short (s := s) (a := a) (by omega) (by omega) (by rw [ek]; exact h5))
      rw [eb] at hx
      clear hb h4 hz ek eb
      go_enter Try.func60, Try.ntmps60
      go_wp2_with fail
      go_ret3
      exact GotEnd.bad H.out (by decide) (Below.refl _ _)
    have hk : a + 1 + 4 ≤ s.size := by omega
    have hbody := body_more hz
    have hbb := body_bd s a hlt
    obtain ⟨n, en⟩ : ∃ n, body s a = n := ⟨_, rfl⟩
    have HN2 := Lib.hid (show getN s (a + 1) 4 = n by rw [← en, hbody, ek]; rfl)
    have HO2 := Lib.hid (show okB s (a + 1) 4 = true from okB_yes (a := a + 1) (k := 4) (by decide) (by omega))
    have n4 : IntKind.u64.wrap 254 = 254 := rfl
    by_cases h6 : (vlen (body s a) : Int) = 1 + wid (fst s a)
    · have H := Lib.hid (gotE_ok (s := s) (a := a) (by omega) (by rw [ek]; exact_mod_cast hk) h6)
      have HV := Lib.hid (vstr_at s a 4 hk ek.symm h6)
      have HT := Lib.hid (show (a : Int) + 1 + wid (fst s a) = a + 1 + 4 by rw [ek]; rfl)
      have EN := Lib.hid en
      rw [en] at hbb
      rw [eb] at hx
      clear hbody hb h4 hz ek eb en h6
      go_enter Try.func60, Try.ntmps60
      go_wp2_with fail
      refine (rget_is s (a + 1) 4 n true w hm HN2.out HO2.out).mono ?_
      rintro e w' ⟨rfl, rfl⟩
      go_wp2_with fail
      refine (rvput_is n _ w hbb.1 hbb.2 (by rw [← EN.out, HV.out])).mono ?_
      rintro e w1 ⟨rfl, hB⟩
      go_wp2_with fail
      go_ret3
      exact GotEnd.ok H.out EN.out (HT.out.trans (by omega)) hB
    · have H := Lib.hid (gotE_form (s := s) (a := a) (by omega) (by rw [ek]; exact_mod_cast hk) h6)
      have hv := vstr_not s a 4 hk ek.symm h6
      rw [en] at hbb hv
      rw [eb] at hx
      have hv2 : ((vstr n).toList == (s.extract a (a + 1 + 4)).toList) = false := bytes_ne hv
      clear hbody hb h4 hz ek eb en h6 hv
      go_enter Try.func60, Try.ntmps60
      go_wp2_with fail
      refine (rget_is s (a + 1) 4 n true w hm HN2.out HO2.out).mono ?_
      rintro e w' ⟨rfl, rfl⟩
      go_wp2_with fail
      refine (rvput_any n w hbb.1 hbb.2).mono ?_
      rintro e w1 ⟨rfl, hB⟩
      go_wp2_with fail
      go_ret3
      exact GotEnd.bad H.out (by decide) hB
  · have ek : wid (fst s a) = (8 : Nat) := by rw [eb]; rfl
    have hz : ¬ fst s a < 253 := by omega
    by_cases h5 : (s.size : Int) < a + 1 + 8
    · have H := Lib.hid (gotE_short (s := s) (a := a) (by omega) (by omega) (by rw [ek]; exact h5))
      rw [eb] at hx
      clear hb h4 hz ek eb
      go_enter Try.func60, Try.ntmps60
      go_wp2_with fail
      go_ret3
      exact GotEnd.bad H.out (by decide) (Below.refl _ _)
    have hk : a + 1 + 8 ≤ s.size := by omega
    have hbody := body_more hz
    have hbb := body_bd s a hlt
    obtain ⟨n, en⟩ : ∃ n, body s a = n := ⟨_, rfl⟩
    have HN2 := Lib.hid (show getN s (a + 1) 8 = n by rw [← en, hbody, ek]; rfl)
    have HO2 := Lib.hid (show okB s (a + 1) 8 = true from okB_yes (a := a + 1) (k := 8) (by decide) (by omega))
    have n4 : IntKind.u64.wrap 255 = 255 := rfl
    by_cases h6 : (vlen (body s a) : Int) = 1 + wid (fst s a)
    · have H := Lib.hid (gotE_ok (s := s) (a := a) (by omega) (by rw [ek]; exact_mod_cast hk) h6)
      have HV := Lib.hid (vstr_at s a 8 hk ek.symm h6)
      have HT := Lib.hid (show (a : Int) + 1 + wid (fst s a) = a + 1 + 8 by rw [ek]; rfl)
      have EN := Lib.hid en
      rw [en] at hbb
      rw [eb] at hx
      clear hbody hb h4 hz ek eb en h6
      go_enter Try.func60, Try.ntmps60
      go_wp2_with fail
      refine (rget_is s (a + 1) 8 n true w hm HN2.out HO2.out).mono ?_
      rintro e w' ⟨rfl, rfl⟩
      go_wp2_with fail
      refine (rvput_is n _ w hbb.1 hbb.2 (by rw [← EN.out, HV.out])).mono ?_
      rintro e w1 ⟨rfl, hB⟩
      go_wp2_with fail
      go_ret3
      exact GotEnd.ok H.out EN.out (HT.out.trans (by omega)) hB
    · have H := Lib.hid (gotE_form (s := s) (a := a) (by omega) (by rw [ek]; exact_mod_cast hk) h6)
      have hv := vstr_not s a 8 hk ek.symm h6
      rw [en] at hbb hv
      rw [eb] at hx
      have hv2 : ((vstr n).toList == (s.extract a (a + 1 + 8)).toList) = false := bytes_ne hv
      clear hbody hb h4 hz ek eb en h6 hv
      go_enter Try.func60, Try.ntmps60
      go_wp2_with fail
      refine (rget_is s (a + 1) 8 n true w hm HN2.out HO2.out).mono ?_
      rintro e w' ⟨rfl, rfl⟩
      go_wp2_with fail
      refine (rvput_any n w hbb.1 hbb.2).mono ?_
      rintro e w1 ⟨rfl, hB⟩
      go_wp2_with fail
      go_ret3
      exact GotEnd.bad H.out (by decide) hB
end Go.Proofs.Ytkdkkndccjddnaa.Vi
