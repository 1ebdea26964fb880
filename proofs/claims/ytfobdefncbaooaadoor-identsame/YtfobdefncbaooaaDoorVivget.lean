/-
  Numbers got: the program's Get.
  Numbers got: the document's Get.
-/
import Derived.Test.YtfobdefncbaooaaDoorViput
import Derived.OwnWalk

namespace Go.Proofs.YtfobdefncbaooaaDoor.Vi
open Go.RowKit

theorem get_is (s : ByteArray) (a k n : Int) (o : Bool) (w : World) (hs : s.size ≤ maxLen) (hn : getN s a k = n) (ho : okB s a k = o) :
    Calls Tryd.prog 72 #[.string s, .int .i64 a, .int .i64 k] w fun e w' => e = .returned (.tuple #[.int .u64 n, .bool o]) ∧ w = w' :=
  (get_any s a k w hs).mono fun _ _ ⟨he, hw⟩ => ⟨he.trans (ret_nb hn ho), hw⟩
theorem okB_one {s : ByteArray} {a : Nat} (h : a < s.size) : okB s a 1 = true := okB_yes (k := 1) (by decide) (by omega)
theorem behind_is (b k : Int) (w : World) (h : ¬ b < 253) (hk : wid b = k) : Calls Tryd.prog 101 #[.int .u64 b] w fun e w' => e = .returned (.int .i64 k) ∧ w = w' :=
  (behind_any b w h).mono fun _ _ ⟨he, hw⟩ => ⟨he.trans (ret_int hk), hw⟩
theorem vput_is (n : Int) (m : Nat) (w : World) (h0 : 0 ≤ n) (h1 : n < 18446744073709551616) (hm : vlen n = m) :
    Calls Tryd.prog 68 #[.int .u64 n] w fun e w' => (∃ t : ByteArray, t.size = m ∧ e = .returned (.string t)) ∧ Below w.heap.size w w' :=
  (vput_any n w h0 h1).mono fun _ _ ⟨he, hw⟩ => ⟨⟨vstr n, (vstr_size n).trans hm, he⟩, hw⟩

set_option maxHeartbeats 1000000 in
theorem vget_any (s : ByteArray) (a : Int) (w : World) (hs : s.size ≤ 422212465065984) : Calls Tryd.prog 95 #[.string s, .int .i64 a] w (GotEnd s a w) := by
  have hm : s.size ≤ maxLen := by unfold maxLen; omega
  by_cases h1 : a < 0
  · have H := Lib.hid (gotE_arg (s := s) (Or.inl h1))
    go_enter Tryd.func95, Tryd.ntmps95
    go_wp2_with fail
    go_ret3
    exact GotEnd.bad H.out (by decide) (Below.refl _ _)
  by_cases h2 : (s.size : Int) < a
  · have H := Lib.hid (gotE_arg (Or.inr h2))
    go_enter Tryd.func95, Tryd.ntmps95
    go_wp2_with fail
    go_ret3
    exact GotEnd.bad H.out (by decide) (Below.refl _ _)
  obtain ⟨a, rfl⟩ := Int.eq_ofNat_of_zero_le (show 0 ≤ a by omega)
  have d1 : decide ((a : Int) < 0) = false := decide_eq_false h1
  have d2 : decide ((s.size : Int) < (a : Int)) = false := decide_eq_false h2
  by_cases h3 : a = s.size
  · have H := Lib.hid (gotE_end (s := s) (a := a) (by omega))
    have ho : okB s a 1 = false := okB_far (by omega)
    have hn := getN_no ho
    have HN := Lib.hid hn
    have HO := Lib.hid ho
    clear h3 hn ho
    go_enter Tryd.func95, Tryd.ntmps95
    go_wp2_with fail
    refine (get_is s a 1 0 false w hm HN.out HO.out).mono ?_
    rintro e w' ⟨rfl, rfl⟩
    go_wp2_with fail
    go_ret3
    exact GotEnd.bad H.out (by decide) (Below.refl _ _)
  have hlt : a < s.size := by omega
  have hb := fst_bd s a hlt
  have HO := Lib.hid (okB_one hlt)
  obtain ⟨b, eb⟩ : ∃ b, fst s a = b := ⟨_, rfl⟩
  by_cases h4 : fst s a < 253
  · have ew : wid (fst s a) = 0 := by simp [wid, h4]
    have el : (vlen (body s a) : Int) = 1 + wid (fst s a) := by rw [body_less h4, ew]; simp [vlen, h4]
    have H := Lib.hid (gotE_ok (s := s) (a := a) (by omega) (by omega) el)
    have HN := Lib.hid (body_less h4)
    have HW := Lib.hid ew
    clear el ew
    rw [eb] at hb h4
    have EB := Lib.hid eb
    clear eb
    go_enter Tryd.func95, Tryd.ntmps95
    go_wp2_with fail
    refine (get_is s a 1 b true w hm EB.out HO.out).mono ?_
    rintro e w' ⟨rfl, rfl⟩
    go_wp2_with fail
    go_ret3
    exact GotEnd.ok H.out (HN.out.trans EB.out) (by rw [HW.out]; omega) (Below.refl _ _)
  have hz := szB_wid h4
  have hwb := wid_nn (fst s a)
  obtain ⟨k, ek⟩ := Int.eq_ofNat_of_zero_le hwb.1
  have hk8 : k ≤ 8 := by omega
  by_cases h5 : (s.size : Int) < a + 1 + k
  · have H := Lib.hid (gotE_short (s := s) (a := a) (by omega) (by omega) (by rw [ek]; exact h5))
    have ho : okB s (a + 1) k = false := okB_far (by omega)
    have HN2 := Lib.hid (getN_no ho)
    have HO2 := Lib.hid ho
    have EK := Lib.hid (eb ▸ ek)
    clear h5 ho hwb hz ek
    rw [eb] at hb h4
    have EB := Lib.hid eb
    clear eb
    go_enter Tryd.func95, Tryd.ntmps95
    go_wp2_with fail
    refine (get_is s a 1 b true w hm EB.out HO.out).mono ?_
    rintro e w' ⟨rfl, rfl⟩
    go_wp2_with fail
    refine (behind_is b k w (by omega) EK.out).mono ?_
    rintro e w' ⟨rfl, rfl⟩
    go_wp2_with fail
    refine (get_is s (a + 1) k 0 false w hm HN2.out HO2.out).mono ?_
    rintro e w' ⟨rfl, rfl⟩
    go_wp2_with fail
    go_ret3
    exact GotEnd.bad H.out (by decide) (Below.refl _ _)
  have hk : a + 1 + k ≤ s.size := by omega
  have hok : okB s ((a + 1 : Nat) : Int) k = true := okB_yes (a := a + 1) (by rw [← ek]; exact hz) (by omega)
  have hbody := body_more h4
  have hbb := body_bd s a hlt
  obtain ⟨n, en⟩ : ∃ n, body s a = n := ⟨_, rfl⟩
  obtain ⟨m, em⟩ : ∃ m, vlen n = m := ⟨_, rfl⟩
  have hm9 := vlen_pos n
  rw [em] at hm9
  have HN2 := Lib.hid (show getN s (a + 1) k = n by rw [← en, hbody, ek])
  have HO2 := Lib.hid (show okB s (a + 1) k = true from hok)
  have EM := Lib.hid em
  by_cases h6 : m = 1 + k
  · have H := Lib.hid (gotE_ok (s := s) (a := a) (by omega) (by rw [ek]; exact_mod_cast hk) (by rw [en, em, ek, h6]; simp))
    have HT := Lib.hid (show (a : Int) + 1 + wid (fst s a) = a + 1 + k by rw [ek])
    have EN := Lib.hid en
    have EK := Lib.hid (eb ▸ ek)
    rw [en] at hbb
    rw [eb] at hb h4
    have EB := Lib.hid eb
    subst h6
    clear hbody hok hwb hz ek en em eb h5
    go_enter Tryd.func95, Tryd.ntmps95
    go_wp2_with fail
    refine (get_is s a 1 b true w hm EB.out HO.out).mono ?_
    rintro e w' ⟨rfl, rfl⟩
    go_wp2_with fail
    refine (behind_is b k w (by omega) EK.out).mono ?_
    rintro e w' ⟨rfl, rfl⟩
    go_wp2_with fail
    refine (get_is s (a + 1) k n true w hm HN2.out HO2.out).mono ?_
    rintro e w' ⟨rfl, rfl⟩
    go_wp2_with fail
    refine (vput_is n (1 + k) w hbb.1 hbb.2 EM.out).mono ?_
    rintro e w1 ⟨⟨t, ht, rfl⟩, hB⟩
    go_wp2_with fail
    go_ret3
    exact GotEnd.ok H.out EN.out HT.out hB
  · have H := Lib.hid (gotE_form (s := s) (a := a) (by omega) (by rw [ek]; exact_mod_cast hk) (by rw [en, em, ek]; show ¬ (m : Int) = 1 + (k : Int); omega))
    have EN := Lib.hid en
    have EK := Lib.hid (eb ▸ ek)
    rw [en] at hbb
    rw [eb] at hb h4
    have EB := Lib.hid eb
    clear hbody hok hwb hz ek en em eb h5
    go_enter Tryd.func95, Tryd.ntmps95
    go_wp2_with fail
    refine (get_is s a 1 b true w hm EB.out HO.out).mono ?_
    rintro e w' ⟨rfl, rfl⟩
    go_wp2_with fail
    refine (behind_is b k w (by omega) EK.out).mono ?_
    rintro e w' ⟨rfl, rfl⟩
    go_wp2_with fail
    refine (get_is s (a + 1) k n true w hm HN2.out HO2.out).mono ?_
    rintro e w' ⟨rfl, rfl⟩
    go_wp2_with fail
    refine (vput_is n m w hbb.1 hbb.2 EM.out).mono ?_
    rintro e w1 ⟨⟨t, ht, rfl⟩, hB⟩
    go_wp2_with fail
    go_ret3
    exact GotEnd.bad H.out (by decide) hB
end Go.Proofs.YtfobdefncbaooaaDoor.Vi

namespace Go.Proofs.YtfobdefncbaooaaDoor.Vi
open Go.RowKit

theorem toList_inj {a b : ByteArray} (h : a.toList = b.toList) : a = b := by
  rw [Go.ByteArray.toList_eq, Go.ByteArray.toList_eq] at h
  exact ByteArray.ext (Array.ext' h)
theorem bytes_ne {a b : ByteArray} (h : a ≠ b) : (a.toList == b.toList) = false := by
  rw [Bool.eq_false_iff]
  intro e
  exact h (toList_inj (by simpa using e))

theorem rvput_is (n : Int) (t : ByteArray) (w : World) (h0 : 0 ≤ n) (h1 : n < 18446744073709551616) (ht : vstr n = t) :
    Calls Tryd.prog 61 #[.int .u64 n] w fun e w' => e = .returned (.string t) ∧ Below w.heap.size w w' :=
  (rvput_any n w h0 h1).mono fun _ _ ⟨he, hw⟩ => ⟨he.trans (ret_str ht), hw⟩

theorem index_fst (s : ByteArray) (a : Nat) (h : a < s.size) (w : World) :
    (Instr.index 9 (.string s) (.int .i64 (a : Int))).run Tryd.prog w = .ok (.int .u8 (fst s a)) w := by
  rw [run_index_string w 9 s .i64 a Tryd.underlying9, fst_at s a h]
  simp [h]

end Go.Proofs.YtfobdefncbaooaaDoor.Vi
