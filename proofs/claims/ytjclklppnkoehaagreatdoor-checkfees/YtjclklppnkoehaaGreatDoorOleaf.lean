/-
  What each call of layer 2 does: contracts over the translation.
-/
import Derived.Test.YtjclklppnkoehaaGreatDoorRows
import Derived.Test.YtjclklppnkoehaaGreatDoorObits
import Derived.WalkKit
import Derived.WalkSpells
import Derived.WalkLawsBesides
import Derived.Deep.QuietTactic
import Derived.BigQuiet
import Derived.Lib.Hide
namespace Go.Proofs.YtjclklppnkoehaaGreatDoor.Oc
open Go.RowKit
set_option maxRecDepth 100000

theorem ret_int {k : IntKind} {a b : Int} (h : a = b) : Ending.returned (.int k a) = .returned (.int k b) := by rw [h]
theorem ret_bool {a b : Bool} (h : a = b) : Ending.returned (.bool a) = .returned (.bool b) := by rw [h]
theorem ret_str {a b : ByteArray} (h : a = b) : Ending.returned (.string a) = .returned (.string b) := by rw [h]
theorem ret_nb {k : IntKind} {a b : Int} {c d : Bool} (h : a = b) (g : c = d) : Ending.returned (.tuple #[.int k a, .bool c]) = .returned (.tuple #[.int k b, .bool d]) := by rw [h, g]

set_option maxHeartbeats 400000 in
theorem isSize_any (k : Int) (w : World) :
    Calls Tryz.prog 87 #[.int .i64 k] w fun e w' => e = .returned (.bool (szB k)) ∧ w = w' := by
  go_enter Tryz.func87, Tryz.ntmps87
  go_wp2
  all_goals
    go_ret
    exact ⟨ret_bool (by rw [Bool.eq_iff_iff]; simp [szB] <;> omega), rfl⟩

theorem okB_no {s : ByteArray} {a k : Int} (h : szB k = false) : okB s a k = false := by simp [okB, h]
theorem getN_no {s : ByteArray} {a k : Int} (h : okB s a k = false) : getN s a k = 0 := by simp [getN, h]
theorem okB_neg {s : ByteArray} {a k : Int} (h : a < 0) : okB s a k = false := by simp [okB]; omega
theorem okB_far {s : ByteArray} {a k : Int} (h : (s.size : Int) - k < a) : okB s a k = false := by simp [okB]; omega
theorem okB_yes {s : ByteArray} {a k : Nat} (h : szB k = true) (hb : a + k ≤ s.size) : okB s a k = true := by simp [okB, h]; omega
theorem getN_yes {s : ByteArray} {a k : Nat} (h : szB k = true) (hb : a + k ≤ s.size) : getN s a k = num (part s a k) := by simp [getN, okB_yes h hb]

/-- What both of Get answer. -/
def GetEnd (s : ByteArray) (a k : Int) (w : World) (e : Ending) (w' : World) : Prop := e = .returned (.tuple #[.int .u64 (getN s a k), .bool (okB s a k)]) ∧ w = w'

theorem GetEnd.no {s : ByteArray} {a k : Int} {w : World} (h : okB s a k = false) : GetEnd s a k w (.returned (.tuple #[.int .u64 0, .bool false])) w :=
  ⟨ret_nb (getN_no h).symm h.symm, rfl⟩

/-- Where the loop of Get stands. -/
def GetHead (s : ByteArray) (a k : Nat) (n i : Value) : Prop := ∃ j : Nat, j ≤ k ∧ i = .int .i64 j ∧ n = .int .u64 (num (part s a j))

set_option maxHeartbeats 400000 in
theorem get_any (s : ByteArray) (a k : Int) (w : World) (hs : s.size ≤ maxLen) : Calls Tryz.prog 83 #[.string s, .int .i64 a, .int .i64 k] w (GetEnd s a k w) := by
  unfold maxLen at hs
  cases hk : szB k
  · have H := Lib.hid (okB_no (s := s) (a := a) hk)
    go_enter Tryz.func83, Tryz.ntmps83
    go_wp2_with (go_at_call 87; refine (isSize_any _ _).mono ?_; rintro e w' ⟨rfl, rfl⟩)
    go_ret2
    exact GetEnd.no H.out
  have k8 : 1 ≤ k ∧ k ≤ 8 := by have := (szB_iff k).1 hk; omega
  by_cases h1 : a < 0
  · have H := Lib.hid (okB_neg (s := s) (k := k) h1)
    go_enter Tryz.func83, Tryz.ntmps83
    go_wp2_with (go_at_call 87; refine (isSize_any _ _).mono ?_; rintro e w' ⟨rfl, rfl⟩)
    go_ret2
    exact GetEnd.no H.out
  by_cases h2 : (s.size : Int) - k < a
  · have H := Lib.hid (okB_far h2)
    go_enter Tryz.func83, Tryz.ntmps83
    go_wp2_with (go_at_call 87; refine (isSize_any _ _).mono ?_; rintro e w' ⟨rfl, rfl⟩)
    go_ret2
    exact GetEnd.no H.out
  obtain ⟨a, rfl⟩ := Int.eq_ofNat_of_zero_le (show 0 ≤ a by omega)
  obtain ⟨k, rfl⟩ := Int.eq_ofNat_of_zero_le (show 0 ≤ k by omega)
  have d1 : decide ((a : Int) < 0) = false := decide_eq_false h1
  have d2 : decide ((s.size : Int) - (k : Int) < (a : Int)) = false := decide_eq_false h2
  have hb : a + k ≤ s.size := by omega
  go_enter Tryz.func83, Tryz.ntmps83
  go_wp2_with (go_at_call 87; refine (isSize_any _ _).mono ?_; rintro e w' ⟨rfl, rfl⟩)
  go_loop [8, 26] (fun n i => GetHead s a k n i) (fun _ i => k - (intOf i).toNat)
  case atStart => exact ⟨0, by omega, rfl, by simp [part, num]⟩
  case round =>
    obtain ⟨j, hj, rfl, rfl⟩ := hrel
    by_cases hlt : j < k
    · have e1 : (8 * (j : Int)).toNat = 8 * j := by omega
      go_wp2_with fail
      go_round
      case rel => exact ⟨j + 1, by omega, by go_num, by rw [get_or s a j (by omega) (by omega)]⟩
      case measure => simp [intOf]; omega
    · go_wp2_with fail
      go_ret2
      obtain rfl : j = k := by omega
      exact ⟨ret_nb (getN_yes hk hb).symm (okB_yes hk hb).symm, rfl⟩

theorem sz_no {k : Int} (h : szB k = false) : ¬ k = 1 ∧ ¬ k = 2 ∧ ¬ k = 4 ∧ ¬ k = 8 := by have := (szB_not k).1 h; omega

/-- Where the loop of the document's Get stands. -/
def RgetHead (s : ByteArray) (a k : Nat) (n p i : Value) : Prop := ∃ j : Nat, j ≤ k ∧ i = .int .i64 j ∧ n = .int .u64 (num (part s a j)) ∧ p = .int .u64 (pw j)

set_option maxHeartbeats 1000000 in
theorem rget_any (s : ByteArray) (a k : Int) (w : World) (hs : s.size ≤ maxLen) : Calls Tryz.prog 69 #[.string s, .int .i64 a, .int .i64 k] w (GetEnd s a k w) := by
  unfold maxLen at hs
  cases hk : szB k
  · have H := Lib.hid (okB_no (s := s) (a := a) hk)
    obtain ⟨n1, n2, n4, n8⟩ := sz_no hk
    go_enter Tryz.func69, Tryz.ntmps69
    go_wp2_with fail
    go_ret2
    exact GetEnd.no H.out
  have k8 : 1 ≤ k ∧ k ≤ 8 := by have := (szB_iff k).1 hk; omega
  by_cases h1 : a < 0
  · have H := Lib.hid (okB_neg (s := s) (k := k) h1)
    go_enter Tryz.func69, Tryz.ntmps69
    go_wp2_with fail
    all_goals
      go_ret2
      first | exact GetEnd.no H.out | exact GetEnd.no (okB_far (by omega))
  by_cases h2 : (s.size : Int) - k < a
  · have H := Lib.hid (okB_far h2)
    go_enter Tryz.func69, Tryz.ntmps69
    go_wp2_with fail
    all_goals
      go_ret2
      first | exact GetEnd.no H.out | exact GetEnd.no (okB_far (by omega))
  obtain ⟨a, rfl⟩ := Int.eq_ofNat_of_zero_le (show 0 ≤ a by omega)
  have d1 : decide ((a : Int) < 0) = false := decide_eq_false h1
  have d2 : decide ((s.size : Int) - k < (a : Int)) = false := decide_eq_false h2
  rcases (szB_iff k).1 hk with rfl | rfl | rfl | rfl
  · have hb : a + 1 ≤ s.size := by omega
    go_enter Tryz.func69, Tryz.ntmps69
    go_wp2_with fail
    go_loop [8, 9, 10] (fun n p i => RgetHead s a 1 n p i) (fun _ _ i => 1 - (intOf i).toNat)
    case atStart => exact ⟨0, by omega, rfl, by simp [part, num], by simp [pw]⟩
    case round =>
      obtain ⟨j, hj, rfl, rfl, rfl⟩ := hrel
      by_cases hlt : j < 1
      · go_wp2_with fail
        go_round
        case rel => exact ⟨j + 1, by omega, by go_num, by rw [get_add s a j (by omega) (by omega)], by rw [pw_next (by omega)]⟩
        case measure => simp [intOf]; omega
      · go_wp2_with fail
        go_ret2
        obtain rfl : j = 1 := by omega
        exact ⟨ret_nb (getN_yes (k := 1) (by decide) hb).symm (okB_yes (k := 1) (by decide) hb).symm, rfl⟩
  · have hb : a + 2 ≤ s.size := by omega
    go_enter Tryz.func69, Tryz.ntmps69
    go_wp2_with fail
    go_loop [8, 9, 10] (fun n p i => RgetHead s a 2 n p i) (fun _ _ i => 2 - (intOf i).toNat)
    case atStart => exact ⟨0, by omega, rfl, by simp [part, num], by simp [pw]⟩
    case round =>
      obtain ⟨j, hj, rfl, rfl, rfl⟩ := hrel
      by_cases hlt : j < 2
      · go_wp2_with fail
        go_round
        case rel => exact ⟨j + 1, by omega, by go_num, by rw [get_add s a j (by omega) (by omega)], by rw [pw_next (by omega)]⟩
        case measure => simp [intOf]; omega
      · go_wp2_with fail
        go_ret2
        obtain rfl : j = 2 := by omega
        exact ⟨ret_nb (getN_yes (k := 2) (by decide) hb).symm (okB_yes (k := 2) (by decide) hb).symm, rfl⟩
  · have hb : a + 4 ≤ s.size := by omega
    go_enter Tryz.func69, Tryz.ntmps69
    go_wp2_with fail
    go_loop [8, 9, 10] (fun n p i => RgetHead s a 4 n p i) (fun _ _ i => 4 - (intOf i).toNat)
    case atStart => exact ⟨0, by omega, rfl, by simp [part, num], by simp [pw]⟩
    case round =>
      obtain ⟨j, hj, rfl, rfl, rfl⟩ := hrel
      by_cases hlt : j < 4
      · go_wp2_with fail
        go_round
        case rel => exact ⟨j + 1, by omega, by go_num, by rw [get_add s a j (by omega) (by omega)], by rw [pw_next (by omega)]⟩
        case measure => simp [intOf]; omega
      · go_wp2_with fail
        go_ret2
        obtain rfl : j = 4 := by omega
        exact ⟨ret_nb (getN_yes (k := 4) (by decide) hb).symm (okB_yes (k := 4) (by decide) hb).symm, rfl⟩
  · have hb : a + 8 ≤ s.size := by omega
    go_enter Tryz.func69, Tryz.ntmps69
    go_wp2_with fail
    go_loop [8, 9, 10] (fun n p i => RgetHead s a 8 n p i) (fun _ _ i => 8 - (intOf i).toNat)
    case atStart => exact ⟨0, by omega, rfl, by simp [part, num], by simp [pw]⟩
    case round =>
      obtain ⟨j, hj, rfl, rfl, rfl⟩ := hrel
      by_cases hlt : j < 8
      · go_wp2_with fail
        go_round
        case rel => exact ⟨j + 1, by omega, by go_num, by rw [get_add s a j (by omega) (by omega)], by rw [pw_next (by omega)]⟩
        case measure => simp [intOf]; omega
      · go_wp2_with fail
        go_ret2
        obtain rfl : j = 8 := by omega
        exact ⟨ret_nb (getN_yes (k := 8) (by decide) hb).symm (okB_yes (k := 8) (by decide) hb).symm, rfl⟩
end Go.Proofs.YtjclklppnkoehaaGreatDoor.Oc
