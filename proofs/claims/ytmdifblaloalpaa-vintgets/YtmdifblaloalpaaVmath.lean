/-
  Numbers in as few bytes as may be: plain mathematics.
-/
import Derived.Test.YtmdifblaloalpaaPut
namespace Go.Proofs.Ytmdifblaloalpaa
open Go.RowKit

theorem nums_append (a b : ByteArray) : nums (a ++ b) = nums a ++ nums b := by
  unfold nums
  rw [ByteArray.data_append]
  simp
theorem nums_inj {a b : ByteArray} (h : nums a = nums b) : a = b := by rw [← strOfNums_nums a, h, strOfNums_nums]
theorem putS_size {n : Int} {k : Nat} (h : szB k = true) : (putS n k).size = k := by rw [putS_yes h, strOfNums_size, digs_length]

/-- The bytes of a number. -/
def vlist (n : Int) : List Int := if n < 253 then digs n 1 else if n < 65536 then 253 :: digs n 2 else if n < 4294967296 then 254 :: digs n 4 else 255 :: digs n 8
/-- How many there are. -/
def vlen (n : Int) : Nat := if n < 253 then 1 else if n < 65536 then 3 else if n < 4294967296 then 5 else 9
/-- The text of a number. -/
def vstr (n : Int) : ByteArray := strOfNums (vlist n)

theorem vlist_length (n : Int) : (vlist n).length = vlen n := by
  unfold vlist vlen
  repeat' split
  all_goals simp [digs_length]
theorem vstr_size (n : Int) : (vstr n).size = vlen n := by rw [vstr, strOfNums_size, vlist_length]
theorem vlist_bd (n : Int) : ∀ b ∈ vlist n, 0 ≤ b ∧ b < 256 := by
  intro b h
  unfold vlist at h
  repeat' split at h
  · exact digs_bd _ _ _ h
  all_goals
    rcases List.mem_cons.1 h with rfl | h
    · omega
    · exact digs_bd _ _ _ h
theorem vstr_nums (n : Int) : nums (vstr n) = vlist n := nums_strOfNums _ (vlist_bd n)
theorem vlen_pos (n : Int) : 1 ≤ vlen n ∧ vlen n ≤ 9 := by unfold vlen; (repeat' split) <;> omega
theorem vlen_mono {a b : Int} (h : a ≤ b) : vlen a ≤ vlen b := by unfold vlen; (repeat' split) <;> omega

/-- How many bytes stand behind a first one. -/
def wid (b : Int) : Int := if b < 253 then 0 else if b = 253 then 2 else if b = 254 then 4 else 8
/-- The first byte at a place. -/
def fst (s : ByteArray) (a : Int) : Int := getN s a 1
/-- The number there. -/
def body (s : ByteArray) (a : Int) : Int := if fst s a < 253 then fst s a else getN s (a + 1) (wid (fst s a))
/-- The error there. -/
def gotE (s : ByteArray) (a : Int) : Int :=
  if a < 0 ∨ (s.size : Int) < a then 2 else if (s.size : Int) ≤ a then 5 else if (s.size : Int) < a + 1 + wid (fst s a) then 5
    else if (vlen (body s a) : Int) = 1 + wid (fst s a) then 0 else 4
/-- What is got there. -/
def gotN (s : ByteArray) (a : Int) : Int := if gotE s a = 0 then body s a else 0
/-- The place behind. -/
def gotT (s : ByteArray) (a : Int) : Int := if gotE s a = 0 then a + 1 + wid (fst s a) else 0

theorem gotE_arg {s : ByteArray} {a : Int} (h : a < 0 ∨ (s.size : Int) < a) : gotE s a = 2 := by simp [gotE, h]
theorem gotE_end {s : ByteArray} {a : Int} (h : a = (s.size : Int)) : gotE s a = 5 := by
  unfold gotE
  rw [if_neg (by omega), if_pos (by omega)]
theorem gotE_short {s : ByteArray} {a : Int} (h0 : 0 ≤ a) (h1 : a < (s.size : Int)) (h : (s.size : Int) < a + 1 + wid (fst s a)) : gotE s a = 5 := by
  unfold gotE
  rw [if_neg (by omega), if_neg (by omega), if_pos h]
theorem wid_nn (b : Int) : 0 ≤ wid b ∧ wid b ≤ 8 := by unfold wid; (repeat' split) <;> omega
theorem gotE_form {s : ByteArray} {a : Int} (h0 : 0 ≤ a) (h : a + 1 + wid (fst s a) ≤ (s.size : Int)) (hv : ¬ (vlen (body s a) : Int) = 1 + wid (fst s a)) : gotE s a = 4 := by
  have := wid_nn (fst s a)
  unfold gotE
  rw [if_neg (by omega), if_neg (by omega), if_neg (by omega), if_neg hv]
theorem gotE_ok {s : ByteArray} {a : Int} (h0 : 0 ≤ a) (h : a + 1 + wid (fst s a) ≤ (s.size : Int)) (hv : (vlen (body s a) : Int) = 1 + wid (fst s a)) : gotE s a = 0 := by
  have := wid_nn (fst s a)
  unfold gotE
  rw [if_neg (by omega), if_neg (by omega), if_neg (by omega), if_pos hv]

/-- What both of Get answer. -/
def GotEnd (s : ByteArray) (a : Int) (w : World) (e : Ending) (w' : World) : Prop :=
  e = .returned (.tuple #[.int .u64 (gotN s a), .int .i64 (gotT s a), .int .i64 (gotE s a)]) ∧ Below w.heap.size w w'
theorem ret_nnn {k l m : IntKind} {a b c d f g : Int} (h1 : a = b) (h2 : c = d) (h3 : f = g) :
    Ending.returned (.tuple #[.int k a, .int l c, .int m f]) = .returned (.tuple #[.int k b, .int l d, .int m g]) := by rw [h1, h2, h3]
theorem GotEnd.bad {s : ByteArray} {a c : Int} {w w' : World} (h : gotE s a = c) (hc : c ≠ 0) (hB : Below w.heap.size w w') :
    GotEnd s a w (.returned (.tuple #[.int .u64 0, .int .i64 0, .int .i64 c])) w' :=
  ⟨ret_nnn (by simp [gotN, h, hc]) (by simp [gotT, h, hc]) h.symm, hB⟩
theorem GotEnd.ok {s : ByteArray} {a n t : Int} {w w' : World} (h : gotE s a = 0) (hn : body s a = n) (ht : a + 1 + wid (fst s a) = t) (hB : Below w.heap.size w w') :
    GotEnd s a w (.returned (.tuple #[.int .u64 n, .int .i64 t, .int .i64 0])) w' :=
  ⟨ret_nnn (by simp [gotN, h, hn]) (by simp [gotT, h, ht]) h.symm, hB⟩

/-- A byte of a text, as it is got. -/
theorem fst_at (s : ByteArray) (a : Nat) (h : a < s.size) : fst s a = (s[a].toNat : Int) := by
  unfold fst
  rw [show (1 : Int) = ((1 : Nat) : Int) from rfl, getN_yes (by decide) (by omega), part_snoc s a 0 (by omega)]
  simp [part, num]
theorem fst_bd (s : ByteArray) (a : Nat) (h : a < s.size) : 0 ≤ fst s a ∧ fst s a < 256 := by rw [fst_at s a h]; exact byte_bd _
theorem part_one (s : ByteArray) (a : Nat) (h : a < s.size) : part s a 1 = [fst s a] := by
  rw [fst_at s a h, part_snoc s a 0 (by omega)]
  simp [part]
theorem part_cons (s : ByteArray) (a k : Nat) (h : a < s.size) : part s a (1 + k) = fst s a :: part s (a + 1) k := by
  have := part_one s a h
  unfold part at this ⊢
  rw [List.take_add, this, List.drop_drop]
  rfl
theorem extract_part (s : ByteArray) (a m : Nat) : s.extract a (a + m) = strOfNums (part s a m) := by
  refine nums_inj ?_
  rw [nums_strOfNums _ (part_bd s a m)]
  unfold nums part nums
  rw [ByteArray.data_extract]
  simp [List.map_take, List.map_drop]

theorem szB_wid {b : Int} (h : ¬ b < 253) : szB (wid b) = true := by unfold wid; rw [if_neg h]; (repeat' split) <;> decide

/-- A form of so many bytes is the number's own. -/
theorem vlist_of (b : Int) (l : List Int) (h0 : 0 ≤ b) (h1 : ¬ b < 253) (h2 : b < 256) (hl : ∀ c ∈ l, 0 ≤ c ∧ c < 256) (hk : (l.length : Int) = wid b) (hv : (vlen (num l) : Int) = 1 + wid b) : vlist (num l) = b :: l := by
  have hd := digs_num l hl
  have hb := num_bd l hl
  have : b = 253 ∨ b = 254 ∨ b = 255 := by omega
  rcases this with rfl | rfl | rfl
  · have hk : l.length = 2 := by simp [wid] at hk; omega
    rw [hk] at hd hb
    simp [wid, vlen] at hv
    unfold vlist
    rw [if_neg (by split at hv <;> omega), if_pos (by simpa using hb.2), hd]
  · have hk : l.length = 4 := by simp [wid] at hk; omega
    rw [hk] at hd hb
    simp [wid, vlen] at hv
    unfold vlist
    rw [if_neg (by split at hv <;> omega), if_neg (by (repeat' split at hv) <;> omega), if_pos (by simpa using hb.2), hd]
  · have hk : l.length = 8 := by simp [wid] at hk; omega
    rw [hk] at hd hb
    simp [wid, vlen] at hv
    unfold vlist
    rw [if_neg (by split at hv <;> omega), if_neg (by (repeat' split at hv) <;> omega), if_neg (by (repeat' split at hv) <;> omega), hd]

theorem body_less {s : ByteArray} {a : Int} (h : fst s a < 253) : body s a = fst s a := by simp [body, h]
theorem body_more {s : ByteArray} {a : Int} (h : ¬ fst s a < 253) : body s a = getN s (a + 1) (wid (fst s a)) := by simp [body, h]

/-- What stands at a place, in the length that its first byte says, is the text of the number exactly where the lengths agree. -/
theorem vstr_at (s : ByteArray) (a k : Nat) (h : a + 1 + k ≤ s.size) (hk : (k : Int) = wid (fst s a)) (hv : (vlen (body s a) : Int) = 1 + wid (fst s a)) :
    vstr (body s a) = s.extract a (a + 1 + k) := by
  have hb := fst_bd s a (by omega)
  rw [show a + 1 + k = a + (1 + k) from by omega, extract_part s a (1 + k), part_cons s a k (by omega), vstr]
  congr 1
  by_cases h3 : fst s a < 253
  · have : k = 0 := by simp [wid, h3] at hk; omega
    subst this
    rw [body_less h3]
    simp [vlist, h3, digs, part]
    omega
  · have hz : szB k = true := by rw [hk]; exact szB_wid h3
    have e : getN s (a + 1) (wid (fst s a)) = num (part s (a + 1) k) := by
      rw [← hk]
      exact getN_yes (a := a + 1) hz (by omega)
    rw [body_more h3, e] at hv ⊢
    exact vlist_of _ _ hb.1 h3 hb.2 (part_bd _ _ _) (by rw [part_length _ _ _ (by omega), hk]) hv
theorem vstr_not (s : ByteArray) (a k : Nat) (h : a + 1 + k ≤ s.size) (hk : (k : Int) = wid (fst s a)) (hv : ¬ (vlen (body s a) : Int) = 1 + wid (fst s a)) :
    vstr (body s a) ≠ s.extract a (a + 1 + k) := by
  intro e
  have := congrArg ByteArray.size e
  rw [vstr_size, ByteArray.size_extract] at this
  omega

theorem body_bd (s : ByteArray) (a : Nat) (h : a < s.size) : 0 ≤ body s a ∧ body s a < 18446744073709551616 := by
  have hb := fst_bd s a h
  by_cases h3 : fst s a < 253
  · rw [body_less h3]; omega
  · rw [body_more h3]
    have hz := szB_wid h3
    unfold getN
    split
    · rename_i ho
      have hw := wid_nn (fst s a)
      obtain ⟨k, hk⟩ := Int.eq_ofNat_of_zero_le hw.1
      rw [hk] at ho hz hw ⊢
      simp [okB, hz] at ho
      have hp := part_num_bd s (a + 1) k (by omega)
      have h2 : (256 : Int) ^ k ≤ 18446744073709551616 := by
        rcases (szB_iff k).1 hz with e | e | e | e
        · obtain rfl : k = 1 := by omega
          decide
        · obtain rfl : k = 2 := by omega
          decide
        · obtain rfl : k = 4 := by omega
          decide
        · obtain rfl : k = 8 := by omega
          decide
      show 0 ≤ num (part s (a + 1) k) ∧ num (part s (a + 1) k) < _
      omega
    · omega
end Go.Proofs.Ytmdifblaloalpaa
