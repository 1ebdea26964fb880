/-
  The statement VintRow, walked.
-/
import Derived.Test.YtmdifblaloalpaaOwalk
import Derived.LoopN
namespace Go.Proofs.Ytmdifblaloalpaa
open Go.RowKit

/-- A length, but at most c. -/
def cutN (c n : Nat) : Nat := if n < c then n else c
theorem cutN_le (c n : Nat) : cutN c n ≤ c ∧ cutN c n ≤ n := by unfold cutN; split <;> omega
theorem run_min_at (w : World) (c : Nat) (ts : Array TypeId) (t : TypeId) (x : Nat) : (Builtin.min_ ts t #[.int .i64 (x : Int), .int .i64 (c : Int)]).run Try.prog w = .ok (.int .i64 (cutN c x : Nat)) w := by
  rw [run_min_int2 w ts t .i64 .i64 x c]
  unfold cutN
  by_cases h : x < c
  · rw [if_pos h, if_neg (by omega)]
  · rw [if_neg h]
    by_cases h2 : x = c
    · subst h2; simp
    · rw [if_pos (by omega)]
theorem run_min20 (w : World) (ts : Array TypeId) (t : TypeId) (x : Nat) : (Builtin.min_ ts t #[.int .i64 (x : Int), .int .i64 20]).run Try.prog w = .ok (.int .i64 (cutN 20 x : Nat)) w := run_min_at w 20 ts t x

/-- A slice of numbers that lies below B. -/
def Ints (w : World) (B : Nat) (A : Option Addr) (zs : List Int) : Prop :=
  zs = [] ∨ ∃ b off : Nat, A = some ⟨b, off, none⟩ ∧ b < B ∧ ∀ k : Nat, k < zs.length → w.cell? ⟨b, off + k, none⟩ = some (.int .u64 (zs.getD k 0))
theorem Ints.at {w : World} {B : Nat} {A : Option Addr} {zs : List Int} (h : Ints w B A zs) {k : Nat} (hk : k < zs.length) :
    ∃ b off : Nat, A = some ⟨b, off, none⟩ ∧ b < B ∧ w.cell? ⟨b, off + k, none⟩ = some (.int .u64 (zs.getD k 0)) := by
  rcases h with rfl | ⟨b, off, e, hb, hc⟩
  · simp at hk
  · exact ⟨b, off, e, hb, hc k hk⟩
theorem Ints.below {w w' : World} {B : Nat} {A : Option Addr} {zs : List Int} (h : Ints w B A zs) (hB : Below B w w') : Ints w' B A zs := by
  rcases h with rfl | ⟨b, off, e, hb, hc⟩
  · exact .inl rfl
  · exact .inr ⟨b, off, e, hb, fun k h => (hB.cell hb).trans (hc k h)⟩

/-- The bytes of numbers, one behind the other. -/
def flat (l : List Int) : List Int := l.flatMap vlist
theorem flat_append (a b : List Int) : flat (a ++ b) = flat a ++ flat b := by simp [flat]
theorem flat_bd (l : List Int) : ∀ b ∈ flat l, 0 ≤ b ∧ b < 256 := by
  intro b h
  simp only [flat, List.mem_flatMap] at h
  obtain ⟨n, _, h⟩ := h
  exact vlist_bd n b h
theorem take_more (l : List Int) (k : Nat) (h : k < l.length) : l.take (k + 1) = l.take k ++ [l.getD k 0] := by
  rw [List.take_succ_eq_append_getElem h]
  simp [List.getD_eq_getElem?_getD, h]
theorem flat_take (l : List Int) (k : Nat) (h : k < l.length) : flat (l.take (k + 1)) = flat (l.take k) ++ vlist (l.getD k 0) := by
  rw [take_more l k h, flat_append]
  simp [flat]
theorem flat_len (l : List Int) : (flat l).length ≤ 9 * l.length := by
  induction l with
  | nil => simp [flat]
  | cons n l ih =>
    have := (vlen_pos n).2
    have e : flat (n :: l) = vlist n ++ flat l := by simp [flat]
    rw [e, List.length_append, vlist_length, List.length_cons]
    omega
theorem flat_str (l : List Int) (k : Nat) (h : k < l.length) : strOfNums (flat (l.take (k + 1))) = strOfNums (flat (l.take k)) ++ vstr (l.getD k 0) := by
  rw [flat_take l k h, str_append]; rfl
theorem flat_drop (l : List Int) (k : Nat) (h : k < l.length) : (nums (strOfNums (flat l))).drop (flat (l.take k)).length = vlist (l.getD k 0) ++ flat (l.drop (k + 1)) := by
  rw [nums_strOfNums _ (flat_bd l)]
  have e : flat l = flat (l.take k) ++ (vlist (l.getD k 0) ++ flat (l.drop (k + 1))) := by
    conv => lhs; rw [← List.take_append_drop (k + 1) l, flat_append, flat_take l k h]
    rw [List.append_assoc]
  conv => lhs; rw [e]
  simp

/-- The text of the first k. -/
def rowS (l : List Int) (k : Nat) : ByteArray := strOfNums (flat (l.take k))
/-- Where the number at k stands. -/
def rowA (l : List Int) (k : Nat) : Nat := (flat (l.take k)).length
theorem rowS_size (l : List Int) (k : Nat) : (rowS l k).size = rowA l k := by rw [rowS, strOfNums_size]; rfl
theorem rowA_le (l : List Int) (k : Nat) : rowA l k ≤ 9 * k := by
  have h1 := flat_len (l.take k)
  have h2 : (l.take k).length ≤ k := by simp; omega
  unfold rowA
  omega
theorem rowS_more (l : List Int) (k : Nat) (h : k < l.length) : rowS l k ++ vstr (l.getD k 0) = rowS l (k + 1) := (flat_str l k h).symm
theorem rowA_more (l : List Int) (k : Nat) (h : k < l.length) : rowA l (k + 1) = rowA l k + vlen (l.getD k 0) := by
  unfold rowA
  rw [flat_take l k h, List.length_append, vlist_length]

/-- In the whole text the number at k is got. -/
theorem row_got (l : List Int) (k : Nat) (h : k < l.length) (hz : ∀ n ∈ l, 0 ≤ n ∧ n < 18446744073709551616) :
    gotE (rowS l l.length) (rowA l k) = 0 ∧ gotN (rowS l l.length) (rowA l k) = l.getD k 0 ∧ gotT (rowS l l.length) (rowA l k) = rowA l (k + 1) := by
  have hm : l.getD k 0 ∈ l := by simp [List.getD_eq_getElem?_getD, h]
  have hb := hz _ hm
  have hd := flat_drop l k h
  have e : rowS l l.length = strOfNums (flat l) := by rw [rowS, List.take_length]
  rw [e]
  obtain ⟨e1, e2, e3⟩ := got_drop _ _ _ _ hb.1 hb.2 hd
  refine ⟨e1, e2, ?_⟩
  rw [rowA_more l k h]
  exact e3.trans (by simp [rowA])

/-- Where the first loop stands. -/
def PutsHead (l : List Int) (w : World) (s i : Value) (wr : World) : Prop := ∃ k : Nat, k ≤ l.length ∧ i = .int .i64 k ∧ s = .string (rowS l k) ∧ Below w.heap.size w wr
/-- Where the second loop stands. -/
def GetsHead (l : List Int) (w : World) (a i : Value) (wr : World) : Prop := ∃ k : Nat, k ≤ l.length ∧ i = .int .i64 k ∧ a = .int .i64 (rowA l k) ∧ Below w.heap.size w wr

theorem vget_row (l : List Int) (k : Nat) (w : World) (h : k < l.length) (h20 : l.length ≤ 20) (hz : ∀ n ∈ l, 0 ≤ n ∧ n < 18446744073709551616) :
    Calls Try.prog 8 #[.string (rowS l l.length), .int .i64 (rowA l k)] w fun e w' => e = .returned (.tuple #[.int .u64 (l.getD k 0), .int .i64 (rowA l (k + 1)), .int .i64 0]) ∧ Below w.heap.size w w' := by
  obtain ⟨e1, e2, e3⟩ := row_got l k h hz
  refine (vget_any _ _ w ?_).mono fun _ _ ⟨he, hw⟩ => ⟨he.trans (ret_nnn e2 e3 e1), hw⟩
  have := rowA_le l l.length
  rw [rowS_size]
  omega
theorem vget_behind (l : List Int) (w : World) (h20 : l.length ≤ 20) :
    Calls Try.prog 8 #[.string (rowS l l.length), .int .i64 (rowA l l.length)] w fun e w' => e = .returned (.tuple #[.int .u64 0, .int .i64 0, .int .i64 5]) ∧ Below w.heap.size w w' := by
  have hE : gotE (rowS l l.length) (rowA l l.length) = 5 := gotE_end (by rw [rowS_size])
  refine (vget_any _ _ w ?_).mono fun _ _ ⟨he, hw⟩ => ⟨he.trans (ret_nnn (by simp [gotN, hE]) (by simp [gotT, hE]) hE), hw⟩
  have := rowA_le l l.length
  rw [rowS_size]
  omega

set_option maxHeartbeats 1000000 in
theorem row_any (A : Option Addr) (cap len : Nat) (l : List Int) (w : World) (h : Ints w w.heap.size A l) (hl : l.length = cutN 20 len) (hz : ∀ n ∈ l, 0 ≤ n ∧ n < 18446744073709551616) (_hm : len ≤ maxLen) (hcap : len ≤ cap) :
    Calls Try.prog 6 #[.slice A len cap] w fun e w' => e = .returned (.bool true) ∧ Below w.heap.size w w' := by
  unfold maxLen at _hm
  have hn := run_min20
  have hc := cutN_le 20 len
  have H := Lib.hid h
  have HZ := Lib.hid hz
  have HLEN := Lib.hid hl
  generalize hcc : cutN 20 len = m at hl hc
  subst hl
  have h20 : l.length ≤ 20 := hc.1
  clear h hz
  go_enter Try.func6, Try.ntmps6
  go_wp2_with fail
  go_loopw [3, 21] (fun s i wr => PutsHead l w s i wr) (fun _ i _ => l.length - (intOf i).toNat)
  case atStart => exact ⟨0, by omega, rfl, by simp [rowS, flat, strOfNums], Below.refl _ _⟩
  case round =>
    obtain ⟨k, hk, rfl, rfl, hbel⟩ := hrel
    have hA := rowA_le l k
    have hS := rowS_size l k
    by_cases hlt : k < l.length
    · obtain ⟨b, off, rfl, hb, hcell⟩ := (H.out.below hbel).at hlt
      have hmem : l.getD k 0 ∈ l := by simp [List.getD_eq_getElem?_getD, hlt]
      have hxb := HZ.out _ hmem
      have HS := Lib.hid (rowS_more l k hlt)
      have HSZ := vstr_size (l.getD k 0)
      have hv9 := (vlen_pos (l.getD k 0)).2
      generalize l.getD k 0 = x at hcell hxb HS HSZ hv9
      generalize vlen x = v at HSZ hv9
      clear hmem
      have hkb : decide (k < l.length) = true := decide_eq_true hlt
      have HB := Lib.hid hbel
      clear hbel
      go_wp2_with fail
      refine (vput_any x wr hxb.1 hxb.2).mono ?_
      rintro e w1 ⟨rfl, hB1⟩
      go_wp2_with fail
      go_roundw
      case rel => exact ⟨k + 1, by omega, by go_num, by rw [HS.out], HB.out.trans (hB1.mono HB.out.size)⟩
      case measure => simp [intOf]; omega
    · obtain rfl : k = l.length := by omega
      obtain ⟨w2, rfl⟩ : ∃ w2, w2 = wr := ⟨_, rfl⟩
      have HB2 := Lib.hid hbel
      have hkb : decide (l.length < l.length) = false := decide_eq_false hlt
      clear hbel
      generalize hss : rowS l l.length = s at hS
      have HSS := Lib.hid hss
      clear hss
      go_wp2_with fail
      go_loopw [6, 36] (fun a i wr => GetsHead l w a i wr) (fun _ i _ => l.length - (intOf i).toNat)
      case atStart => exact ⟨0, by omega, rfl, by simp [rowA, flat], HB2.out⟩
      case round =>
        obtain ⟨k, hk, rfl, rfl, hbel⟩ := hrel
        by_cases hlt : k < l.length
        · obtain ⟨b, off, rfl, hb, hcell⟩ := (H.out.below hbel).at hlt
          have HG := vget_row l k wr hlt h20 HZ.out
          rw [HSS.out] at HG
          have hmore := rowA_more l k hlt
          have hv1 := (vlen_pos (l.getD k 0)).1
          have hA2 := rowA_le l (k + 1)
          generalize l.getD k 0 = x at hcell HG hmore hv1
          generalize vlen x = v at hmore hv1
          have hkb : decide (k < l.length) = true := decide_eq_true hlt
          have HB := Lib.hid hbel
          have HG2 := Lib.hid HG
          clear hbel HG
          generalize hr1 : rowA l (k + 1) = r1 at HG2 hmore hA2
          generalize hr0 : rowA l k = r0 at HG2 hmore
          have hlt2 : r0 < r1 := by omega
          have HR := Lib.hid hr1
          clear hr1 hr0 hmore
          go_wp2_with fail
          refine HG2.out.mono ?_
          rintro e w1 ⟨rfl, hB1⟩
          go_wp2_with fail
          go_roundw
          case rel => exact ⟨k + 1, by omega, by go_num, by rw [HR.out], HB.out.trans (hB1.mono HB.out.size)⟩
          case measure => simp [intOf]; omega
        · obtain rfl : k = l.length := by omega
          have HG := vget_behind l wr h20
          rw [HSS.out] at HG
          have hkb : decide (l.length < l.length) = false := decide_eq_false hlt
          have HB := Lib.hid hbel
          have HG2 := Lib.hid HG
          clear hbel HG
          go_wp2_with fail
          refine HG2.out.mono ?_
          rintro e w1 ⟨rfl, hB1⟩
          go_wp2_with fail
          refine (wakes_any w1).mono ?_
          rintro e w3 ⟨rfl, hB3⟩
          go_wp2_with fail
          go_ret
          exact ⟨rfl, (HB.out.trans (hB1.mono HB.out.size)).trans (hB3.mono (Nat.le_trans HB.out.size hB1.size))⟩
end Go.Proofs.Ytmdifblaloalpaa
