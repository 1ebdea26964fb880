/-
  The document's Base and long: is a point the base point, is a text too long?
  May a transaction be: the document's Check.
  May a transaction be: the document's Check, walked.
-/
import Derived.Test.YtjclklppnkoehaaGreatDoorCheck

namespace Go.Proofs.YtjclklppnkoehaaGreatDoor
open Go.RowKit
set_option maxRecDepth 100000

/-- The byte at a place, as a number. -/
def byteAt (s : ByteArray) (k : Nat) : Int := ((s.data.toList.getD k 0).toNat : Int)

theorem index_at (s : ByteArray) (k : Nat) (h : k < s.size) (w : World) : (Instr.index 9 (.string s) (.int .i64 (k : Int))).run Tryz.prog w = .ok (.int .u8 (byteAt s k)) w := by
  rw [run_index_string w 9 s .i64 k Tryz.underlying9]
  simp [h, byteAt]
  rfl

theorem zeros_list : zeros.data.toList = List.replicate 32 0 := by decide +kernel
theorem base_yes {a : ByteArray} (h : a.size = 32) (hz : ∀ k, k < 32 → byteAt a k = 0) : a = zeros := by
  apply bytes_ext
  rw [ByteArray.toList_eq, ByteArray.toList_eq, zeros_list]
  apply List.ext_getElem?
  intro k
  have hl : a.data.toList.length = 32 := by simpa using h
  by_cases hk : k < 32
  · have h1 := hz k hk
    unfold byteAt at h1
    have hkl : k < a.data.toList.length := by omega
    rw [List.getD_eq_getElem?_getD, List.getElem?_eq_getElem hkl] at h1
    rw [List.getElem?_eq_getElem hkl, List.getElem?_replicate, if_pos hk]
    congr 1
    apply UInt8.toNat_inj.1
    simp at h1 ⊢
    omega
  · rw [List.getElem?_eq_none (by omega), List.getElem?_eq_none (by simp; omega)]
theorem base_no {a : ByteArray} {i : Int} {k : Nat} (hk : k < 32) (hz : byteAt a k ≠ 0) : baseB a i = false := by
  unfold baseB
  rw [Bool.eq_false_iff]
  intro h
  obtain ⟨rfl, _⟩ := (ptB_iff _ _ _ _).1 h
  apply hz
  unfold byteAt
  rw [zeros_list, List.getD_eq_getElem?_getD, List.getElem?_replicate, if_pos hk]
  rfl

set_option maxHeartbeats 1000000 in
theorem rbase_any (a : ByteArray) (i : Int) (w : World) :
    Calls Tryz.prog 25 #[.agg #[.string a, .int .u32 i]] w fun e w' => e = .returned (.bool (baseB a i)) ∧ Below w.heap.size w w' := by
  by_cases hs : a.size = 32
  · by_cases hi : i = 4294967295
    · have e1 : ((a.size : Int) != 32) = false := by rw [bne_eq_false_iff_eq]; omega
      have e2 : (i != 4294967295) = false := by rw [bne_eq_false_iff_eq]; exact hi
      have Y := Lib.hid (fun hz => show baseB a i = true from (ptB_iff _ _ _ _).2 ⟨base_yes hs hz, hi⟩)
      have N := Lib.hid (fun (k : Nat) (hk : k < 32) hz => base_no (a := a) (i := i) (k := k) hk hz)
      have HS := Lib.hid hs
      have IX := Lib.hid (index_at a)
      clear hs hi
      go_enter Tryz.func25, Tryz.ntmps25
      go_wp2_with fail
      go_loopg [3] 32 (fun gg s wr => ∃ k : Nat, k ≤ 32 ∧ 32 - k ≤ gg ∧ s = .int .i64 k ∧ Hid (w.alloc (.cells #[.string a, .int .u32 i] 55) = wr) ∧ Hid (∀ j, j < k → byteAt a j = 0))
      case atStart => exact ⟨0, Nat.zero_le _, by omega, rfl, rfl, fun j hj => absurd hj (Nat.not_lt_zero _)⟩
      case round =>
        obtain ⟨k, hk, hg, rfl, HW, HZ⟩ := hrel
        have hw := HW.out
        subst hw
        by_cases hlt : k < 32
        · have h1 : (k : Int) < 32 := by omega
          have hd : decide ((k : Int) < 32) = true := decide_eq_true h1
          have hx := IX.out k (by have := HS.out; omega)
          obtain ⟨b, hb⟩ : ∃ b, byteAt a k = b := ⟨_, rfl⟩
          rw [hb] at hx
          have HB := Lib.hid hb
          clear hb
          cases hq : b != 0
          · go_wp2_with fail
            go_roundg (32 - (k + 1))
            case measure => omega
            case rel =>
              refine ⟨k + 1, by omega, by omega, by go_num, rfl, (show Hid _ from fun j hj => ?_)⟩
              by_cases e : j = k
              · subst e; rw [HB.out]; simpa using hq
              · exact HZ.out j (by omega)
          · go_wp2_with fail
            go_ret
            exact ⟨ret_bool (N.out k hlt (by rw [HB.out]; simpa using hq)).symm, (Below.refl _ _).alloc (Nat.le_refl _) _⟩
        · have h1 : ¬ (k : Int) < 32 := by omega
          obtain rfl : k = 32 := by omega
          go_wp2_with fail
          go_ret
          exact ⟨ret_bool (Y.out HZ.out).symm, (Below.refl _ _).alloc (Nat.le_refl _) _⟩
    · have e1 : ((a.size : Int) != 32) = false := by rw [bne_eq_false_iff_eq]; omega
      have e2 : (i != 4294967295) = true := by rw [bne_iff_ne]; exact hi
      have E := Lib.hid (show baseB a i = false from by rw [Bool.eq_false_iff]; intro h; exact hi ((ptB_iff _ _ _ _).1 h).2)
      clear hs hi
      go_enter Tryz.func25, Tryz.ntmps25
      go_wp2_with fail
      go_ret
      exact ⟨ret_bool E.out.symm, (Below.refl _ _).alloc (Nat.le_refl _) _⟩
  · have e1 : ((a.size : Int) != 32) = true := by rw [bne_iff_ne]; omega
    have E := Lib.hid (show baseB a i = false from by
      rw [Bool.eq_false_iff]
      intro h
      obtain ⟨rfl, _⟩ := (ptB_iff _ _ _ _).1 h
      exact hs (by decide +kernel))
    clear hs
    go_enter Tryz.func25, Tryz.ntmps25
    go_wp2_with fail
    go_ret
    exact ⟨ret_bool E.out.symm, (Below.refl _ _).alloc (Nat.le_refl _) _⟩

theorem any_hit {α : Type} {p : α → Bool} {xs : List α} {k : Nat} {x : α} (hx : xs[k]? = some x) (hp : p x = true) : xs.any p = true := List.any_eq_true.2 ⟨x, List.mem_of_getElem? hx, hp⟩
theorem any_miss {α : Type} {p : α → Bool} {xs : List α} {n : Nat} (hn : xs.length ≤ n) (h : ∀ (j : Nat) (y : α), j < n → xs[j]? = some y → p y = false) : xs.any p = false := by
  rw [List.any_eq_false]
  intro x hx
  obtain ⟨j, hj⟩ := List.getElem?_of_mem hx
  rw [h j x (by have := (List.getElem?_eq_some_iff.1 hj).1; omega) hj]
  simp
/-- None of the first k. -/
def NoneYet {α : Type} (p : α → Bool) (xs : List α) (k : Nat) : Prop := ∀ (j : Nat) (y : α), j < k → xs[j]? = some y → p y = false
theorem NoneYet.zero {α : Type} (p : α → Bool) (xs : List α) : NoneYet p xs 0 := fun _ _ h => absurd h (Nat.not_lt_zero _)
theorem NoneYet.step {α : Type} {p : α → Bool} {xs : List α} {k : Nat} {x : α} (h : NoneYet p xs k) (hx : xs[k]? = some x) (hp : p x = false) : NoneYet p xs (k + 1) := by
  intro j y hj hy
  by_cases e : j = k
  · subst e; rw [hx] at hy; injection hy with hy; subst hy; exact hp
  · exact h j y (by omega) hy

set_option maxHeartbeats 2000000 in
theorem rlong_any (t : TxD) (vi vo : Value) (w : World) (lo hi : Nat) (ht : TxAt w lo hi vi vo t) (hhi : hi ≤ w.heap.size) (hok : t.Ok) :
    Calls Tryz.prog 48 #[.agg #[.int .u32 t.ver, vi, vo, .int .u32 t.lock]] w fun e w' => e = .returned (.bool (longB t)) ∧ Below w.heap.size w w' := by
  obtain ⟨tv, ti, to, tl⟩ := t
  obtain ⟨A1, m1, rfl⟩ := ht.1.form
  obtain ⟨A2, m2, rfl⟩ := ht.2.form
  obtain ⟨w1, hw1⟩ : ∃ w1, w1 = w.alloc (.cells #[.int .u32 tv, .slice A1 ti.length m1, .slice A2 to.length m2, .int .u32 tl] 34) := ⟨_, rfl⟩
  have hT : TxAt w1 lo hi (.slice A1 ti.length m1) (.slice A2 to.length m2) ⟨tv, ti, to, tl⟩ := by rw [hw1]; exact ht.keep (Kept.alloc hhi _)
  have bw : Below w.heap.size w w1 := by rw [hw1]; exact (Below.refl _ _).alloc (Nat.le_refl _) _
  obtain ⟨a0, a1, a2, a3⟩ : Boxed w1 w.heap.size (.int .u32 tv) (.slice A1 ti.length m1) (.slice A2 to.length m2) (.int .u32 tl) := by rw [hw1]; exact Boxed.new _ _ _ _ _ _
  have HT := Lib.hid hT
  have BW := Lib.hid bw
  have HW := Lib.hid hw1
  have HO := Lib.hid hok
  have l1 := hok.1
  have l2 := hok.2.1
  simp only at l1 l2 ⊢
  have E1 := Lib.hid (longB_out (t := ⟨tv, ti, to, tl⟩))
  have E2 := Lib.hid (longB_in (t := ⟨tv, ti, to, tl⟩))
  clear hT bw hw1 hok ht
  go_enter Tryz.func48, Tryz.ntmps48
  go_wp2_with fail
  go_loopg [3] to.length (fun gg s wr => ∃ k : Nat, k ≤ to.length ∧ to.length - k ≤ gg ∧ s = .int .i64 k ∧ Hid (w1 = wr) ∧ Hid (NoneYet (fun o : OutD => decide (40 < o.scr.size)) to k))
  case atStart => exact ⟨0, Nat.zero_le _, by omega, rfl, HW, NoneYet.zero _ _⟩
  case round =>
    obtain ⟨k, hk, hg, rfl, HWR, HN⟩ := hrel
    have hw := HWR.out
    subst hw
    by_cases hlt : k < to.length
    · have k1 : (k : Int) < (to.length : Int) := by omega
      have k2 : decide (k < to.length) = true := decide_eq_true hlt
      obtain ⟨x, hx⟩ : ∃ x, to[k]? = some x := ⟨_, List.getElem?_eq_getElem hlt⟩
      obtain ⟨b, off, rfl, _, _, c0, c1⟩ := HT.out.2.at hx
      have HX := Lib.hid hx
      clear hx
      by_cases hs : 40 < x.scr.size
      · have s1 : (40 : Int) < (x.scr.size : Int) := by omega
        go_wp2_with fail
        go_ret
        exact ⟨ret_bool (E1.out (any_hit HX.out (decide_eq_true hs))).symm, BW.out⟩
      · have s1 : ¬ (40 : Int) < (x.scr.size : Int) := by omega
        go_wp2_with fail
        go_roundg (to.length - (k + 1))
        case measure => omega
        case rel => exact ⟨k + 1, by omega, by omega, by go_num, rfl, HN.out.step HX.out (decide_eq_false hs)⟩
    · have k1 : ¬ (k : Int) < (to.length : Int) := by omega
      have EI := Lib.hid (E2.out (any_miss (n := k) (by omega) HN.out))
      go_wp2_with fail
      go_loopg [4, 5] ti.length (fun gg s _ wr => ∃ k : Nat, k ≤ ti.length ∧ ti.length - k ≤ gg ∧ s = .int .i64 k ∧ Hid (w1 = wr) ∧ Hid (NoneYet (fun x : InD => x.wit.any fun s => decide (80 < s.size)) ti k))
      case atStart => exact ⟨0, Nat.zero_le _, by omega, rfl, rfl, NoneYet.zero _ _⟩
      case round =>
        obtain ⟨j, hj, hgj, rfl, HWJ, HNJ⟩ := hrel
        have hw := HWJ.out
        subst hw
        by_cases hjl : j < ti.length
        · have j1 : (j : Int) < (ti.length : Int) := by omega
          have j2 : decide (j < ti.length) = true := decide_eq_true hjl
          obtain ⟨x, hx⟩ : ∃ x, ti[j]? = some x := ⟨_, List.getElem?_eq_getElem hjl⟩
          obtain ⟨b, off, rfl, _, _, c0, c1, c2, v, c3, hs⟩ := HT.out.1.at hx
          obtain ⟨B1, n1, rfl⟩ := hs.form
          have hwl := (HO.out.2.2.1 x (List.mem_of_getElem? hx)).2.2.2.2.2.1
          have HX := Lib.hid hx
          have HS := Lib.hid hs
          clear hx hs
          go_wp2_with fail
          go_loopg [5] x.wit.length (fun gg s wr => ∃ k : Nat, k ≤ x.wit.length ∧ x.wit.length - k ≤ gg ∧ s = .int .i64 k ∧ Hid (w1 = wr) ∧ Hid (NoneYet (fun s : ByteArray => decide (80 < s.size)) x.wit k))
          case atStart => exact ⟨0, Nat.zero_le _, by omega, rfl, rfl, NoneYet.zero _ _⟩
          case round =>
            obtain ⟨i, hi', hgi, rfl, HWI, HNI⟩ := hrel
            have hw := HWI.out
            subst hw
            by_cases hil : i < x.wit.length
            · have i1 : (i : Int) < (x.wit.length : Int) := by omega
              have i2 : decide (i < x.wit.length) = true := decide_eq_true hil
              obtain ⟨s, hsi⟩ : ∃ s, x.wit[i]? = some s := ⟨_, List.getElem?_eq_getElem hil⟩
              obtain ⟨eb, eo, rfl, _, _, cs⟩ := HS.out.at hil
              rw [show x.wit.getD i ByteArray.empty = s from by simp [List.getD_eq_getElem?_getD, hsi]] at cs
              have HSI := Lib.hid hsi
              clear hsi
              by_cases hs : 80 < s.size
              · have s1 : (80 : Int) < (s.size : Int) := by omega
                go_wp2_with fail
                go_ret
                exact ⟨ret_bool (by rw [EI.out]; exact (any_hit HX.out (any_hit HSI.out (decide_eq_true hs))).symm), BW.out⟩
              · have s1 : ¬ (80 : Int) < (s.size : Int) := by omega
                go_wp2_with fail
                go_roundg (x.wit.length - (i + 1))
                case measure => omega
                case rel => exact ⟨i + 1, by omega, by omega, by go_num, rfl, HNI.out.step HSI.out (decide_eq_false hs)⟩
            · have i1 : ¬ (i : Int) < (x.wit.length : Int) := by omega
              go_wp2_with fail
              go_roundg (ti.length - (j + 1))
              case measure => omega
              case rel => exact ⟨j + 1, by omega, by omega, by go_num, rfl, HNJ.out.step HX.out (any_miss (n := i) (by omega) HNI.out)⟩
        · have j1 : ¬ (j : Int) < (ti.length : Int) := by omega
          go_wp2_with fail
          go_ret
          exact ⟨ret_bool (by rw [EI.out]; exact (any_miss (n := j) (by omega) HNJ.out).symm), BW.out⟩

end Go.Proofs.YtjclklppnkoehaaGreatDoor

namespace Go.Proofs.YtjclklppnkoehaaGreatDoor
open Go.RowKit
set_option maxRecDepth 100000

theorem two_of_count {α : Type} (p : α → Bool) (xs : List α) (h : 1 < xs.countP p) : ∃ (i k : Nat) (x y : α), k < i ∧ xs[i]? = some x ∧ xs[k]? = some y ∧ p x = true ∧ p y = true := by
  induction xs with
  | nil => simp at h
  | cons a r ih =>
    rw [List.countP_cons] at h
    by_cases ha : p a = true
    · rw [if_pos ha] at h
      have hpos : 0 < r.countP p := by omega
      obtain ⟨x, hx, hp⟩ := List.countP_pos_iff.1 hpos
      obtain ⟨j, hj⟩ := List.getElem?_of_mem hx
      exact ⟨j + 1, 0, x, a, by omega, by simpa using hj, rfl, hp, ha⟩
    · rw [if_neg ha] at h
      obtain ⟨i, k, x, y, hki, hx, hy, h1, h2⟩ := ih (by omega)
      exact ⟨i + 1, k + 1, x, y, by omega, by simpa using hx, by simpa using hy, h1, h2⟩
theorem count_of_two {α : Type} (p : α → Bool) (xs : List α) {i k : Nat} {x y : α} (hki : k < i) (hx : xs[i]? = some x) (hy : xs[k]? = some y) (h1 : p x = true) (h2 : p y = true) : 1 < xs.countP p := by
  induction xs generalizing i k with
  | nil => simp at hx
  | cons a r ih =>
    rw [List.countP_cons]
    obtain ⟨i, rfl⟩ : ∃ j, i = j + 1 := ⟨i - 1, by omega⟩
    simp only [List.getElem?_cons_succ] at hx
    cases k with
    | zero =>
      simp at hy
      subst hy
      have : 0 < r.countP p := List.countP_pos_iff.2 ⟨x, List.mem_of_getElem? hx, h1⟩
      rw [if_pos h2]; omega
    | succ k =>
      simp only [List.getElem?_cons_succ] at hy
      have := ih (by omega) hx hy
      omega

theorem twice_yes {xs : List InD} {i k : Nat} {x y : InD} (hki : k < i) (hx : xs[i]? = some x) (hy : xs[k]? = some y) (h : ptB x.id x.ix y.id y.ix = true) : twiceB xs = true := by
  refine List.any_eq_true.2 ⟨x, List.mem_of_getElem? hx, ?_⟩
  unfold moreB cnt
  refine decide_eq_true (count_of_two _ xs hki hx hy ?_ ?_)
  · exact (ptB_iff _ _ _ _).2 ⟨rfl, rfl⟩
  · obtain ⟨e1, e2⟩ := (ptB_iff _ _ _ _).1 h
    exact (ptB_iff _ _ _ _).2 ⟨e1.symm, e2.symm⟩
theorem twice_no {xs : List InD} (h : ∀ (i k : Nat) (x y : InD), k < i → xs[i]? = some x → xs[k]? = some y → ptB x.id x.ix y.id y.ix = false) : twiceB xs = false := by
  rw [Bool.eq_false_iff]
  intro h2
  obtain ⟨z, _, hz⟩ := List.any_eq_true.1 h2
  unfold moreB cnt at hz
  obtain ⟨i, k, x, y, hki, hx, hy, p1, p2⟩ := two_of_count _ _ (of_decide_eq_true hz)
  obtain ⟨e1, e2⟩ := (ptB_iff _ _ _ _).1 p1
  obtain ⟨f1, f2⟩ := (ptB_iff _ _ _ _).1 p2
  have := h i k x y hki hx hy
  rw [(ptB_iff _ _ _ _).2 ⟨e1.trans f1.symm, e2.trans f2.symm⟩] at this
  cases this

/-- No input up to i is From an output of one ahead of it. -/
def NoPair (xs : List InD) (n : Nat) : Prop := ∀ (i k : Nat) (x y : InD), i < n → k < i → xs[i]? = some x → xs[k]? = some y → ptB x.id x.ix y.id y.ix = false
theorem NoPair.zero (xs : List InD) : NoPair xs 0 := fun _ _ _ _ h => absurd h (Nat.not_lt_zero _)
/-- Input i is From no output of the first k. -/
def NoneOf (xs : List InD) (x : InD) (n : Nat) : Prop := ∀ (k : Nat) (y : InD), k < n → xs[k]? = some y → ptB x.id x.ix y.id y.ix = false
theorem NoneOf.zero (xs : List InD) (x : InD) : NoneOf xs x 0 := fun _ _ h => absurd h (Nat.not_lt_zero _)
theorem NoneOf.step {xs : List InD} {x y : InD} {k : Nat} (h : NoneOf xs x k) (hy : xs[k]? = some y) (hp : ptB x.id x.ix y.id y.ix = false) : NoneOf xs x (k + 1) := by
  intro j z hj hz
  by_cases e : j = k
  · subst e; rw [hy] at hz; injection hz with hz; subst hz; exact hp
  · exact h j z (by omega) hz
theorem NoPair.step {xs : List InD} {x : InD} {i : Nat} (h : NoPair xs i) (hx : xs[i]? = some x) (hn : NoneOf xs x i) : NoPair xs (i + 1) := by
  intro j k z y hj hk hz hy
  by_cases e : j = i
  · subst e; rw [hx] at hz; injection hz with hz; subst hz; exact hn k y hk hy
  · exact h j k z y (by omega) hk hz hy
theorem NoPair.twice {xs : List InD} {n : Nat} (h : NoPair xs n) (hn : xs.length ≤ n) : twiceB xs = false :=
  twice_no fun i k x y hki hx hy => h i k x y (by have := (List.getElem?_eq_some_iff.1 hx).1; omega) hki hx hy

theorem inR_no1 {n : Nat} (h : n < 1) : inR n 1 256 = false := by unfold inR; rw [decide_eq_false (by omega)]; rfl
theorem inR_no2 {n : Nat} (h : 256 < n) : inR n 1 256 = false := by unfold inR; rw [decide_eq_false (p := (n : Int) ≤ 256) (by omega)]; simp
theorem inR_yes {n : Nat} (h1 : 1 ≤ n) (h2 : n ≤ 256) : inR n 1 256 = true := by unfold inR; rw [decide_eq_true (by omega), decide_eq_true (by omega)]; rfl
theorem amiss_size {al : Bool} {a : ByteArray} {i : Int} (h : a.size ≠ 32) : amissB al a i = true := by unfold amissB; simp [h]
theorem amiss_base {a : ByteArray} {i : Int} (h : a.size = 32) : amissB false a i = baseB a i := by unfold amissB; simp [h]
theorem amiss_alone {a : ByteArray} {i : Int} (h : a.size = 32) : amissB true a i = false := by unfold amissB; simp [h]

end Go.Proofs.YtjclklppnkoehaaGreatDoor

namespace Go.Proofs.YtjclklppnkoehaaGreatDoor
open Go.RowKit
set_option maxRecDepth 100000

set_option maxHeartbeats 6000000 in
set_option maxRecDepth 100000 in
theorem rcheck_any (t : TxD) (vi vo : Value) (w : World) (lo hi : Nat) (ht : TxAt w lo hi vi vo t) (hhi : hi ≤ w.heap.size) (hok : t.Ok) :
    Calls Tryz.prog 24 #[.agg #[.int .u32 t.ver, vi, vo, .int .u32 t.lock]] w fun e w' => e = .returned (.int .i64 (checkD t)) ∧ Below w.heap.size w w' := by
  obtain ⟨tv, ti, to, tl⟩ := t
  obtain ⟨A1, m1, rfl⟩ := ht.1.form
  obtain ⟨A2, m2, rfl⟩ := ht.2.form
  obtain ⟨w1, hw1⟩ : ∃ w1, w1 = w.alloc (.cells #[.int .u32 tv, .slice A1 ti.length m1, .slice A2 to.length m2, .int .u32 tl] 34) := ⟨_, rfl⟩
  have hT : TxAt w1 lo hi (.slice A1 ti.length m1) (.slice A2 to.length m2) ⟨tv, ti, to, tl⟩ := by rw [hw1]; exact ht.keep (Kept.alloc hhi _)
  have bw : Below w.heap.size w w1 := by rw [hw1]; exact (Below.refl _ _).alloc (Nat.le_refl _) _
  have z1 : w1.heap.size = w.heap.size + 1 := by rw [hw1]; simp
  have hbx : Boxed w1 w.heap.size (.int .u32 tv) (.slice A1 ti.length m1) (.slice A2 to.length m2) (.int .u32 tl) := by rw [hw1]; exact Boxed.new _ _ _ _ _ _
  have HBX := Lib.hid hbx
  obtain ⟨a0, a1, a2, a3⟩ := hbx
  have HT := Lib.hid hT
  have BW := Lib.hid bw
  have HW := Lib.hid hw1
  have HO := Lib.hid hok
  have Z1 := Lib.hid z1
  have l1 := hok.1
  have l2 := hok.2.1
  simp only at l1 l2 ⊢
  have C0 := Lib.hid (checkD_count (t := ⟨tv, ti, to, tl⟩))
  have C1 := Lib.hid (checkD_long (t := ⟨tv, ti, to, tl⟩))
  have C2 := Lib.hid (checkD_form (t := ⟨tv, ti, to, tl⟩))
  have C3 := Lib.hid (checkD_twice (t := ⟨tv, ti, to, tl⟩))
  have C4 := Lib.hid (checkD_range (t := ⟨tv, ti, to, tl⟩))
  have N1 := Lib.hid (countsB_ins (t := ⟨tv, ti, to, tl⟩))
  have N2 := Lib.hid (countsB_outs (t := ⟨tv, ti, to, tl⟩))
  have N3 := Lib.hid (countsB_items (t := ⟨tv, ti, to, tl⟩))
  clear hT bw hw1 hok ht z1
  have fin : ∀ e, checkD ⟨tv, ti, to, tl⟩ = e → Ending.returned (.int .i64 e) = .returned (.int .i64 (checkD ⟨tv, ti, to, tl⟩)) := fun e h => ret_int h.symm
  have FIN := Lib.hid fin
  clear fin
  rcases (show ti.length < 1 ∨ 256 < ti.length ∨ (1 ≤ ti.length ∧ ti.length ≤ 256) from by omega) with h1 | h1 | ⟨h1, h1'⟩
  · have e1 : (ti.length : Int) < 1 := by omega
    go_enter Tryz.func24, Tryz.ntmps24
    go_wp2_with fail
    go_ret
    exact ⟨FIN.out _ (C0.out (N1.out (inR_no1 h1))), (Below.refl _ _).alloc (Nat.le_refl _) _⟩
  · have e1 : ¬ (ti.length : Int) < 1 := by omega
    have e2 : (256 : Int) < (ti.length : Int) := by omega
    go_enter Tryz.func24, Tryz.ntmps24
    go_wp2_with fail
    go_ret
    exact ⟨FIN.out _ (C0.out (N1.out (inR_no2 h1))), (Below.refl _ _).alloc (Nat.le_refl _) _⟩
  have e1 : ¬ (ti.length : Int) < 1 := by omega
  have e2 : ¬ (256 : Int) < (ti.length : Int) := by omega
  rcases (show to.length < 1 ∨ 256 < to.length ∨ (1 ≤ to.length ∧ to.length ≤ 256) from by omega) with h2 | h2 | ⟨h2, h2'⟩
  · have e3 : (to.length : Int) < 1 := by omega
    go_enter Tryz.func24, Tryz.ntmps24
    go_wp2_with fail
    go_ret
    exact ⟨FIN.out _ (C0.out (N2.out (inR_no1 h2))), (Below.refl _ _).alloc (Nat.le_refl _) _⟩
  · have e3 : ¬ (to.length : Int) < 1 := by omega
    have e4 : (256 : Int) < (to.length : Int) := by omega
    go_enter Tryz.func24, Tryz.ntmps24
    go_wp2_with fail
    go_ret
    exact ⟨FIN.out _ (C0.out (N2.out (inR_no2 h2))), (Below.refl _ _).alloc (Nat.le_refl _) _⟩
  have e3 : ¬ (to.length : Int) < 1 := by omega
  have e4 : ¬ (256 : Int) < (to.length : Int) := by omega
  have NI := Lib.hid (N3.out (inR_yes h1 h1') (inR_yes h2 h2'))
  go_enter Tryz.func24, Tryz.ntmps24
  go_wp2_with fail
  go_loopg [3] ti.length (fun gg s wr => ∃ k : Nat, k ≤ ti.length ∧ ti.length - k ≤ gg ∧ s = .int .i64 k ∧ Hid (w1 = wr) ∧ Hid (NoneYet (fun x : InD => manyB x.wit.length) ti k))
  case atStart => exact ⟨0, Nat.zero_le _, by omega, rfl, HW, NoneYet.zero _ _⟩
  case round =>
    obtain ⟨k, hk, hg, rfl, HWR, HN⟩ := hrel
    have hw := HWR.out
    subst hw
    by_cases hlt : k < ti.length
    · have k1 : (k : Int) < (ti.length : Int) := by omega
      have k2 : decide (k < ti.length) = true := decide_eq_true hlt
      obtain ⟨x, hx⟩ : ∃ x, ti[k]? = some x := ⟨_, List.getElem?_eq_getElem hlt⟩
      obtain ⟨b, off, rfl, _, _, c0, c1, c2, v, c3, hs⟩ := HT.out.1.at hx
      obtain ⟨B1, n1, rfl⟩ := hs.form
      have HX := Lib.hid hx
      clear hx hs
      by_cases hm : 4 < x.wit.length
      · have s1 : (4 : Int) < (x.wit.length : Int) := by omega
        go_wp2_with fail
        go_ret
        exact ⟨FIN.out _ (C0.out (by rw [NI.out, any_hit HX.out (show manyB x.wit.length = true from decide_eq_true hm)]; rfl)), BW.out⟩
      · have s1 : ¬ (4 : Int) < (x.wit.length : Int) := by omega
        go_wp2_with fail
        go_roundg (ti.length - (k + 1))
        case measure => omega
        case rel => exact ⟨k + 1, by omega, by omega, by go_num, rfl, HN.out.step HX.out (decide_eq_false hm)⟩
    · have k1 : ¬ (k : Int) < (ti.length : Int) := by omega
      have CB := Lib.hid (show countsB ⟨tv, ti, to, tl⟩ = true from by rw [NI.out, any_miss (n := k) (by omega) HN.out]; rfl)
      go_wp2_with fail
      refine (rlong_any ⟨tv, ti, to, tl⟩ _ _ _ lo hi HT.out (by have := Z1.out; omega) HO.out).mono ?_
      rintro e w2 ⟨rfl, hb2⟩
      have X2 := Lib.hid (HBX.out.below (by have := Z1.out; omega) hb2)
      have T2 := Lib.hid (HT.out.keep (Kept.of_below hb2 (by have := Z1.out; omega)))
      have K2 := Lib.hid (below_next BW.out (by have := Z1.out; omega) hb2)
      have z2 : w.heap.size + 1 ≤ w2.heap.size := by have := hb2.size; have := Z1.out; omega
      clear hb2 a0 a1 a2 a3
      obtain ⟨a0, a1, a2, a3⟩ := X2.out
      cases hlg : longB ⟨tv, ti, to, tl⟩
      case true =>
        go_wp2_with fail
        go_ret
        exact ⟨FIN.out _ (C1.out CB.out hlg), K2.out⟩
      go_wp2_with fail
      go_loopg [5, 6] ti.length (fun gg s _ wr => ∃ k : Nat, k ≤ ti.length ∧ ti.length - k ≤ gg ∧ s = .int .i64 k ∧ Hid (Below w2.heap.size w2 wr) ∧ Hid (NoneYet (fun x : InD => amissB (ti.length == 1) x.id x.ix) ti k))
      case atStart => exact ⟨0, Nat.zero_le _, by omega, rfl, Below.refl _ _, NoneYet.zero _ _⟩
      case round =>
        obtain ⟨j, hj, hgj, rfl, HB, HNJ⟩ := hrel
        clear a0 a1 a2 a3
        have hzr := HB.out.size
        have X3 := Lib.hid (X2.out.below (by omega) HB.out)
        have T3 := Lib.hid (T2.out.keep (Kept.of_below HB.out (by omega)))
        have K3 := Lib.hid (below_next K2.out (by omega) HB.out)
        obtain ⟨a0, a1, a2, a3⟩ := X3.out
        by_cases hjl : j < ti.length
        · have j1 : (j : Int) < (ti.length : Int) := by omega
          have j2 : decide (j < ti.length) = true := decide_eq_true hjl
          obtain ⟨x, hx⟩ : ∃ x, ti[j]? = some x := ⟨_, List.getElem?_eq_getElem hjl⟩
          obtain ⟨b, off, rfl, _, hbh, c0, c1, c2, v, c3, hs⟩ := T3.out.1.at hx
          have HX := Lib.hid hx
          have hbw : b < wr.heap.size := by omega
          clear hx hs
          go_wp2_with fail
          refine (rbase_any _ _ _).mono ?_
          rintro e w4 ⟨rfl, hb4⟩
          have X4 := Lib.hid (X3.out.below (by omega) hb4)
          have c0' := (hb4.cell (p := ⟨b, off + j * 4, none⟩) hbw).trans c0
          have B4 := Lib.hid (below_next HB.out hzr hb4)
          have K4 := Lib.hid (below_next K3.out (by omega) hb4)
          clear hb4 a0 a1 a2 a3 c0 c1 c2 c3
          obtain ⟨a0, a1, a2, a3⟩ := X4.out
          by_cases hs : x.id.size = 32
          · have s1 : ((x.id.size : Int) != 32) = false := by rw [bne_eq_false_iff_eq]; omega
            cases hbb : baseB x.id x.ix
            · have hno : amissB (ti.length == 1) x.id x.ix = false := by
                cases (ti.length == 1)
                · rw [amiss_base hs, hbb]
                · exact amiss_alone hs
              have HNO := Lib.hid hno
              have HSS := Lib.hid hs
              clear hno hs
              go_wp2_with fail
              go_roundg (ti.length - (j + 1))
              case measure => omega
              case rel => exact ⟨j + 1, by omega, by omega, by go_num, B4.out, HNJ.out.step HX.out HNO.out⟩
            · by_cases h11 : 1 < ti.length
              · have s2 : (1 : Int) < (ti.length : Int) := by omega
                have hyes : amissB (ti.length == 1) x.id x.ix = true := by
                  rw [show (ti.length == 1) = false from by simp; omega, amiss_base hs, hbb]
                have HY := Lib.hid hyes
                have HSS := Lib.hid hs
                clear hyes hs
                go_wp2_with fail
                go_ret
                exact ⟨FIN.out _ (C2.out CB.out hlg (by unfold pointsB; rw [any_hit (p := fun x : InD => amissB (ti.length == 1) x.id x.ix) HX.out HY.out]; rfl)), K4.out⟩
              · have s2 : ¬ (1 : Int) < (ti.length : Int) := by omega
                have hno : amissB (ti.length == 1) x.id x.ix = false := by
                  rw [show (ti.length == 1) = true from by simp; omega]
                  exact amiss_alone hs
                have HNO := Lib.hid hno
                have HSS := Lib.hid hs
                clear hno hs
                go_wp2_with fail
                go_roundg (ti.length - (j + 1))
                case measure => omega
                case rel => exact ⟨j + 1, by omega, by omega, by go_num, B4.out, HNJ.out.step HX.out HNO.out⟩
          · have s1 : ((x.id.size : Int) != 32) = true := by rw [bne_iff_ne]; omega
            have HY := Lib.hid (amiss_size (al := ti.length == 1) (i := x.ix) hs)
            have HSS := Lib.hid hs
            clear hs
            go_wp2_with fail
            go_ret
            exact ⟨FIN.out _ (C2.out CB.out hlg (by unfold pointsB; rw [any_hit (p := fun x : InD => amissB (ti.length == 1) x.id x.ix) HX.out HY.out]; rfl)), K4.out⟩
        · have j1 : ¬ (j : Int) < (ti.length : Int) := by omega
          have PB := Lib.hid (show pointsB ti = true from by unfold pointsB; rw [any_miss (n := j) (by omega) HNJ.out]; rfl)
          obtain ⟨wo, hwo⟩ : ∃ wo, wo = wr := ⟨_, rfl⟩
          subst hwo
          go_wp2_with fail
          go_loopg [7, 8] ti.length (fun gg s _ wr => ∃ k : Nat, k ≤ ti.length ∧ ti.length - k ≤ gg ∧ s = .int .i64 k ∧ Hid (Below wo.heap.size wo wr) ∧ Hid (NoPair ti k))
          case atStart => exact ⟨0, Nat.zero_le _, by omega, rfl, Below.refl _ _, NoPair.zero _⟩
          case round =>
            obtain ⟨i, hi', hgi, rfl, HBI, HNI⟩ := hrel
            clear a0 a1 a2 a3
            have hzi := HBI.out.size
            have X5 := Lib.hid (X3.out.below (by omega) HBI.out)
            have T5 := Lib.hid (T3.out.keep (Kept.of_below HBI.out (by omega)))
            have K5 := Lib.hid (below_next K3.out (by omega) HBI.out)
            obtain ⟨a0, a1, a2, a3⟩ := X5.out
            by_cases hil : i < ti.length
            · have i1 : (i : Int) < (ti.length : Int) := by omega
              have i2 : decide (i < ti.length) = true := decide_eq_true hil
              obtain ⟨x, hx⟩ : ∃ x, ti[i]? = some x := ⟨_, List.getElem?_eq_getElem hil⟩
              have HX := Lib.hid hx
              clear hx
              obtain ⟨wp, hwp⟩ : ∃ wp, wp = wr := ⟨_, rfl⟩
              subst hwp
              go_wp2_with fail
              go_loopg [8] i (fun gg s wr => ∃ k : Nat, k ≤ i ∧ i - k ≤ gg ∧ s = .int .i64 k ∧ Hid (Below wp.heap.size wp wr) ∧ Hid (NoneOf ti x k))
              case atStart => exact ⟨0, Nat.zero_le _, by omega, rfl, Below.refl _ _, NoneOf.zero _ _⟩
              case round =>
                obtain ⟨k, hk', hgk, rfl, HBK, HNK⟩ := hrel
                clear a0 a1 a2 a3
                have hzk := HBK.out.size
                have X6 := Lib.hid (X5.out.below (by omega) HBK.out)
                have T6 := Lib.hid (T5.out.keep (Kept.of_below HBK.out (by omega)))
                have K6 := Lib.hid (below_next K5.out (by omega) HBK.out)
                have BI6 := Lib.hid (below_next HBI.out hzi HBK.out)
                obtain ⟨a0, a1, a2, a3⟩ := X6.out
                by_cases hkl : k < i
                · have k1 : (k : Int) < (i : Int) := by omega
                  have k2 : decide (k < i) = true := decide_eq_true hkl
                  have k3 : (k : Int) < (ti.length : Int) := by omega
                  obtain ⟨y, hy⟩ : ∃ y, ti[k]? = some y := ⟨_, List.getElem?_eq_getElem (by omega)⟩
                  obtain ⟨b, off, rfl, _, hbh, c0, c1, c2, v, c3, hs⟩ := T6.out.1.at HX.out
                  obtain ⟨b', off', hA, _, _, d0, d1, d2, v', d3, hs'⟩ := T6.out.1.at hy
                  injection hA with hA
                  injection hA with hA1 hA2
                  subst hA1
                  subst hA2
                  have HY := Lib.hid hy
                  have hbw : b < wr.heap.size := by omega
                  clear hy hs hs'
                  cases q1 : (x.id.toList == y.id.toList)
                  · have hno := Lib.hid (show ptB x.id x.ix y.id y.ix = false from by simp [ptB, q1])
                    go_wp2_with fail
                    go_quiet (fail)
                    go_wp2_with fail
                    go_roundg (i - (k + 1))
                    case measure => omega
                    case rel => exact ⟨k + 1, by omega, by omega, by go_num, below_drewN HBK.out _, HNK.out.step HY.out hno.out⟩
                  · cases q2 : (x.ix == y.ix)
                    · have hno := Lib.hid (show ptB x.id x.ix y.id y.ix = false from by simp [ptB, q2])
                      go_wp2_with fail
                      go_quiet (fail)
                      go_wp2_with fail
                      go_roundg (i - (k + 1))
                      case measure => omega
                      case rel => exact ⟨k + 1, by omega, by omega, by go_num, below_drewN HBK.out _, HNK.out.step HY.out hno.out⟩
                    · have hyes := Lib.hid (twice_yes hkl HX.out HY.out (show ptB x.id x.ix y.id y.ix = true from by simp [ptB, q1, q2]))
                      go_wp2_with fail
                      go_quiet (fail)
                      go_wp2_with fail
                      go_ret
                      exact ⟨FIN.out _ (C3.out CB.out hlg PB.out hyes.out), below_drewN K6.out _⟩
                · have k1 : ¬ (k : Int) < (i : Int) := by omega
                  obtain rfl : k = i := by omega
                  go_wp2_with fail
                  go_roundg (ti.length - (k + 1))
                  case measure => omega
                  case rel => exact ⟨k + 1, by omega, by omega, by go_num, BI6.out, HNI.out.step HX.out HNK.out⟩
            · have i1 : ¬ (i : Int) < (ti.length : Int) := by omega
              have TB := Lib.hid (HNI.out.twice (by omega))
              go_wp2_with fail
              refine (rtotal_any ⟨tv, ti, to, tl⟩ _ _ _ lo hi T5.out.2 (by omega) l2).mono ?_
              rintro e w7 ⟨rfl, hb7⟩
              go_wp2_with fail
              go_ret
              exact ⟨FIN.out _ (C4.out CB.out hlg PB.out TB.out), below_next K5.out (by omega) hb7⟩

end Go.Proofs.YtjclklppnkoehaaGreatDoor
