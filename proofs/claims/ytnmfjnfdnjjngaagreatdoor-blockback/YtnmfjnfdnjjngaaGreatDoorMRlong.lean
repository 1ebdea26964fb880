/-
  The document's Base and long: is a point the base point, is a text too long?
  May a transaction be: the document's Check.
  What an answer tells of a transaction; coins behind its taking them.
-/
import Derived.Test.YtnmfjnfdnjjngaaGreatDoorMFind
import Derived.Test.YtnmfjnfdnjjngaaGreatDoorMLop

namespace Go.Proofs.YtnmfjnfdnjjngaaGreatDoor
open Go.RowKit
set_option maxRecDepth 100000

/-- The byte at a place, as a number. -/
def byteAt (s : ByteArray) (k : Nat) : Int := ((s.data.toList.getD k 0).toNat : Int)

theorem index_at (s : ByteArray) (k : Nat) (h : k < s.size) (w : World) : (Instr.index 9 (.string s) (.int .i64 (k : Int))).run Tryz.prog w = .ok (.int .u8 (byteAt s k)) w := by
  rw [run_index_string w 9 s .i64 k Tryz.underlying9]
  simp [h, byteAt]
  rfl

theorem zeros_list : zeros.data.toList = List.replicate 32 0 := by decide +kernel
theorem base_yes {a : ByteArray} (h : a.size = 32) (hz : ∀ k, k < 32 → byteAt a k = 0) : a = zeros := by
  apply bytes_ext
  rw [ByteArray.toList_eq, ByteArray.toList_eq, zeros_list]
  apply List.ext_getElem?
  intro k
  have hl : a.data.toList.length = 32 := by simpa using h
  by_cases hk : k < 32
  · have h1 := hz k hk
    unfold byteAt at h1
    have hkl : k < a.data.toList.length := by omega
    rw [List.getD_eq_getElem?_getD, List.getElem?_eq_getElem hkl] at h1
    rw [List.getElem?_eq_getElem hkl, List.getElem?_replicate, if_pos hk]
    congr 1
    apply UInt8.toNat_inj.1
    simp at h1 ⊢
    omega
  · rw [List.getElem?_eq_none (by omega), List.getElem?_eq_none (by simp; omega)]
theorem base_no {a : ByteArray} {i : Int} {k : Nat} (hk : k < 32) (hz : byteAt a k ≠ 0) : baseB a i = false := by
  unfold baseB
  rw [Bool.eq_false_iff]
  intro h
  obtain ⟨rfl, _⟩ := (ptB_iff _ _ _ _).1 h
  apply hz
  unfold byteAt
  rw [zeros_list, List.getD_eq_getElem?_getD, List.getElem?_replicate, if_pos hk]
  rfl

set_option maxHeartbeats 1000000 in
theorem rbase_any (a : ByteArray) (i : Int) (w : World) :
    Calls Tryz.prog 51 #[.agg #[.string a, .int .u32 i]] w fun e w' => e = .returned (.bool (baseB a i)) ∧ Below w.heap.size w w' := by
  by_cases hs : a.size = 32
  · by_cases hi : i = 4294967295
    · have e1 : ((a.size : Int) != 32) = false := by rw [bne_eq_false_iff_eq]; omega
      have e2 : (i != 4294967295) = false := by rw [bne_eq_false_iff_eq]; exact hi
      have Y := Lib.hid (fun hz => show baseB a i = true from (ptB_iff _ _ _ _).2 ⟨base_yes hs hz, hi⟩)
      have N := Lib.hid (fun (k : Nat) (hk : k < 32) hz => base_no (a := a) (i := i) (k := k) hk hz)
      have HS := Lib.hid hs
      have IX := Lib.hid (index_at a)
      clear hs hi
      go_enter Tryz.func51, Tryz.ntmps51
      go_wp2_with fail
      go_loopg [3] 32 (fun gg s wr => ∃ k : Nat, k ≤ 32 ∧ 32 - k ≤ gg ∧ s = .int .i64 k ∧ Hid (w.alloc (.cells #[.string a, .int .u32 i] 60) = wr) ∧ Hid (∀ j, j < k → byteAt a j = 0))
      case atStart => exact ⟨0, Nat.zero_le _, by omega, rfl, rfl, fun j hj => absurd hj (Nat.not_lt_zero _)⟩
      case round =>
        obtain ⟨k, hk, hg, rfl, HW, HZ⟩ := hrel
        have hw := HW.out
        subst hw
        by_cases hlt : k < 32
        · have h1 : (k : Int) < 32 := by omega
          have hd : decide ((k : Int) < 32) = true := decide_eq_true h1
          have hx := IX.out k (by have := HS.out; omega)
          obtain ⟨b, hb⟩ : ∃ b, byteAt a k = b := ⟨_, rfl⟩
          rw [hb] at hx
          have HB := Lib.hid hb
          clear hb
          cases hq : b != 0
          · go_wp2_with fail
            go_roundg (32 - (k + 1))
            case measure => omega
            case rel =>
              refine ⟨k + 1, by omega, by omega, by go_num, rfl, (show Hid _ from fun j hj => ?_)⟩
              by_cases e : j = k
              · subst e; rw [HB.out]; simpa using hq
              · exact HZ.out j (by omega)
          · go_wp2_with fail
            go_ret
            exact ⟨ret_bool (N.out k hlt (by rw [HB.out]; simpa using hq)).symm, (Below.refl _ _).alloc (Nat.le_refl _) _⟩
        · have h1 : ¬ (k : Int) < 32 := by omega
          obtain rfl : k = 32 := by omega
          go_wp2_with fail
          go_ret
          exact ⟨ret_bool (Y.out HZ.out).symm, (Below.refl _ _).alloc (Nat.le_refl _) _⟩
    · have e1 : ((a.size : Int) != 32) = false := by rw [bne_eq_false_iff_eq]; omega
      have e2 : (i != 4294967295) = true := by rw [bne_iff_ne]; exact hi
      have E := Lib.hid (show baseB a i = false from by rw [Bool.eq_false_iff]; intro h; exact hi ((ptB_iff _ _ _ _).1 h).2)
      clear hs hi
      go_enter Tryz.func51, Tryz.ntmps51
      go_wp2_with fail
      go_ret
      exact ⟨ret_bool E.out.symm, (Below.refl _ _).alloc (Nat.le_refl _) _⟩
  · have e1 : ((a.size : Int) != 32) = true := by rw [bne_iff_ne]; omega
    have E := Lib.hid (show baseB a i = false from by
      rw [Bool.eq_false_iff]
      intro h
      obtain ⟨rfl, _⟩ := (ptB_iff _ _ _ _).1 h
      exact hs (by decide +kernel))
    clear hs
    go_enter Tryz.func51, Tryz.ntmps51
    go_wp2_with fail
    go_ret
    exact ⟨ret_bool E.out.symm, (Below.refl _ _).alloc (Nat.le_refl _) _⟩

theorem any_hit {α : Type} {p : α → Bool} {xs : List α} {k : Nat} {x : α} (hx : xs[k]? = some x) (hp : p x = true) : xs.any p = true := List.any_eq_true.2 ⟨x, List.mem_of_getElem? hx, hp⟩
theorem any_miss {α : Type} {p : α → Bool} {xs : List α} {n : Nat} (hn : xs.length ≤ n) (h : ∀ (j : Nat) (y : α), j < n → xs[j]? = some y → p y = false) : xs.any p = false := by
  rw [List.any_eq_false]
  intro x hx
  obtain ⟨j, hj⟩ := List.getElem?_of_mem hx
  rw [h j x (by have := (List.getElem?_eq_some_iff.1 hj).1; omega) hj]
  simp
/-- None of the first k. -/
def NoneYet {α : Type} (p : α → Bool) (xs : List α) (k : Nat) : Prop := ∀ (j : Nat) (y : α), j < k → xs[j]? = some y → p y = false
theorem NoneYet.zero {α : Type} (p : α → Bool) (xs : List α) : NoneYet p xs 0 := fun _ _ h => absurd h (Nat.not_lt_zero _)
theorem NoneYet.step {α : Type} {p : α → Bool} {xs : List α} {k : Nat} {x : α} (h : NoneYet p xs k) (hx : xs[k]? = some x) (hp : p x = false) : NoneYet p xs (k + 1) := by
  intro j y hj hy
  by_cases e : j = k
  · subst e; rw [hx] at hy; injection hy with hy; subst hy; exact hp
  · exact h j y (by omega) hy

set_option maxHeartbeats 2000000 in
theorem rlong_any (t : TxD) (vi vo : Value) (w : World) (lo hi : Nat) (ht : TxAt w lo hi vi vo t) (hhi : hi ≤ w.heap.size) (hok : t.Ok) :
    Calls Tryz.prog 74 #[.agg #[.int .u32 t.ver, vi, vo, .int .u32 t.lock]] w fun e w' => e = .returned (.bool (longB t)) ∧ Below w.heap.size w w' := by
  obtain ⟨tv, ti, tz, tl⟩ := t
  obtain ⟨A1, m1, rfl⟩ := ht.1.form
  obtain ⟨A2, m2, rfl⟩ := ht.2.form
  obtain ⟨w1, hw1⟩ : ∃ w1, w1 = w.alloc (.cells #[.int .u32 tv, .slice A1 ti.length m1, .slice A2 tz.length m2, .int .u32 tl] 51) := ⟨_, rfl⟩
  have hT : TxAt w1 lo hi (.slice A1 ti.length m1) (.slice A2 tz.length m2) ⟨tv, ti, tz, tl⟩ := by rw [hw1]; exact ht.keep (Kept.alloc hhi _)
  have bw : Below w.heap.size w w1 := by rw [hw1]; exact (Below.refl _ _).alloc (Nat.le_refl _) _
  obtain ⟨a0, a1, a2, a3⟩ : Boxed w1 w.heap.size (.int .u32 tv) (.slice A1 ti.length m1) (.slice A2 tz.length m2) (.int .u32 tl) := by rw [hw1]; exact Boxed.new _ _ _ _ _ _
  have HT := Lib.hid hT
  have BW := Lib.hid bw
  have HW := Lib.hid hw1
  have HO := Lib.hid hok
  have l1 := hok.1
  have l2 := hok.2.1
  simp only at l1 l2 ⊢
  have E1 := Lib.hid (longB_out (t := ⟨tv, ti, tz, tl⟩))
  have E2 := Lib.hid (longB_in (t := ⟨tv, ti, tz, tl⟩))
  clear hT bw hw1 hok ht
  go_enter Tryz.func74, Tryz.ntmps74
  go_wp2_with fail
  go_loopg [3] tz.length (fun gg s wr => ∃ k : Nat, k ≤ tz.length ∧ tz.length - k ≤ gg ∧ s = .int .i64 k ∧ Hid (w1 = wr) ∧ Hid (NoneYet (fun o : OutD => decide (40 < o.scr.size)) tz k))
  case atStart => exact ⟨0, Nat.zero_le _, by omega, rfl, HW, NoneYet.zero _ _⟩
  case round =>
    obtain ⟨k, hk, hg, rfl, HWR, HN⟩ := hrel
    have hw := HWR.out
    subst hw
    by_cases hlt : k < tz.length
    · have k1 : (k : Int) < (tz.length : Int) := by omega
      have k2 : decide (k < tz.length) = true := decide_eq_true hlt
      obtain ⟨x, hx⟩ : ∃ x, tz[k]? = some x := ⟨_, List.getElem?_eq_getElem hlt⟩
      obtain ⟨b, off, rfl, _, _, c0, c1⟩ := HT.out.2.at hx
      have HX := Lib.hid hx
      clear hx
      by_cases hs : 40 < x.scr.size
      · have s1 : (40 : Int) < (x.scr.size : Int) := by omega
        go_wp2_with fail
        go_ret
        exact ⟨ret_bool (E1.out (any_hit HX.out (decide_eq_true hs))).symm, BW.out⟩
      · have s1 : ¬ (40 : Int) < (x.scr.size : Int) := by omega
        go_wp2_with fail
        go_roundg (tz.length - (k + 1))
        case measure => omega
        case rel => exact ⟨k + 1, by omega, by omega, by go_num, rfl, HN.out.step HX.out (decide_eq_false hs)⟩
    · have k1 : ¬ (k : Int) < (tz.length : Int) := by omega
      have EI := Lib.hid (E2.out (any_miss (n := k) (by omega) HN.out))
      go_wp2_with fail
      go_loopg [4, 5] ti.length (fun gg s _ wr => ∃ k : Nat, k ≤ ti.length ∧ ti.length - k ≤ gg ∧ s = .int .i64 k ∧ Hid (w1 = wr) ∧ Hid (NoneYet (fun x : InD => x.wit.any fun s => decide (80 < s.size)) ti k))
      case atStart => exact ⟨0, Nat.zero_le _, by omega, rfl, rfl, NoneYet.zero _ _⟩
      case round =>
        obtain ⟨j, hj, hgj, rfl, HWJ, HNJ⟩ := hrel
        have hw := HWJ.out
        subst hw
        by_cases hjl : j < ti.length
        · have j1 : (j : Int) < (ti.length : Int) := by omega
          have j2 : decide (j < ti.length) = true := decide_eq_true hjl
          obtain ⟨x, hx⟩ : ∃ x, ti[j]? = some x := ⟨_, List.getElem?_eq_getElem hjl⟩
          obtain ⟨b, off, rfl, _, _, c0, c1, c2, v, c3, hs⟩ := HT.out.1.at hx
          obtain ⟨B1, n1, rfl⟩ := hs.form
          have hwl := (HO.out.2.2.1 x (List.mem_of_getElem? hx)).2.2.2.2.2.1
          have HX := Lib.hid hx
          have HS := Lib.hid hs
          clear hx hs
          go_wp2_with fail
          go_loopg [5] x.wit.length (fun gg s wr => ∃ k : Nat, k ≤ x.wit.length ∧ x.wit.length - k ≤ gg ∧ s = .int .i64 k ∧ Hid (w1 = wr) ∧ Hid (NoneYet (fun s : ByteArray => decide (80 < s.size)) x.wit k))
          case atStart => exact ⟨0, Nat.zero_le _, by omega, rfl, rfl, NoneYet.zero _ _⟩
          case round =>
            obtain ⟨i, hi', hgi, rfl, HWI, HNI⟩ := hrel
            have hw := HWI.out
            subst hw
            by_cases hil : i < x.wit.length
            · have i1 : (i : Int) < (x.wit.length : Int) := by omega
              have i2 : decide (i < x.wit.length) = true := decide_eq_true hil
              obtain ⟨s, hsi⟩ : ∃ s, x.wit[i]? = some s := ⟨_, List.getElem?_eq_getElem hil⟩
              obtain ⟨eb, eo, rfl, _, _, cs⟩ := HS.out.at hil
              rw [show x.wit.getD i ByteArray.empty = s from by simp [List.getD_eq_getElem?_getD, hsi]] at cs
              have HSI := Lib.hid hsi
              clear hsi
              by_cases hs : 80 < s.size
              · have s1 : (80 : Int) < (s.size : Int) := by omega
                go_wp2_with fail
                go_ret
                exact ⟨ret_bool (by rw [EI.out]; exact (any_hit HX.out (any_hit HSI.out (decide_eq_true hs))).symm), BW.out⟩
              · have s1 : ¬ (80 : Int) < (s.size : Int) := by omega
                go_wp2_with fail
                go_roundg (x.wit.length - (i + 1))
                case measure => omega
                case rel => exact ⟨i + 1, by omega, by omega, by go_num, rfl, HNI.out.step HSI.out (decide_eq_false hs)⟩
            · have i1 : ¬ (i : Int) < (x.wit.length : Int) := by omega
              go_wp2_with fail
              go_roundg (ti.length - (j + 1))
              case measure => omega
              case rel => exact ⟨j + 1, by omega, by omega, by go_num, rfl, HNJ.out.step HX.out (any_miss (n := i) (by omega) HNI.out)⟩
        · have j1 : ¬ (j : Int) < (ti.length : Int) := by omega
          go_wp2_with fail
          go_ret
          exact ⟨ret_bool (by rw [EI.out]; exact (any_miss (n := j) (by omega) HNJ.out).symm), BW.out⟩

end Go.Proofs.YtnmfjnfdnjjngaaGreatDoor

namespace Go.Proofs.YtnmfjnfdnjjngaaGreatDoor
open Go.RowKit
set_option maxRecDepth 100000

theorem two_of_count {α : Type} (p : α → Bool) (xs : List α) (h : 1 < xs.countP p) : ∃ (i k : Nat) (x y : α), k < i ∧ xs[i]? = some x ∧ xs[k]? = some y ∧ p x = true ∧ p y = true := by
  induction xs with
  | nil => simp at h
  | cons a r ih =>
    rw [List.countP_cons] at h
    by_cases ha : p a = true
    · rw [if_pos ha] at h
      have hpos : 0 < r.countP p := by omega
      obtain ⟨x, hx, hp⟩ := List.countP_pos_iff.1 hpos
      obtain ⟨j, hj⟩ := List.getElem?_of_mem hx
      exact ⟨j + 1, 0, x, a, by omega, by simpa using hj, rfl, hp, ha⟩
    · rw [if_neg ha] at h
      obtain ⟨i, k, x, y, hki, hx, hy, h1, h2⟩ := ih (by omega)
      exact ⟨i + 1, k + 1, x, y, by omega, by simpa using hx, by simpa using hy, h1, h2⟩
theorem count_of_two {α : Type} (p : α → Bool) (xs : List α) {i k : Nat} {x y : α} (hki : k < i) (hx : xs[i]? = some x) (hy : xs[k]? = some y) (h1 : p x = true) (h2 : p y = true) : 1 < xs.countP p := by
  induction xs generalizing i k with
  | nil => simp at hx
  | cons a r ih =>
    rw [List.countP_cons]
    obtain ⟨i, rfl⟩ : ∃ j, i = j + 1 := ⟨i - 1, by omega⟩
    simp only [List.getElem?_cons_succ] at hx
    cases k with
    | zero =>
      simp at hy
      subst hy
      have : 0 < r.countP p := List.countP_pos_iff.2 ⟨x, List.mem_of_getElem? hx, h1⟩
      rw [if_pos h2]; omega
    | succ k =>
      simp only [List.getElem?_cons_succ] at hy
      have := ih (by omega) hx hy
      omega

theorem twice_yes {xs : List InD} {i k : Nat} {x y : InD} (hki : k < i) (hx : xs[i]? = some x) (hy : xs[k]? = some y) (h : ptB x.id x.ix y.id y.ix = true) : twiceB xs = true := by
  refine List.any_eq_true.2 ⟨x, List.mem_of_getElem? hx, ?_⟩
  unfold moreB cnt
  refine decide_eq_true (count_of_two _ xs hki hx hy ?_ ?_)
  · exact (ptB_iff _ _ _ _).2 ⟨rfl, rfl⟩
  · obtain ⟨e1, e2⟩ := (ptB_iff _ _ _ _).1 h
    exact (ptB_iff _ _ _ _).2 ⟨e1.symm, e2.symm⟩
theorem twice_no {xs : List InD} (h : ∀ (i k : Nat) (x y : InD), k < i → xs[i]? = some x → xs[k]? = some y → ptB x.id x.ix y.id y.ix = false) : twiceB xs = false := by
  rw [Bool.eq_false_iff]
  intro h2
  obtain ⟨z, _, hz⟩ := List.any_eq_true.1 h2
  unfold moreB cnt at hz
  obtain ⟨i, k, x, y, hki, hx, hy, p1, p2⟩ := two_of_count _ _ (of_decide_eq_true hz)
  obtain ⟨e1, e2⟩ := (ptB_iff _ _ _ _).1 p1
  obtain ⟨f1, f2⟩ := (ptB_iff _ _ _ _).1 p2
  have := h i k x y hki hx hy
  rw [(ptB_iff _ _ _ _).2 ⟨e1.trans f1.symm, e2.trans f2.symm⟩] at this
  cases this

/-- No input up to i is From an output of one ahead of it. -/
def NoPair (xs : List InD) (n : Nat) : Prop := ∀ (i k : Nat) (x y : InD), i < n → k < i → xs[i]? = some x → xs[k]? = some y → ptB x.id x.ix y.id y.ix = false
theorem NoPair.zero (xs : List InD) : NoPair xs 0 := fun _ _ _ _ h => absurd h (Nat.not_lt_zero _)
/-- Input i is From no output of the first k. -/
def NoneOf (xs : List InD) (x : InD) (n : Nat) : Prop := ∀ (k : Nat) (y : InD), k < n → xs[k]? = some y → ptB x.id x.ix y.id y.ix = false
theorem NoneOf.zero (xs : List InD) (x : InD) : NoneOf xs x 0 := fun _ _ h => absurd h (Nat.not_lt_zero _)
theorem NoneOf.step {xs : List InD} {x y : InD} {k : Nat} (h : NoneOf xs x k) (hy : xs[k]? = some y) (hp : ptB x.id x.ix y.id y.ix = false) : NoneOf xs x (k + 1) := by
  intro j z hj hz
  by_cases e : j = k
  · subst e; rw [hy] at hz; injection hz with hz; subst hz; exact hp
  · exact h j z (by omega) hz
theorem NoPair.step {xs : List InD} {x : InD} {i : Nat} (h : NoPair xs i) (hx : xs[i]? = some x) (hn : NoneOf xs x i) : NoPair xs (i + 1) := by
  intro j k z y hj hk hz hy
  by_cases e : j = i
  · subst e; rw [hx] at hz; injection hz with hz; subst hz; exact hn k y hk hy
  · exact h j k z y (by omega) hk hz hy
theorem NoPair.twice {xs : List InD} {n : Nat} (h : NoPair xs n) (hn : xs.length ≤ n) : twiceB xs = false :=
  twice_no fun i k x y hki hx hy => h i k x y (by have := (List.getElem?_eq_some_iff.1 hx).1; omega) hki hx hy

theorem inR_no1 {n : Nat} (h : n < 1) : inR n 1 256 = false := by unfold inR; rw [decide_eq_false (by omega)]; rfl
theorem inR_no2 {n : Nat} (h : 256 < n) : inR n 1 256 = false := by unfold inR; rw [decide_eq_false (p := (n : Int) ≤ 256) (by omega)]; simp
theorem inR_yes {n : Nat} (h1 : 1 ≤ n) (h2 : n ≤ 256) : inR n 1 256 = true := by unfold inR; rw [decide_eq_true (by omega), decide_eq_true (by omega)]; rfl
theorem amiss_size {al : Bool} {a : ByteArray} {i : Int} (h : a.size ≠ 32) : amissB al a i = true := by unfold amissB; simp [h]
theorem amiss_base {a : ByteArray} {i : Int} (h : a.size = 32) : amissB false a i = baseB a i := by unfold amissB; simp [h]
theorem amiss_alone {a : ByteArray} {i : Int} (h : a.size = 32) : amissB true a i = false := by unfold amissB; simp [h]

end Go.Proofs.YtnmfjnfdnjjngaaGreatDoor

namespace Go.Proofs.YtnmfjnfdnjjngaaGreatDoor
open Go.RowKit
set_option maxRecDepth 100000

theorem fe_fee0 {l : List Co.EnD} {t : TxD} {h : Int} (hc : (feA l t h).code ≠ 0) : (feA l t h).fee = 0 := by
  unfold feA at hc ⊢
  split
  · rfl
  · rename_i h1
    rw [if_neg h1] at hc
    split
    · rfl
    · rename_i h2
      rw [if_neg h2] at hc
      split
      · rfl
      · rename_i h3
        rw [if_neg h3] at hc
        split
        · rfl
        · rename_i h4
          rw [if_neg h4] at hc
          split
          · rfl
          · rename_i h5
            rw [if_neg h5] at hc
            exact absurd rfl hc
/-- A transaction that may be: it has an In, no output twice, and what it pays is an amount. -/
theorem check_ok {t : TxD} (h : checkD t = 0) : 1 ≤ t.ins.length ∧ twiceB t.ins = false ∧ (totalD t.outs).2 = 0 := by
  cases h1 : countsB t with
  | false => rw [checkD_count h1] at h; cases h
  | true =>
    cases h2 : longB t with
    | true => rw [checkD_long h1 h2] at h; cases h
    | false =>
      cases h3 : pointsB t.ins with
      | false => rw [checkD_form h1 h2 h3] at h; cases h
      | true =>
        cases h4 : twiceB t.ins with
        | true => rw [checkD_twice h1 h2 h3 h4] at h; cases h
        | false =>
          rw [checkD_range h1 h2 h3 h4] at h
          refine ⟨?_, rfl, h⟩
          unfold countsB at h1
          simp only [Bool.and_eq_true] at h1
          have := h1.1.1
          unfold inR at this
          simp only [Bool.and_eq_true, decide_eq_true_eq] at this
          omega
theorem pt_apart {t : TxD} (h : twiceB t.ins = false) {i k : Nat} {x y : InD} (hn : i ≠ k) (hx : t.ins[i]? = some x) (hy : t.ins[k]? = some y) : ¬ (x.id = y.id ∧ x.ix = y.ix) := by
  intro he
  have : twiceB t.ins = true := by
    rcases Nat.lt_or_gt_of_ne hn with hl | hl
    · exact twice_yes hl hy hx ((ptB_iff _ _ _ _).2 ⟨he.1.symm, he.2.symm⟩)
    · exact twice_yes hl hx hy ((ptB_iff _ _ _ _).2 he)
  rw [this] at h
  cases h
/-- A coin at another point than the one that is taken away. -/
theorem has_del {l : List Co.EnD} {a b : ByteArray} {i j : Int} (hn : ¬ (a = b ∧ i = j)) : Co.hasB (Co.delL l b j) a i = Co.hasB l a i ∧ Co.atE (Co.delL l b j) a i = Co.atE l a i := by
  have hp : ∀ x : Co.EnD, Co.isB a i x = true → (!Co.isB b j x) = true := by
    intro x hx
    obtain ⟨e1, e2⟩ := Co.isB_iff.1 hx
    cases h : Co.isB b j x with
    | false => rfl
    | true =>
      obtain ⟨f1, f2⟩ := Co.isB_iff.1 h
      exact absurd ⟨e1.symm.trans f1, e2.symm.trans f2⟩ hn
  have hf : (Co.delL l b j).find? (Co.isB a i) = l.find? (Co.isB a i) := by
    unfold Co.delL
    induction l with
    | nil => rfl
    | cons x r ih =>
      by_cases hx : Co.isB a i x = true
      · rw [List.filter_cons_of_pos (p := fun x => !Co.isB b j x) (hp x hx), List.find?_cons_of_pos hx, List.find?_cons_of_pos hx]
      · rw [List.find?_cons_of_neg hx]
        by_cases hb : (!Co.isB b j x) = true
        · rw [List.filter_cons_of_pos (p := fun x => !Co.isB b j x) hb, List.find?_cons_of_neg hx]
          exact ih
        · rw [List.filter_cons_of_neg (p := fun x => !Co.isB b j x) hb]
          exact ih
  refine ⟨?_, by unfold Co.atE; rw [hf]⟩
  have e : ∀ m : List Co.EnD, Co.hasB m a i = (m.find? (Co.isB a i)).isSome := fun m => by
    unfold Co.hasB
    rw [Bool.eq_iff_iff, List.find?_isSome, List.any_eq_true]
  rw [e, e, hf]
/-- The coins behind the first k Ins' taking theirs. -/
def dels (l : List Co.EnD) (t : TxD) : Nat → List Co.EnD
  | 0 => l
  | k + 1 => match t.ins[k]? with
    | none => dels l t k
    | some x => Co.delL (dels l t k) x.id x.ix
theorem dels_step {l : List Co.EnD} {t : TxD} {k : Nat} {x : InD} (hx : t.ins[k]? = some x) : dels l t (k + 1) = Co.delL (dels l t k) x.id x.ix := by simp [dels, hx]
theorem dels_at {l : List Co.EnD} {t : TxD} (h : twiceB t.ins = false) {i : Nat} {x : InD} (hx : t.ins[i]? = some x) : ∀ k, k ≤ i → Co.hasB (dels l t k) x.id x.ix = Co.hasB l x.id x.ix ∧ Co.atE (dels l t k) x.id x.ix = Co.atE l x.id x.ix
  | 0, _ => ⟨rfl, rfl⟩
  | k + 1, hk => by
    have ih := dels_at (l := l) h hx k (by omega)
    have hi := (List.getElem?_eq_some_iff.1 hx).1
    have hy : t.ins[k]? = some t.ins[k] := List.getElem?_eq_getElem (by omega)
    rw [dels_step hy]
    have h1 := has_del (l := dels l t k) (pt_apart h (by omega : i ≠ k) hx hy)
    exact ⟨h1.1.trans ih.1, h1.2.trans ih.2⟩
theorem dels_good {l : List Co.EnD} (hg : Co.Good l) (t : TxD) : ∀ k, Co.Good (dels l t k)
  | 0 => hg
  | k + 1 => by
    unfold dels
    split
    · exact dels_good hg t k
    · exact (dels_good hg t k).del _ _

end Go.Proofs.YtnmfjnfdnjjngaaGreatDoor
