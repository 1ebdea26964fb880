/-
  The document's Base and long: is a point the base point, is a text too long?
-/
import Derived.Test.YtnljicongmknhaaCheck
namespace Go.Proofs.Ytnljicongmknhaa
open Go.RowKit

/-- The byte at a place, as a number. -/
def byteAt (s : ByteArray) (k : Nat) : Int := ((s.data.toList.getD k 0).toNat : Int)

theorem index_at (s : ByteArray) (k : Nat) (h : k < s.size) (w : World) : (Instr.index 9 (.string s) (.int .i64 (k : Int))).run Try.prog w = .ok (.int .u8 (byteAt s k)) w := by
  rw [run_index_string w 9 s .i64 k Try.underlying9]
  simp [h, byteAt]
  rfl

theorem zeros_list : zeros.data.toList = List.replicate 32 0 := by decide +kernel
theorem base_yes {a : ByteArray} (h : a.size = 32) (hz : ∀ k, k < 32 → byteAt a k = 0) : a = zeros := by
  apply bytes_ext
  rw [ByteArray.toList_eq, ByteArray.toList_eq, zeros_list]
  apply List.ext_getElem?
  intro k
  have hl : a.data.toList.length = 32 := by simpa using h
  by_cases hk : k < 32
  · have h1 := hz k hk
    unfold byteAt at h1
    have hkl : k < a.data.toList.length := by omega
    rw [List.getD_eq_getElem?_getD, List.getElem?_eq_getElem hkl] at h1
    rw [List.getElem?_eq_getElem hkl, List.getElem?_replicate, if_pos hk]
    congr 1
    apply UInt8.toNat_inj.1
    simp at h1 ⊢
    omega
  · rw [List.getElem?_eq_none (by omega), List.getElem?_eq_none (by simp; omega)]
theorem base_no {a : ByteArray} {i : Int} {k : Nat} (hk : k < 32) (hz : byteAt a k ≠ 0) : baseB a i = false := by
  unfold baseB
  rw [Bool.eq_false_iff]
  intro h
  obtain ⟨rfl, _⟩ := (ptB_iff _ _ _ _).1 h
  apply hz
  unfold byteAt
  rw [zeros_list, List.getD_eq_getElem?_getD, List.getElem?_replicate, if_pos hk]
  rfl

set_option maxHeartbeats 1000000 in
theorem rbase_any (a : ByteArray) (i : Int) (w : World) :
    Calls Try.prog 16 #[.agg #[.string a, .int .u32 i]] w fun e w' => e = .returned (.bool (baseB a i)) ∧ Below w.heap.size w w' := by
  by_cases hs : a.size = 32
  · by_cases hi : i = 4294967295
    · have e1 : ((a.size : Int) != 32) = false := by rw [bne_eq_false_iff_eq]; omega
      have e2 : (i != 4294967295) = false := by rw [bne_eq_false_iff_eq]; exact hi
      have Y := Lib.hid (fun hz => show baseB a i = true from (ptB_iff _ _ _ _).2 ⟨base_yes hs hz, hi⟩)
      have N := Lib.hid (fun (k : Nat) (hk : k < 32) hz => base_no (a := a) (i := i) (k := k) hk hz)
      have HS := Lib.hid hs
      have IX := Lib.hid (index_at a)
      clear hs hi
      go_enter Try.func16, Try.ntmps16
      go_wp2_with fail
      go_loopg [3] 32 (fun gg s wr => ∃ k : Nat, k ≤ 32 ∧ 32 - k ≤ gg ∧ s = .int .i64 k ∧ Hid (w.alloc (.cells #[.string a, .int .u32 i] 40) = wr) ∧ Hid (∀ j, j < k → byteAt a j = 0))
      case atStart => exact ⟨0, Nat.zero_le _, by omega, rfl, rfl, fun j hj => absurd hj (Nat.not_lt_zero _)⟩
      case round =>
        obtain ⟨k, hk, hg, rfl, HW, HZ⟩ := hrel
        have hw := HW.out
        subst hw
        by_cases hlt : k < 32
        · have h1 : (k : Int) < 32 := by omega
          have hd : decide ((k : Int) < 32) = true := decide_eq_true h1
          have hx := IX.out k (by have := HS.out; omega)
          obtain ⟨b, hb⟩ : ∃ b, byteAt a k = b := ⟨_, rfl⟩
          rw [hb] at hx
          have HB := Lib.hid hb
          clear hb
          cases hq : b != 0
          · go_wp2_with fail
            go_roundg (32 - (k + 1))
            case measure => omega
            case rel =>
              refine ⟨k + 1, by omega, by omega, by go_num, rfl, (show Hid _ from fun j hj => ?_)⟩
              by_cases e : j = k
              · subst e; rw [HB.out]; simpa using hq
              · exact HZ.out j (by omega)
          · go_wp2_with fail
            go_ret
            exact ⟨ret_bool (N.out k hlt (by rw [HB.out]; simpa using hq)).symm, (Below.refl _ _).alloc (Nat.le_refl _) _⟩
        · have h1 : ¬ (k : Int) < 32 := by omega
          obtain rfl : k = 32 := by omega
          go_wp2_with fail
          go_ret
          exact ⟨ret_bool (Y.out HZ.out).symm, (Below.refl _ _).alloc (Nat.le_refl _) _⟩
    · have e1 : ((a.size : Int) != 32) = false := by rw [bne_eq_false_iff_eq]; omega
      have e2 : (i != 4294967295) = true := by rw [bne_iff_ne]; exact hi
      have E := Lib.hid (show baseB a i = false from by rw [Bool.eq_false_iff]; intro h; exact hi ((ptB_iff _ _ _ _).1 h).2)
      clear hs hi
      go_enter Try.func16, Try.ntmps16
      go_wp2_with fail
      go_ret
      exact ⟨ret_bool E.out.symm, (Below.refl _ _).alloc (Nat.le_refl _) _⟩
  · have e1 : ((a.size : Int) != 32) = true := by rw [bne_iff_ne]; omega
    have E := Lib.hid (show baseB a i = false from by
      rw [Bool.eq_false_iff]
      intro h
      obtain ⟨rfl, _⟩ := (ptB_iff _ _ _ _).1 h
      exact hs (by decide +kernel))
    clear hs
    go_enter Try.func16, Try.ntmps16
    go_wp2_with fail
    go_ret
    exact ⟨ret_bool E.out.symm, (Below.refl _ _).alloc (Nat.le_refl _) _⟩

theorem any_hit {α : Type} {p : α → Bool} {xs : List α} {k : Nat} {x : α} (hx : xs[k]? = some x) (hp : p x = true) : xs.any p = true := List.any_eq_true.2 ⟨x, List.mem_of_getElem? hx, hp⟩
theorem any_miss {α : Type} {p : α → Bool} {xs : List α} {n : Nat} (hn : xs.length ≤ n) (h : ∀ (j : Nat) (y : α), j < n → xs[j]? = some y → p y = false) : xs.any p = false := by
  rw [List.any_eq_false]
  intro x hx
  obtain ⟨j, hj⟩ := List.getElem?_of_mem hx
  rw [h j x (by have := (List.getElem?_eq_some_iff.1 hj).1; omega) hj]
  simp
/-- None of the first k. -/
def NoneYet {α : Type} (p : α → Bool) (xs : List α) (k : Nat) : Prop := ∀ (j : Nat) (y : α), j < k → xs[j]? = some y → p y = false
theorem NoneYet.zero {α : Type} (p : α → Bool) (xs : List α) : NoneYet p xs 0 := fun _ _ h => absurd h (Nat.not_lt_zero _)
theorem NoneYet.step {α : Type} {p : α → Bool} {xs : List α} {k : Nat} {x : α} (h : NoneYet p xs k) (hx : xs[k]? = some x) (hp : p x = false) : NoneYet p xs (k + 1) := by
  intro j y hj hy
  by_cases e : j = k
  · subst e; rw [hx] at hy; injection hy with hy; subst hy; exact hp
  · exact h j y (by omega) hy

set_option maxHeartbeats 2000000 in
theorem rlong_any (t : TxD) (vi vo : Value) (w : World) (lo hi : Nat) (ht : TxAt w lo hi vi vo t) (hhi : hi ≤ w.heap.size) (hok : t.Ok) :
    Calls Try.prog 32 #[.agg #[.int .u32 t.ver, vi, vo, .int .u32 t.lock]] w fun e w' => e = .returned (.bool (longB t)) ∧ Below w.heap.size w w' := by
  obtain ⟨tv, ti, to, tl⟩ := t
  obtain ⟨A1, m1, rfl⟩ := ht.1.form
  obtain ⟨A2, m2, rfl⟩ := ht.2.form
  obtain ⟨w1, hw1⟩ : ∃ w1, w1 = w.alloc (.cells #[.int .u32 tv, .slice A1 ti.length m1, .slice A2 to.length m2, .int .u32 tl] 26) := ⟨_, rfl⟩
  have hT : TxAt w1 lo hi (.slice A1 ti.length m1) (.slice A2 to.length m2) ⟨tv, ti, to, tl⟩ := by rw [hw1]; exact ht.keep (Kept.alloc hhi _)
  have bw : Below w.heap.size w w1 := by rw [hw1]; exact (Below.refl _ _).alloc (Nat.le_refl _) _
  obtain ⟨a0, a1, a2, a3⟩ : Boxed w1 w.heap.size (.int .u32 tv) (.slice A1 ti.length m1) (.slice A2 to.length m2) (.int .u32 tl) := by rw [hw1]; exact Boxed.new _ _ _ _ _ _
  have HT := Lib.hid hT
  have BW := Lib.hid bw
  have HW := Lib.hid hw1
  have HO := Lib.hid hok
  have l1 := hok.1
  have l2 := hok.2.1
  simp only at l1 l2 ⊢
  have E1 := Lib.hid (longB_out (t := ⟨tv, ti, to, tl⟩))
  have E2 := Lib.hid (longB_in (t := ⟨tv, ti, to, tl⟩))
  clear hT bw hw1 hok ht
  go_enter Try.func32, Try.ntmps32
  go_wp2_with fail
  go_loopg [3] to.length (fun gg s wr => ∃ k : Nat, k ≤ to.length ∧ to.length - k ≤ gg ∧ s = .int .i64 k ∧ Hid (w1 = wr) ∧ Hid (NoneYet (fun o : OutD => decide (40 < o.scr.size)) to k))
  case atStart => exact ⟨0, Nat.zero_le _, by omega, rfl, HW, NoneYet.zero _ _⟩
  case round =>
    obtain ⟨k, hk, hg, rfl, HWR, HN⟩ := hrel
    have hw := HWR.out
    subst hw
    by_cases hlt : k < to.length
    · have k1 : (k : Int) < (to.length : Int) := by omega
      have k2 : decide (k < to.length) = true := decide_eq_true hlt
      obtain ⟨x, hx⟩ : ∃ x, to[k]? = some x := ⟨_, List.getElem?_eq_getElem hlt⟩
      obtain ⟨b, off, rfl, _, _, c0, c1⟩ := HT.out.2.at hx
      have HX := Lib.hid hx
      clear hx
      by_cases hs : 40 < x.scr.size
      · have s1 : (40 : Int) < (x.scr.size : Int) := by omega
        go_wp2_with fail
        go_ret
        exact ⟨ret_bool (E1.out (any_hit HX.out (decide_eq_true hs))).symm, BW.out⟩
      · have s1 : ¬ (40 : Int) < (x.scr.size : Int) := by omega
        go_wp2_with fail
        go_roundg (to.length - (k + 1))
        case measure => omega
        case rel => exact ⟨k + 1, by omega, by omega, by go_num, rfl, HN.out.step HX.out (decide_eq_false hs)⟩
    · have k1 : ¬ (k : Int) < (to.length : Int) := by omega
      have EI := Lib.hid (E2.out (any_miss (n := k) (by omega) HN.out))
      go_wp2_with fail
      go_loopg [4, 5] ti.length (fun gg s _ wr => ∃ k : Nat, k ≤ ti.length ∧ ti.length - k ≤ gg ∧ s = .int .i64 k ∧ Hid (w1 = wr) ∧ Hid (NoneYet (fun x : InD => x.wit.any fun s => decide (80 < s.size)) ti k))
      case atStart => exact ⟨0, Nat.zero_le _, by omega, rfl, rfl, NoneYet.zero _ _⟩
      case round =>
        obtain ⟨j, hj, hgj, rfl, HWJ, HNJ⟩ := hrel
        have hw := HWJ.out
        subst hw
        by_cases hjl : j < ti.length
        · have j1 : (j : Int) < (ti.length : Int) := by omega
          have j2 : decide (j < ti.length) = true := decide_eq_true hjl
          obtain ⟨x, hx⟩ : ∃ x, ti[j]? = some x := ⟨_, List.getElem?_eq_getElem hjl⟩
          obtain ⟨b, off, rfl, _, _, c0, c1, c2, v, c3, hs⟩ := HT.out.1.at hx
          obtain ⟨B1, n1, rfl⟩ := hs.form
          have hwl := (HO.out.2.2.1 x (List.mem_of_getElem? hx)).2.2.2.2.2.1
          have HX := Lib.hid hx
          have HS := Lib.hid hs
          clear hx hs
          go_wp2_with fail
          go_loopg [5] x.wit.length (fun gg s wr => ∃ k : Nat, k ≤ x.wit.length ∧ x.wit.length - k ≤ gg ∧ s = .int .i64 k ∧ Hid (w1 = wr) ∧ Hid (NoneYet (fun s : ByteArray => decide (80 < s.size)) x.wit k))
          case atStart => exact ⟨0, Nat.zero_le _, by omega, rfl, rfl, NoneYet.zero _ _⟩
          case round =>
            obtain ⟨i, hi', hgi, rfl, HWI, HNI⟩ := hrel
            have hw := HWI.out
            subst hw
            by_cases hil : i < x.wit.length
            · have i1 : (i : Int) < (x.wit.length : Int) := by omega
              have i2 : decide (i < x.wit.length) = true := decide_eq_true hil
              obtain ⟨s, hsi⟩ : ∃ s, x.wit[i]? = some s := ⟨_, List.getElem?_eq_getElem hil⟩
              obtain ⟨eb, eo, rfl, _, _, cs⟩ := HS.out.at hil
              rw [show x.wit.getD i ByteArray.empty = s from by simp [List.getD_eq_getElem?_getD, hsi]] at cs
              have HSI := Lib.hid hsi
              clear hsi
              by_cases hs : 80 < s.size
              · have s1 : (80 : Int) < (s.size : Int) := by omega
                go_wp2_with fail
                go_ret
                exact ⟨ret_bool (by rw [EI.out]; exact (any_hit HX.out (any_hit HSI.out (decide_eq_true hs))).symm), BW.out⟩
              · have s1 : ¬ (80 : Int) < (s.size : Int) := by omega
                go_wp2_with fail
                go_roundg (x.wit.length - (i + 1))
                case measure => omega
                case rel => exact ⟨i + 1, by omega, by omega, by go_num, rfl, HNI.out.step HSI.out (decide_eq_false hs)⟩
            · have i1 : ¬ (i : Int) < (x.wit.length : Int) := by omega
              go_wp2_with fail
              go_roundg (ti.length - (j + 1))
              case measure => omega
              case rel => exact ⟨j + 1, by omega, by omega, by go_num, rfl, HNJ.out.step HX.out (any_miss (n := i) (by omega) HNI.out)⟩
        · have j1 : ¬ (j : Int) < (ti.length : Int) := by omega
          go_wp2_with fail
          go_ret
          exact ⟨ret_bool (by rw [EI.out]; exact (any_miss (n := j) (by omega) HNJ.out).symm), BW.out⟩

end Go.Proofs.Ytnljicongmknhaa
