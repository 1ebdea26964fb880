/-
  The document's Put of a lock.
-/
import Derived.Test.YtjclklppnkoehaaGreatDoorLput
namespace Go.Proofs.YtjclklppnkoehaaGreatDoor
open Go.RowKit
set_option maxRecDepth 100000

theorem any_high {xs : List BrD} {k : Nat} {x : BrD} (hx : xs[k]? = some x) (hh : highB x = true) : xs.any highB = true := List.any_eq_true.2 ⟨x, List.mem_of_getElem? hx, hh⟩
theorem any_low {xs : List BrD} (h : ∀ (j : Nat) (y : BrD), xs[j]? = some y → highB y = false) : xs.any highB = false := by
  rw [List.any_eq_false]
  intro y hy
  obtain ⟨j, hj⟩ := List.getElem?_of_mem hy
  rw [h j y hj]
  decide
theorem one_put {n : Nat} (h : n ≤ 3) : strOfNums [(n : Int)] = Oc.putS (n : Int) 1 := by
  have e : (n : Int) % 256 = n := by omega
  rw [show (1 : Int) = ((1 : Nat) : Int) from rfl, Oc.putS_yes (k := 1) (by decide)]
  simp [Oc.digs, e]

set_option maxHeartbeats 2000000 in
set_option maxRecDepth 100000 in
theorem rlput_any (xs : List BrD) (v : Value) (w : World) (lo hi : Nat) (hx : Brs w lo hi v xs) (hhi : hi ≤ w.heap.size) (hl : xs.length ≤ 512) (hok : ∀ x ∈ xs, x.Ok) :
    Calls Tryz.prog 14 #[v] w fun e w' => e = .returned (.tuple #[.string (ptS xs), .int .i64 (ptE xs)]) ∧ Below w.heap.size w w' := by
  obtain ⟨A, c, rfl⟩ := hx.form
  obtain ⟨n, hn⟩ : ∃ n, xs.length = n := ⟨_, rfl⟩
  have HN := Lib.hid hn
  by_cases hc : xs.length < 1 ∨ 3 < xs.length
  · have E := Lib.hid (ptE_count hc)
    rw [hn] at hc ⊢
    clear hx hok hn hl
    rcases hc with hc | hc
    · have c1 : (n : Int) < 1 := by omega
      go_enter Tryz.func14, Tryz.ntmps14
      go_wp2_with fail
      go_ret2
      exact ⟨ret_se E.out.2.symm E.out.1.symm, Below.refl _ _⟩
    · have c1 : ¬ (n : Int) < 1 := by omega
      have c2 : (3 : Int) < (n : Int) := by omega
      go_enter Tryz.func14, Tryz.ntmps14
      go_wp2_with fail
      go_ret2
      exact ⟨ret_se E.out.2.symm E.out.1.symm, Below.refl _ _⟩
  · have HX := Lib.hid hx
    have HO := Lib.hid hok
    have HC := Lib.hid hc
    rw [hn] at hc ⊢
    rw [hn] at HX
    have c1 : ¬ (n : Int) < 1 := by omega
    have c2 : ¬ (3 : Int) < (n : Int) := by omega
    have n3 : n ≤ 3 := by omega
    clear hx hok hn hl
    have v0 : IntKind.u8.wrap (n : Int) = (n : Int) := by rw [IntWalk.u8_in _ (by omega)]
    have hone := Oc.run_one_byte w (n : Int)
    rw [one_put n3] at hone
    have B1 := Lib.hid ((Below.refl w.heap.size w).alloc (Nat.le_refl _) (.cells #[.int .u8 (n : Int)] 5))
    go_enter Tryz.func14, Tryz.ntmps14
    go_wp2_with fail
    go_loopg [4, 5, 6, 7, 8] n (fun gg s4 s5 _ _ _ wr => ∃ k : Nat, k ≤ n ∧ n - k ≤ gg ∧ s5 = .int .i64 k ∧ s4 = .string (Oc.putS (n : Int) 1 ++ catL brS (xs.take k)) ∧ Hid (Below w.heap.size w wr) ∧ Hid (∀ (j : Nat) (y : BrD), j < k → xs[j]? = some y → highB y = false))
    case atStart => exact ⟨0, Nat.zero_le _, by omega, rfl, by simp [catL], B1.out, fun j _ hj => absurd hj (Nat.not_lt_zero _)⟩
    case round =>
      obtain ⟨k, hk, hg, rfl, rfl, BW, A0⟩ := hrel
      by_cases hlt : k < n
      · have k1 : (k : Int) < (n : Int) := by omega
        have k2 : decide (k < n) = true := decide_eq_true hlt
        obtain ⟨x, hxk⟩ : ∃ x, xs[k]? = some x := ⟨_, List.getElem?_eq_getElem (by have := HN.out; omega)⟩
        have HXB := Lib.hid fun W (hW : Below w.heap.size w W) => (HX.out.keep (Kept.of_below hW hhi)).at hxk
        have HXK := Lib.hid hxk
        obtain ⟨b, off, rfl, h1, h2, c0, c1', c2'⟩ := HXB.out wr BW.out
        obtain ⟨o1, o2, o3, o4, o5, o6⟩ := HO.out x (List.mem_of_getElem? hxk)
        cases hq : highB x with
        | true =>
          have E := Lib.hid (ptE_high HC.out (any_high hxk hq))
          have hgt : (1000000 : Int) < x.hgt := by simpa [highB] using hq
          clear hxk hq
          go_wp2_with fail
          go_ret2
          exact ⟨ret_se E.out.2.symm E.out.1.symm, BW.out⟩
        | false =>
          have hgt : ¬ (1000000 : Int) < x.hgt := by simpa [highB] using hq
          have CS := Lib.hid (catL_step brS hxk)
          have HQ := Lib.hid hq
          obtain ⟨s, hs⟩ : ∃ s, Oc.putS (n : Int) 1 ++ catL brS (xs.take k) = s := ⟨_, rfl⟩
          have hss : s.size ≤ 100 := by rw [← hs, ByteArray.size_append, put_sz1, cat_size, List.length_take]; omega
          have HS := Lib.hid hs
          rw [hs]
          clear hs hxk hq
          have v1 : IntKind.u64.wrap x.tag = x.tag := by rw [IntWalk.u64_in _ (by omega)]
          have v2 : IntKind.u64.wrap x.del = x.del := by rw [IntWalk.u64_in _ (by omega)]
          have v3 : IntKind.u64.wrap x.hgt = x.hgt := by rw [IntWalk.u64_in _ (by omega)]
          have C1 := Lib.hid (fun W : World => Oc.rput_any x.tag 2 W (by omega) (by omega))
          have C2 := Lib.hid (fun W : World => Oc.rput_any x.del 2 W (by omega) (by omega))
          have C4 := Lib.hid (fun W : World => Oc.rput_any x.hgt 4 W (by omega) (by omega))
          have z1 := put_sz2 x.tag
          have z2 := put_sz2 x.del
          have z3 := put_sz4 x.hgt
          have HR := Lib.hid (show s ++ Oc.putS x.tag 2 ++ Oc.putS x.del 2 ++ Oc.putS x.hgt 4 = Oc.putS (n : Int) 1 ++ catL brS (xs.take (k + 1)) from by
            rw [CS.out, ← HS.out]
            unfold brS
            simp only [ByteArray.append_assoc])
          unfold Oc.PutEnd at C1 C2 C4
          generalize Oc.putS x.tag 2 = sa at C1 z1 HR
          generalize Oc.putS x.del 2 = sb at C2 z2 HR
          generalize Oc.putS x.hgt 4 = sc at C4 z3 HR
          have ad1 : ∀ W : World, (Op.stringOp .add s sa).run Tryz.prog W = .ok (.string (s ++ sa)) W := fun W => run_string_add_sum (w := W) _ _ (by omega)
          have ad2 : ∀ W : World, (Op.stringOp .add (s ++ sa) sb).run Tryz.prog W = .ok (.string (s ++ sa ++ sb)) W := fun W => run_string_add_sum (w := W) _ _ (by rw [ByteArray.size_append]; omega)
          have ad3 : ∀ W : World, (Op.stringOp .add (s ++ sa ++ sb) sc).run Tryz.prog W = .ok (.string (s ++ sa ++ sb ++ sc)) W := fun W => run_string_add_sum (w := W) _ _ (by rw [ByteArray.size_append, ByteArray.size_append]; omega)
          go_wp2_with fail
          refine (C1.out wr).mono ?_
          rintro e w1 ⟨rfl, hb1⟩
          have K1 := Lib.hid (below_next BW.out BW.out.size hb1)
          clear hb1 c0 c1' c2'
          obtain ⟨b', off', hA, _, _, c0, c1', c2'⟩ := HXB.out w1 K1.out
          injection hA with hA
          injection hA with e1 e2
          subst e1 e2
          go_wp2_with fail
          refine (C2.out w1).mono ?_
          rintro e w2 ⟨rfl, hb2⟩
          have K2 := Lib.hid (below_next K1.out K1.out.size hb2)
          clear hb2 c0 c1' c2'
          obtain ⟨b', off', hA, _, _, c0, c1', c2'⟩ := HXB.out w2 K2.out
          injection hA with hA
          injection hA with e1 e2
          subst e1 e2
          go_wp2_with fail
          refine (C4.out w2).mono ?_
          rintro e w3 ⟨rfl, hb3⟩
          have K3 := Lib.hid (below_next K2.out K2.out.size hb3)
          clear hb3 c0 c1' c2'
          go_wp2_with fail
          go_roundg (n - (k + 1))
          case measure => omega
          case rel =>
            refine ⟨k + 1, by omega, by omega, by go_num, by rw [HR.out], K3.out, fun j y hj hy => ?_⟩
            by_cases e : j = k
            · subst e
              rw [HXK.out] at hy
              injection hy with hy
              subst hy
              exact HQ.out
            · exact A0.out j y (by omega) hy
      · have k1 : ¬ (k : Int) < (n : Int) := by omega
        obtain rfl : k = n := by omega
        have E := Lib.hid (ptE_ok HC.out (any_low (fun j y hy => A0.out j y (by have := (List.getElem?_eq_some_iff.1 hy).1; have := HN.out; omega) hy)))
        have ES := Lib.hid (show Oc.putS (k : Int) 1 ++ catL brS (xs.take k) = ptS xs from by rw [E.out.2, ← HN.out, List.take_length]; rfl)
        go_wp2_with fail
        go_ret2
        exact ⟨ret_se ES.out E.out.1.symm, BW.out⟩

end Go.Proofs.YtjclklppnkoehaaGreatDoor
