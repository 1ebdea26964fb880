/-
  Witnesses of a lock, and Sequences: the program's calls and the document's.
-/
import Derived.Test.YtjclklppnkoehaaGreatDoorRget
import Derived.Test.YtjclklppnkoehaaGreatDoorEq
namespace Go.Proofs.YtjclklppnkoehaaGreatDoor
open Go.RowKit
set_option maxRecDepth 100000

/-- The error of Sign, its text. -/
def sgE (b : Int) : Int := if b < 0 ∨ 3 ≤ b then 2 else 0
def sgS (b t : Int) : ByteArray := Oc.putS b 1 ++ Oc.putS t 2
def sgL (b t : Int) : List ByteArray := if sgE b = 0 then [sgS b t] else []
theorem one_str (W : World) (s : ByteArray) : Strs (W.alloc (.cells #[.string s] 9)) W.heap.size (W.heap.size + 1) (.slice (some ⟨W.heap.size, 0, none⟩) 1 1) [s] := by
  refine ⟨_, 1, rfl, Nat.le_refl _, .inr ⟨W.heap.size, 0, rfl, Nat.le_refl _, Nat.lt_succ_self _, fun k x hx => ?_⟩⟩
  match k, hx with
  | 0, hx =>
    simp at hx
    subst hx
    simp

/-- What Signed tells: whether it is a witness, the branch, the tag. -/
def snB (ws : List ByteArray) : Bool := match ws with | [s] => decide (s.size = 3 ∧ Oc.getN s 0 1 < 3) | _ => false
def snE (ws : List ByteArray) : Int := if snB ws = true then 0 else 4
def snN (ws : List ByteArray) : Int := match ws with | [s] => if snB ws = true then Oc.getN s 0 1 else 0 | _ => 0
def snT (ws : List ByteArray) : Int := match ws with | [s] => if snB ws = true then Oc.getN s 1 2 else 0 | _ => 0
theorem sn_not {ws : List ByteArray} (h : snB ws = false) : snE ws = 4 ∧ snN ws = 0 ∧ snT ws = 0 := by
  refine ⟨by unfold snE; rw [if_neg (by rw [h]; decide)], ?_, ?_⟩
  · unfold snN
    split
    · rw [if_neg (by rw [h]; decide)]
    · rfl
  · unfold snT
    split
    · rw [if_neg (by rw [h]; decide)]
    · rfl
theorem sn_len {ws : List ByteArray} (h : ws.length ≠ 1) : snB ws = false := by
  match ws, h with
  | [], _ => rfl
  | [s], h => exact absurd rfl h
  | _ :: _ :: _, _ => rfl
theorem ret_three {a b c d e f : Int} (h1 : a = d) (h2 : b = e) (h3 : c = f) : Ending.returned (.tuple #[.int .i64 a, .int .u16 b, .int .i64 c]) = .returned (.tuple #[.int .i64 d, .int .u16 e, .int .i64 f]) := by rw [h1, h2, h3]

set_option maxHeartbeats 1000000 in
theorem signed_any (ws : List ByteArray) (v : Value) (w : World) (lo hi : Nat) (hw : Strs w lo hi v ws) (hs : ∀ s ∈ ws, s.size ≤ maxLen) (hl : ws.length ≤ maxLen) :
    Calls Tryz.prog 81 #[v] w fun e w' => e = .returned (.tuple #[.int .i64 (snN ws), .int .u16 (snT ws), .int .i64 (snE ws)]) ∧ w = w' := by
  obtain ⟨A, c, rfl⟩ : ∃ A c, v = .slice A ws.length c := by obtain ⟨A, c, rfl, _⟩ := hw; exact ⟨A, c, rfl⟩
  by_cases h1 : ws.length = 1
  · obtain ⟨s, rfl⟩ := List.length_eq_one_iff.1 h1
    obtain ⟨b, off, rfl, _, _, cs⟩ := hw.at (k := 0) (by simp)
    simp only [List.getD_cons_zero, Nat.add_zero] at cs
    have hss := hs s (by simp)
    by_cases h3 : s.size = 3
    · have C0 := Lib.hid (fun W => Oc.get_any s 0 1 W hss)
      have C1 := Lib.hid (fun W => Oc.get_any s 1 2 W hss)
      unfold Oc.GetEnd at C0 C1
      have b0 := getN_bd1 s 0
      have b1 := getN_bd2 s 1
      have ES := Lib.hid (show snB [s] = decide (Oc.getN s 0 1 < 3) ∧ (snB [s] = true → snN [s] = Oc.getN s 0 1 ∧ snT [s] = Oc.getN s 1 2) from ⟨by simp [snB, h3], fun h => ⟨by show (if snB [s] = true then Oc.getN s 0 1 else 0) = _; rw [if_pos h], by show (if snB [s] = true then Oc.getN s 1 2 else 0) = _; rw [if_pos h]⟩⟩)
      generalize Oc.getN s 0 1 = x at C0 b0 ES
      generalize Oc.getN s 1 2 = y at C1 b1 ES
      generalize Oc.okB s 0 1 = t0 at C0
      generalize Oc.okB s 1 2 = t1 at C1
      have q1 : ((s.size : Int) != 3) = false := by rw [h3]; rfl
      have u1 : IntKind.i64.wrap x = x := by rw [IntWalk.i64_in _ (by omega)]
      have u2 : IntKind.u16.wrap y = y := by rw [IntWalk.u16_in _ (by omega)]
      simp only [List.length_cons, List.length_nil, Nat.zero_add]
      clear h3 hss hs hw h1 hl
      by_cases hx : x < 3
      · have hb : snB [s] = true := by rw [ES.out.1]; simpa using hx
        have FIN := Lib.hid (show snN [s] = x ∧ snT [s] = y ∧ snE [s] = 0 from ⟨(ES.out.2 hb).1, (ES.out.2 hb).2, by unfold snE; rw [if_pos hb]⟩)
        have hx' : ¬ 3 ≤ x := by omega
        clear hb
        go_enter Tryz.func81, Tryz.ntmps81
        go_wp2_with fail
        refine (C0.out _).mono ?_
        rintro e wz ⟨rfl, rfl⟩
        go_wp2_with fail
        refine (C1.out _).mono ?_
        rintro e wz ⟨rfl, rfl⟩
        go_wp2_with fail
        refine bodyPost_ret (v := .tuple #[.int .i64 x, .int .u16 y, .int .i64 0]) (by simp [results, Tryz.results81, go_sem]) rfl ?_
        exact ⟨ret_three FIN.out.1.symm FIN.out.2.1.symm FIN.out.2.2.symm, rfl⟩
      · have hb : snB [s] = false := by rw [ES.out.1]; simpa using hx
        have FIN := Lib.hid (sn_not hb)
        have hx' : 3 ≤ x := by omega
        clear hb
        go_enter Tryz.func81, Tryz.ntmps81
        go_wp2_with fail
        refine (C0.out _).mono ?_
        rintro e wz ⟨rfl, rfl⟩
        go_wp2_with fail
        refine (C1.out _).mono ?_
        rintro e wz ⟨rfl, rfl⟩
        go_wp2_with fail
        refine bodyPost_ret (v := .tuple #[.int .i64 0, .int .u16 0, .int .i64 4]) (by simp [results, Tryz.results81, go_sem]) rfl ?_
        exact ⟨ret_three FIN.out.2.1.symm FIN.out.2.2.symm FIN.out.1.symm, rfl⟩
    · have FIN := Lib.hid (sn_not (show snB [s] = false from by simp [snB, h3]))
      have q1 : ((s.size : Int) != 3) = true := by simp; omega
      simp only [List.length_cons, List.length_nil, Nat.zero_add]
      clear h3 hss hs hw h1 hl
      go_enter Tryz.func81, Tryz.ntmps81
      go_wp2_with fail
      refine bodyPost_ret (v := .tuple #[.int .i64 0, .int .u16 0, .int .i64 4]) (by simp [results, Tryz.results81, go_sem]) rfl ?_
      exact ⟨ret_three FIN.out.2.1.symm FIN.out.2.2.symm FIN.out.1.symm, rfl⟩
  · have FIN := Lib.hid (sn_not (sn_len h1))
    have q1 : ((ws.length : Int) != 1) = true := by simp; omega
    have hl' : ws.length ≤ 9223372036854775807 := by unfold maxLen at hl; omega
    clear h1 hs hw hl
    go_enter Tryz.func81, Tryz.ntmps81
    go_wp2_with fail
    refine bodyPost_ret (v := .tuple #[.int .i64 0, .int .u16 0, .int .i64 4]) (by simp [results, Tryz.results81, go_sem]) rfl ?_
    exact ⟨ret_three FIN.out.2.1.symm FIN.out.2.2.symm FIN.out.1.symm, rfl⟩

/-- The Sequence of a branch. -/
def sqN (x : BrD) : Int := if 0 < x.del then x.del else 4294967293
end Go.Proofs.YtjclklppnkoehaaGreatDoor
