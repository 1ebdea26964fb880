/-
  The document's witnesses.
-/
import Derived.Test.YtjclklppnkoehaaGreatDoorLsb
namespace Go.Proofs.YtjclklppnkoehaaGreatDoor
open Go.RowKit
set_option maxRecDepth 100000

theorem tag_bytes {s : ByteArray} (h : s.size = 3) : Oc.getN s 1 2 = (s[1].toNat : Int) + 256 * (s[2].toNat : Int) := by
  have e := Oc.getN_yes (s := s) (a := 1) (k := 2) (by decide) (by omega)
  have e1 := Oc.part_step s 1 0 (by omega)
  have e2 := Oc.part_step s 1 1 (by omega)
  have e3 : Oc.part s 1 0 = [] := by simp [Oc.part]
  rw [e3] at e1
  have e4 : Oc.getN s 1 2 = Oc.num (Oc.part s 1 2) := e
  rw [e4, e2, e1]
  simp [Oc.num]
/-- The branch, or -1. -/
def rsN (ws : List ByteArray) : Int := if snB ws = true then snN ws else -1
theorem lk_ret_two {a b c d : Int} (h1 : a = c) (h2 : b = d) : Ending.returned (.tuple #[.int .i64 a, .int .i64 b]) = .returned (.tuple #[.int .i64 c, .int .i64 d]) := by rw [h1, h2]

set_option maxHeartbeats 2000000 in
theorem rsigned_any (ws : List ByteArray) (v : Value) (w : World) (lo hi : Nat) (hw : Strs w lo hi v ws) (hl : ws.length ≤ maxLen) :
    Calls Tryz.prog 51 #[v] w fun e w' => e = .returned (.tuple #[.int .i64 (rsN ws), .int .i64 (snT ws)]) ∧ Below w.heap.size w w' := by
  obtain ⟨A, c, rfl⟩ : ∃ A c, v = .slice A ws.length c := by obtain ⟨A, c, rfl, _⟩ := hw; exact ⟨A, c, rfl⟩
  have NO := Lib.hid (show snB ws = false → rsN ws = -1 ∧ snT ws = 0 from fun h => ⟨by unfold rsN; rw [if_neg (by rw [h]; decide)], (sn_not h).2.2⟩)
  by_cases h1 : ws.length = 1
  · obtain ⟨s, rfl⟩ := List.length_eq_one_iff.1 h1
    obtain ⟨b, off, rfl, _, _, cs⟩ := hw.at (k := 0) (by simp)
    simp only [List.getD_cons_zero, Nat.add_zero] at cs
    by_cases h3 : s.size = 3
    · have i0 : 0 < s.size := by omega
      have i1 : 1 < s.size := by omega
      have i2 : 2 < s.size := by omega
      have p0 := first_byte (s := s) i0
      have p1 := tag_bytes h3
      have d0 := (s[0]).toNat_lt
      have d1 := (s[1]).toNat_lt
      have d2 := (s[2]).toNat_lt
      obtain ⟨f0, hf0⟩ : ∃ f : Nat, s[0].toNat = f := ⟨_, rfl⟩
      obtain ⟨f1, hf1⟩ : ∃ f : Nat, s[1].toNat = f := ⟨_, rfl⟩
      obtain ⟨f2, hf2⟩ : ∃ f : Nat, s[2].toNat = f := ⟨_, rfl⟩
      rw [hf0] at p0 d0
      rw [hf1, hf2] at p1
      rw [hf1] at d1
      rw [hf2] at d2
      have ES := Lib.hid (show snB [s] = decide (Oc.getN s 0 1 < 3) ∧ (snB [s] = true → snN [s] = Oc.getN s 0 1 ∧ snT [s] = Oc.getN s 1 2) from ⟨by simp [snB, h3], fun h => ⟨by show (if snB [s] = true then Oc.getN s 0 1 else 0) = _; rw [if_pos h], by show (if snB [s] = true then Oc.getN s 1 2 else 0) = _; rw [if_pos h]⟩⟩)
      rw [p0, p1] at ES
      have q1 : ((s.size : Int) != 3) = false := by rw [h3]; rfl
      have u0 : IntKind.i64.wrap (f0 : Int) = (f0 : Int) := by rw [IntWalk.i64_in _ (by omega)]
      have u1 : IntKind.i64.wrap (f1 : Int) = (f1 : Int) := by rw [IntWalk.i64_in _ (by omega)]
      have u2 : IntKind.i64.wrap (f2 : Int) = (f2 : Int) := by rw [IntWalk.i64_in _ (by omega)]
      have u3 : IntKind.i64.wrap (256 * (f2 : Int)) = 256 * (f2 : Int) := by rw [IntWalk.i64_in _ (by omega)]
      have u4 : IntKind.i64.wrap ((f1 : Int) + 256 * (f2 : Int)) = (f1 : Int) + 256 * (f2 : Int) := by rw [IntWalk.i64_in _ (by omega)]
      simp only [List.length_cons, List.length_nil, Nat.zero_add]
      clear h3 hw h1 hl p0 p1
      by_cases hx : f0 < 3
      · have hb : snB [s] = true := by rw [ES.out.1]; simp; omega
        have FIN := Lib.hid (show rsN [s] = (f0 : Int) ∧ snT [s] = (f1 : Int) + 256 * (f2 : Int) from ⟨by unfold rsN; rw [if_pos hb]; exact (ES.out.2 hb).1, (ES.out.2 hb).2⟩)
        have hx' : ¬ (2 : Int) < (f0 : Int) := by omega
        clear hb
        go_enter Tryz.func51, Tryz.ntmps51
        go_wp2_with fail
        go_quiet (fail)
        go_wp2
        go_ret2
        exact ⟨lk_ret_two FIN.out.1.symm FIN.out.2.symm, below_drewN (Below.refl _ _) _⟩
      · have FIN := Lib.hid (NO.out (by rw [ES.out.1]; simp; omega))
        have hx' : (2 : Int) < (f0 : Int) := by omega
        go_enter Tryz.func51, Tryz.ntmps51
        go_wp2_with fail
        go_ret2
        exact ⟨lk_ret_two FIN.out.1.symm FIN.out.2.symm, Below.refl _ _⟩
    · have FIN := Lib.hid (NO.out (show snB [s] = false from by simp [snB, h3]))
      have q1 : ((s.size : Int) != 3) = true := by simp; omega
      simp only [List.length_cons, List.length_nil, Nat.zero_add]
      clear h3 hw h1 hl
      go_enter Tryz.func51, Tryz.ntmps51
      go_wp2_with fail
      go_ret2
      exact ⟨lk_ret_two FIN.out.1.symm FIN.out.2.symm, Below.refl _ _⟩
  · have FIN := Lib.hid (NO.out (sn_len h1))
    have q1 : ((ws.length : Int) != 1) = true := by simp; omega
    have hl' : ws.length ≤ 9223372036854775807 := by unfold maxLen at hl; omega
    clear h1 hw hl
    go_enter Tryz.func51, Tryz.ntmps51
    go_wp2_with fail
    go_ret2
    exact ⟨lk_ret_two FIN.out.1.symm FIN.out.2.symm, Below.refl _ _⟩

theorem sg_bytes {b t : Int} (hb : 0 ≤ b ∧ b ≤ 2) (ht : 0 ≤ t ∧ t ≤ 65535) : strOfNums [b, t % 256, t / 256] = sgS b t := by
  unfold sgS
  rw [show (1 : Int) = ((1 : Nat) : Int) from rfl, show (2 : Int) = ((2 : Nat) : Int) from rfl, Oc.putS_yes (k := 1) (by decide), Oc.putS_yes (k := 2) (by decide), ← Oc.str_append]
  simp [Oc.digs]
  congr 1
  simp
  omega
theorem run_three (wx : World) (b t u : Int) :
    (convert 105 9 (.slice (some ⟨wx.heap.size, 0, none⟩) 3 3)).run Tryz.prog (wx.alloc (.cells #[.int .u8 b, .int .u8 t, .int .u8 u] 5)) = .ok (.string (strOfNums [b, t, u])) (wx.alloc (.cells #[.int .u8 b, .int .u8 t, .int .u8 u] 5)) :=
  run_convert_bytes_arg _ 105 5 Tryz.underlying105 Tryz.underlying5 wx.heap.size 0 3 3 [b, t, u] rfl (fun i hi => by
    match i, hi with
    | 0, _ => simp
    | 1, _ => simp
    | 2, _ => simp) 9 Tryz.underlying9

set_option maxHeartbeats 1000000 in
theorem rsign_any (b t : Int) (w : World) (hb : 0 ≤ b ∧ b ≤ 2) (ht : 0 ≤ t ∧ t ≤ 65535) :
    Calls Tryz.prog 18 #[.int .i64 b, .int .u16 t] w fun e w' => ∃ v, e = .returned v ∧ Strs w' w.heap.size w'.heap.size v [sgS b t] ∧ Below w.heap.size w w' := by
  have hr := run_three w b (t % 256) (t / 256)
  rw [sg_bytes hb ht] at hr
  generalize sgS b t = r at hr
  have v1 : IntKind.u8.wrap b = b := by rw [IntWalk.u8_in _ (by omega)]
  have v2 : t.tmod 256 = t % 256 := Int.tmod_eq_emod_of_nonneg ht.1
  have v3 : t.tdiv 256 = t / 256 := Int.tdiv_eq_ediv_of_nonneg ht.1
  have v4 : IntKind.u16.wrap (t % 256) = t % 256 := by rw [IntWalk.u16_in _ (by omega)]
  have v5 : IntKind.u16.wrap (t / 256) = t / 256 := by rw [IntWalk.u16_in _ (by omega)]
  have v6 : IntKind.u8.wrap (t % 256) = t % 256 := by rw [IntWalk.u8_in _ (by omega)]
  have v7 : IntKind.u8.wrap (t / 256) = t / 256 := by rw [IntWalk.u8_in _ (by omega)]
  have B1 := Lib.hid (fun o => (Below.refl w.heap.size w).alloc (Nat.le_refl _) o)
  go_enter Tryz.func18, Tryz.ntmps18
  go_wp2_with fail
  go_ret
  refine ⟨_, rfl, ?_, (B1.out _).alloc (by simp) _⟩
  have h := (one_str (w.alloc (.cells #[.int .u8 b, .int .u8 (t % 256), .int .u8 (t / 256)] 5)) r).wide (lo' := w.heap.size) (hi' := w.heap.size + 1 + 1) (by simp) (by simp)
  simpa using h

end Go.Proofs.YtjclklppnkoehaaGreatDoor
