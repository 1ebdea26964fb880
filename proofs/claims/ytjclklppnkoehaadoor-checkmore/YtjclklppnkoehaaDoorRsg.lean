/-
  The document's witnesses.
-/
import Derived.Test.YtjclklppnkoehaaDoorLsb
namespace Go.Proofs.YtjclklppnkoehaaDoor
open Go.RowKit
set_option maxRecDepth 100000

theorem tag_bytes {s : ByteArray} (h : s.size = 3) : Oc.getN s 1 2 = (s[1].toNat : Int) + 256 * (s[2].toNat : Int) := by
  have e := Oc.getN_yes (s := s) (a := 1) (k := 2) (by decide) (by omega)
  have e1 := Oc.part_step s 1 0 (by omega)
  have e2 := Oc.part_step s 1 1 (by omega)
  have e3 : Oc.part s 1 0 = [] := by simp [Oc.part]
  rw [e3] at e1
  have e4 : Oc.getN s 1 2 = Oc.num (Oc.part s 1 2) := e
  rw [e4, e2, e1]
  simp [Oc.num]
/-- The branch, or -1. -/
def rsN (ws : List ByteArray) : Int := if snB ws = true then snN ws else -1
theorem lk_ret_two {a b c d : Int} (h1 : a = c) (h2 : b = d) : Ending.returned (.tuple #[.int .i64 a, .int .i64 b]) = .returned (.tuple #[.int .i64 c, .int .i64 d]) := by rw [h1, h2]

theorem sg_bytes {b t : Int} (hb : 0 ≤ b ∧ b ≤ 2) (ht : 0 ≤ t ∧ t ≤ 65535) : strOfNums [b, t % 256, t / 256] = sgS b t := by
  unfold sgS
  rw [show (1 : Int) = ((1 : Nat) : Int) from rfl, show (2 : Int) = ((2 : Nat) : Int) from rfl, Oc.putS_yes (k := 1) (by decide), Oc.putS_yes (k := 2) (by decide), ← Oc.str_append]
  simp [Oc.digs]
  congr 1
  simp
  omega
theorem run_three (wx : World) (b t u : Int) :
    (convert 105 9 (.slice (some ⟨wx.heap.size, 0, none⟩) 3 3)).run Tryd.prog (wx.alloc (.cells #[.int .u8 b, .int .u8 t, .int .u8 u] 5)) = .ok (.string (strOfNums [b, t, u])) (wx.alloc (.cells #[.int .u8 b, .int .u8 t, .int .u8 u] 5)) :=
  run_convert_bytes_arg _ 105 5 Tryd.underlying105 Tryd.underlying5 wx.heap.size 0 3 3 [b, t, u] rfl (fun i hi => by
    match i, hi with
    | 0, _ => simp
    | 1, _ => simp
    | 2, _ => simp) 9 Tryd.underlying9

set_option maxHeartbeats 1000000 in
theorem rsign_any (b t : Int) (w : World) (hb : 0 ≤ b ∧ b ≤ 2) (ht : 0 ≤ t ∧ t ≤ 65535) :
    Calls Tryd.prog 18 #[.int .i64 b, .int .u16 t] w fun e w' => ∃ v, e = .returned v ∧ Strs w' w.heap.size w'.heap.size v [sgS b t] ∧ Below w.heap.size w w' := by
  have hr := run_three w b (t % 256) (t / 256)
  rw [sg_bytes hb ht] at hr
  generalize sgS b t = r at hr
  have v1 : IntKind.u8.wrap b = b := by rw [IntWalk.u8_in _ (by omega)]
  have v2 : t.tmod 256 = t % 256 := Int.tmod_eq_emod_of_nonneg ht.1
  have v3 : t.tdiv 256 = t / 256 := Int.tdiv_eq_ediv_of_nonneg ht.1
  have v4 : IntKind.u16.wrap (t % 256) = t % 256 := by rw [IntWalk.u16_in _ (by omega)]
  have v5 : IntKind.u16.wrap (t / 256) = t / 256 := by rw [IntWalk.u16_in _ (by omega)]
  have v6 : IntKind.u8.wrap (t % 256) = t % 256 := by rw [IntWalk.u8_in _ (by omega)]
  have v7 : IntKind.u8.wrap (t / 256) = t / 256 := by rw [IntWalk.u8_in _ (by omega)]
  have B1 := Lib.hid (fun o => (Below.refl w.heap.size w).alloc (Nat.le_refl _) o)
  go_enter Tryd.func18, Tryd.ntmps18
  go_wp2_with fail
  go_ret
  refine ⟨_, rfl, ?_, (B1.out _).alloc (by simp) _⟩
  have h := (one_str (w.alloc (.cells #[.int .u8 b, .int .u8 (t % 256), .int .u8 (t / 256)] 5)) r).wide (lo' := w.heap.size) (hi' := w.heap.size + 1 + 1) (by simp) (by simp)
  simpa using h

end Go.Proofs.YtjclklppnkoehaaDoor
