/-
  What layer 8 asks of a transaction: the program's small calls and the document's.
-/
import Derived.Test.YtjclklppnkoehaaGreatDoorLsg
import Derived.Laws.BitsAllLaws
import Derived.Test.YtjclklppnkoehaaGreatDoorCheck
import Derived.Test.YtjclklppnkoehaaGreatDoorShut
import Derived.Test.YtjclklppnkoehaaGreatDoorEqual
namespace Go.Proofs.YtjclklppnkoehaaGreatDoor
open Go.RowKit
set_option maxRecDepth 100000

/-- Has t an In there? Is a number a height? -/
def hiB (t : TxD) (i : Int) : Bool := decide (0 ≤ i ∧ i < (t.ins.length : Int))
def htB (n : Int) : Bool := decide (0 ≤ n ∧ n ≤ 1000000)
/-- How many blocks an input waits. -/
def wsN (v q : Int) : Int := if 2147483648 ≤ q ∨ v < 2 then 0 else q % 65536
/-- Does an input ask for the LockTime? -/
def askB (x : InD) : Bool := x.sq != 4294967295
theorem wsN_bd (v : Int) {q : Int} (_hq : 0 ≤ q) : 0 ≤ wsN v q ∧ wsN v q ≤ 65535 := by
  unfold wsN
  split <;> omega
theorem and_low {q : Int} (h0 : 0 ≤ q) (h1 : q ≤ 4294967295) : bits BinOp.and IntKind.u32 q 65535 = q % 65536 := by
  rw [u32_and q 65535 h0 (by omega) (by decide) (by decide)]
  have e : q.toNat &&& (65535 : Int).toNat = q.toNat % 65536 := Nat.and_two_pow_sub_one_eq_mod q.toNat 16
  rw [e]
  omega

set_option maxHeartbeats 1000000 in
theorem hasin_any (t : TxD) (i : Int) (vi vo : Value) (w : World) (lo hi : Nat) (ht : TxAt w lo hi vi vo t) (_hl : t.ins.length ≤ 512) :
    Calls Tryz.prog 75 #[.agg #[.int .u32 t.ver, vi, vo, .int .u32 t.lock], .int .i64 i] w fun e w' => e = .returned (.bool (hiB t i)) ∧ Below w.heap.size w w' := by
  obtain ⟨A, c, rfl⟩ := ht.1.form
  unfold hiB
  obtain ⟨n, hn⟩ : ∃ n, t.ins.length = n := ⟨_, rfl⟩
  rw [hn]
  clear ht hn
  by_cases h0 : 0 ≤ i
  · by_cases h1 : i < (n : Int)
    · go_enter Tryz.func75, Tryz.ntmps75
      go_wp2_with fail
      go_ret
      exact ⟨ret_bool (decide_eq_true ⟨h0, h1⟩).symm, (Below.refl _ _).alloc (Nat.le_refl _) _⟩
    · go_enter Tryz.func75, Tryz.ntmps75
      go_wp2_with fail
      go_ret
      exact ⟨ret_bool (decide_eq_false (by omega)).symm, (Below.refl _ _).alloc (Nat.le_refl _) _⟩
  · go_enter Tryz.func75, Tryz.ntmps75
    go_wp2_with fail
    go_ret
    exact ⟨ret_bool (by rw [decide_eq_false (show ¬ 0 ≤ i by omega)]; rfl), (Below.refl _ _).alloc (Nat.le_refl _) _⟩

set_option maxHeartbeats 1000000 in
theorem isht_any (n : Int) (w : World) : Calls Tryz.prog 78 #[.int .i64 n] w fun e w' => e = .returned (.bool (htB n)) ∧ w = w' := by
  by_cases h0 : 0 ≤ n
  · by_cases h1 : n ≤ 1000000
    · go_enter Tryz.func78, Tryz.ntmps78
      go_wp2_with fail
      go_ret
      exact ⟨ret_bool (decide_eq_true ⟨h0, h1⟩).symm, rfl⟩
    · go_enter Tryz.func78, Tryz.ntmps78
      go_wp2_with fail
      go_ret
      exact ⟨ret_bool (decide_eq_false (by omega)).symm, rfl⟩
  · go_enter Tryz.func78, Tryz.ntmps78
    go_wp2_with fail
    go_ret
    exact ⟨ret_bool (decide_eq_false (by omega)).symm, rfl⟩

set_option maxHeartbeats 1000000 in
theorem waits_any (t : TxD) (k : Nat) (x : InD) (vi vo : Value) (w : World) (lo hi : Nat) (ht : TxAt w lo hi vi vo t) (hhi : hi ≤ w.heap.size) (_hl : t.ins.length ≤ 512) (hx : t.ins[k]? = some x) (hq : 0 ≤ x.sq ∧ x.sq ≤ 4294967295) :
    Calls Tryz.prog 77 #[.agg #[.int .u32 t.ver, vi, vo, .int .u32 t.lock], .int .i64 (k : Int)] w fun e w' => e = .returned (.int .i64 (wsN t.ver x.sq)) ∧ Below w.heap.size w w' := by
  obtain ⟨A, c, rfl⟩ := ht.1.form
  obtain ⟨b, off, rfl, h1, h2, c0, c1, c2, u, c3, _⟩ := ht.1.at hx
  have hk := (List.getElem?_eq_some_iff.1 hx).1
  have hb : b < w.heap.size := by omega
  obtain ⟨n, hn⟩ : ∃ n, t.ins.length = n := ⟨_, rfl⟩
  rw [hn] at hk ⊢
  have k1 : (k : Int) < (n : Int) := by omega
  have BA := Lib.hid (fun o => (Below.refl w.heap.size w).alloc (Nat.le_refl _) o)
  clear ht hx hn
  by_cases hs : 2147483648 ≤ x.sq
  · have e : wsN t.ver x.sq = 0 := by unfold wsN; rw [if_pos (.inl hs)]
    rw [e]
    clear e
    go_enter Tryz.func77, Tryz.ntmps77
    go_wp2_with fail
    go_ret
    exact ⟨rfl, BA.out _⟩
  · by_cases hv : t.ver < 2
    · have e : wsN t.ver x.sq = 0 := by unfold wsN; rw [if_pos (.inr hv)]
      rw [e]
      clear e
      go_enter Tryz.func77, Tryz.ntmps77
      go_wp2_with fail
      go_ret
      exact ⟨rfl, BA.out _⟩
    · have e : wsN t.ver x.sq = x.sq % 65536 := by unfold wsN; rw [if_neg (by omega)]
      rw [e]
      have ea := and_low hq.1 hq.2
      have v1 : IntKind.i64.wrap (x.sq % 65536) = x.sq % 65536 := by rw [IntWalk.i64_in _ (by omega)]
      clear e
      go_enter Tryz.func77, Tryz.ntmps77
      go_wp2_with fail
      go_ret
      exact ⟨rfl, BA.out _⟩

set_option maxHeartbeats 1000000 in
theorem rwaits_any (t : TxD) (k : Nat) (x : InD) (vi vo : Value) (w : World) (lo hi : Nat) (ht : TxAt w lo hi vi vo t) (hhi : hi ≤ w.heap.size) (_hl : t.ins.length ≤ 512) (hx : t.ins[k]? = some x) (hq : 0 ≤ x.sq ∧ x.sq ≤ 4294967295) :
    Calls Tryz.prog 52 #[.agg #[.int .u32 t.ver, vi, vo, .int .u32 t.lock], .int .i64 (k : Int)] w fun e w' => e = .returned (.int .i64 (wsN t.ver x.sq)) ∧ Below w.heap.size w w' := by
  obtain ⟨A, c, rfl⟩ := ht.1.form
  obtain ⟨b, off, rfl, h1, h2, c0, c1, c2, u, c3, _⟩ := ht.1.at hx
  have hk := (List.getElem?_eq_some_iff.1 hx).1
  have hb : b < w.heap.size := by omega
  obtain ⟨n, hn⟩ : ∃ n, t.ins.length = n := ⟨_, rfl⟩
  rw [hn] at hk ⊢
  have k1 : (k : Int) < (n : Int) := by omega
  have BA := Lib.hid (fun o => (Below.refl w.heap.size w).alloc (Nat.le_refl _) o)
  clear ht hx hn
  by_cases hs : 2147483648 ≤ x.sq
  · have e : wsN t.ver x.sq = 0 := by unfold wsN; rw [if_pos (.inl hs)]
    rw [e]
    clear e
    go_enter Tryz.func52, Tryz.ntmps52
    go_wp2_with fail
    go_ret
    exact ⟨rfl, BA.out _⟩
  · by_cases hv : t.ver < 2
    · have e : wsN t.ver x.sq = 0 := by unfold wsN; rw [if_pos (.inr hv)]
      rw [e]
      clear e
      go_enter Tryz.func52, Tryz.ntmps52
      go_wp2_with fail
      go_ret
      exact ⟨rfl, BA.out _⟩
    · have e : wsN t.ver x.sq = x.sq % 65536 := by unfold wsN; rw [if_neg (by omega)]
      rw [e]
      have ea : x.sq.tmod 65536 = x.sq % 65536 := Int.tmod_eq_emod_of_nonneg hq.1
      have v0 : IntKind.u32.wrap (x.sq % 65536) = x.sq % 65536 := by rw [IntWalk.u32_in _ (by omega)]
      have v1 : IntKind.i64.wrap (x.sq % 65536) = x.sq % 65536 := by rw [IntWalk.i64_in _ (by omega)]
      clear e
      go_enter Tryz.func52, Tryz.ntmps52
      go_wp2_with fail
      go_ret
      exact ⟨rfl, BA.out _⟩

set_option maxHeartbeats 400000 in
theorem ask_any (a : ByteArray) (i q : Int) (A : Option Addr) (n c : Nat) (w : World) :
    Calls Tryz.prog 82 #[.agg #[.string a, .int .u32 i, .int .u32 q, .slice A n c]] w fun e w' => e = .returned (.bool (q != 4294967295)) ∧ Below w.heap.size w w' := by
  go_enter Tryz.func82, Tryz.ntmps82
  go_wp2
  go_ret
  exact ⟨rfl, (Below.refl _ _).alloc (Nat.le_refl _) _⟩
theorem eg46 : ∀ args w, (callFunc 82 args).run Tryz.prog w = .ok (.enter 82 args) w := enters_of Tryz.func82 (by kernel_rfl) rfl
set_option maxHeartbeats 1000000 in
theorem final_any (t : TxD) (vi vo : Value) (w : World) (lo hi : Nat) (ht : TxAt w lo hi vi vo t) (hhi : hi ≤ w.heap.size) (hl : t.ins.length ≤ 512) :
    Calls Tryz.prog 79 #[.agg #[.int .u32 t.ver, vi, vo, .int .u32 t.lock]] w fun e w' => e = .returned (.bool !(t.ins.any askB)) ∧ Below w.heap.size w w' := by
  obtain ⟨A, c, rfl⟩ := ht.1.form
  have B0 := Lib.hid (fun o => (Below.refl w.heap.size w).alloc (Nat.le_refl _) o)
  have HF := Lib.hid (fun W (hW : Below w.heap.size w W) => has_in 82 #[] eg46 askB A _ c t.ins W lo hi (ht.1.keep (Kept.of_below hW hhi)) (Nat.le_trans hhi hW.size) hl (fun W' x A' n' c' _ _ _ => ask_any x.id x.ix x.sq A' n' c' W'))
  generalize t.ins.any askB = r at HF
  clear ht
  go_enter Tryz.func79, Tryz.ntmps79
  go_wp2_with fail
  refine (HF.out _ (B0.out _)).mono ?_
  rintro e w1 ⟨rfl, hb1⟩
  have B1 := Lib.hid (below_next (B0.out _) (by simp) hb1)
  clear hb1
  go_wp2_with fail
  go_ret
  exact ⟨rfl, B1.out⟩

end Go.Proofs.YtjclklppnkoehaaGreatDoor
