/-
  What layer 8 asks of a transaction: the program's small calls and the document's.
-/
import Derived.Test.YtdldhfhhhjenkaaLsg
import Derived.Laws.BitsAllLaws
import Derived.Test.YtdldhfhhhjenkaaShut
namespace Go.Proofs.Ytdldhfhhhjenkaa
open Go.RowKit

/-- The four cells of a box. -/
def Boxed (w : World) (b : Nat) (v0 v1 v2 v3 : Value) : Prop := w.cell? ⟨b, 0, none⟩ = some v0 ∧ w.cell? ⟨b, 1, none⟩ = some v1 ∧ w.cell? ⟨b, 2, none⟩ = some v2 ∧ w.cell? ⟨b, 3, none⟩ = some v3
theorem Boxed.new (w : World) (v0 v1 v2 v3 : Value) (t : TypeId) : Boxed (w.alloc (.cells #[v0, v1, v2, v3] t)) w.heap.size v0 v1 v2 v3 := ⟨by simp, by simp, by simp, by simp⟩
theorem Boxed.below {w w' : World} {b B : Nat} {v0 v1 v2 v3 : Value} (h : Boxed w b v0 v1 v2 v3) (hb : b < B) (hw : Below B w w') : Boxed w' b v0 v1 v2 v3 :=
  ⟨(hw.cell (p := ⟨b, 0, none⟩) hb).trans h.1, (hw.cell (p := ⟨b, 1, none⟩) hb).trans h.2.1, (hw.cell (p := ⟨b, 2, none⟩) hb).trans h.2.2.1, (hw.cell (p := ⟨b, 3, none⟩) hb).trans h.2.2.2⟩
/-- Has t an In there? Is a number a height? -/
def hiB (t : TxD) (i : Int) : Bool := decide (0 ≤ i ∧ i < (t.ins.length : Int))
def htB (n : Int) : Bool := decide (0 ≤ n ∧ n ≤ 1000000)
/-- How many blocks an input waits. -/
def wsN (v q : Int) : Int := if 2147483648 ≤ q ∨ v < 2 then 0 else q % 65536
/-- Does an input ask for the LockTime? -/
def askB (x : InD) : Bool := x.sq != 4294967295
theorem wsN_bd (v : Int) {q : Int} (_hq : 0 ≤ q) : 0 ≤ wsN v q ∧ wsN v q ≤ 65535 := by
  unfold wsN
  split <;> omega
theorem and_low {q : Int} (h0 : 0 ≤ q) (h1 : q ≤ 4294967295) : bits BinOp.and IntKind.u32 q 65535 = q % 65536 := by
  rw [u32_and q 65535 h0 (by omega) (by decide) (by decide)]
  have e : q.toNat &&& (65535 : Int).toNat = q.toNat % 65536 := Nat.and_two_pow_sub_one_eq_mod q.toNat 16
  rw [e]
  omega

set_option maxHeartbeats 1000000 in
theorem hasin_any (t : TxD) (i : Int) (vi vo : Value) (w : World) (lo hi : Nat) (ht : TxAt w lo hi vi vo t) (_hl : t.ins.length ≤ 512) :
    Calls Try.prog 35 #[.agg #[.int .u32 t.ver, vi, vo, .int .u32 t.lock], .int .i64 i] w fun e w' => e = .returned (.bool (hiB t i)) ∧ Below w.heap.size w w' := by
  obtain ⟨A, c, rfl⟩ := ht.1.form
  unfold hiB
  obtain ⟨n, hn⟩ : ∃ n, t.ins.length = n := ⟨_, rfl⟩
  rw [hn]
  clear ht hn
  by_cases h0 : 0 ≤ i
  · by_cases h1 : i < (n : Int)
    · go_enter Try.func35, Try.ntmps35
      go_wp2_with fail
      go_ret
      exact ⟨ret_bool (decide_eq_true ⟨h0, h1⟩).symm, (Below.refl _ _).alloc (Nat.le_refl _) _⟩
    · go_enter Try.func35, Try.ntmps35
      go_wp2_with fail
      go_ret
      exact ⟨ret_bool (decide_eq_false (by omega)).symm, (Below.refl _ _).alloc (Nat.le_refl _) _⟩
  · go_enter Try.func35, Try.ntmps35
    go_wp2_with fail
    go_ret
    exact ⟨ret_bool (by rw [decide_eq_false (show ¬ 0 ≤ i by omega)]; rfl), (Below.refl _ _).alloc (Nat.le_refl _) _⟩

set_option maxHeartbeats 1000000 in
theorem isht_any (n : Int) (w : World) : Calls Try.prog 39 #[.int .i64 n] w fun e w' => e = .returned (.bool (htB n)) ∧ w = w' := by
  by_cases h0 : 0 ≤ n
  · by_cases h1 : n ≤ 1000000
    · go_enter Try.func39, Try.ntmps39
      go_wp2_with fail
      go_ret
      exact ⟨ret_bool (decide_eq_true ⟨h0, h1⟩).symm, rfl⟩
    · go_enter Try.func39, Try.ntmps39
      go_wp2_with fail
      go_ret
      exact ⟨ret_bool (decide_eq_false (by omega)).symm, rfl⟩
  · go_enter Try.func39, Try.ntmps39
    go_wp2_with fail
    go_ret
    exact ⟨ret_bool (decide_eq_false (by omega)).symm, rfl⟩

set_option maxHeartbeats 1000000 in
theorem waits_any (t : TxD) (k : Nat) (x : InD) (vi vo : Value) (w : World) (lo hi : Nat) (ht : TxAt w lo hi vi vo t) (hhi : hi ≤ w.heap.size) (_hl : t.ins.length ≤ 512) (hx : t.ins[k]? = some x) (hq : 0 ≤ x.sq ∧ x.sq ≤ 4294967295) :
    Calls Try.prog 37 #[.agg #[.int .u32 t.ver, vi, vo, .int .u32 t.lock], .int .i64 (k : Int)] w fun e w' => e = .returned (.int .i64 (wsN t.ver x.sq)) ∧ Below w.heap.size w w' := by
  obtain ⟨A, c, rfl⟩ := ht.1.form
  obtain ⟨b, off, rfl, h1, h2, c0, c1, c2, u, c3, _⟩ := ht.1.at hx
  have hk := (List.getElem?_eq_some_iff.1 hx).1
  have hb : b < w.heap.size := by omega
  obtain ⟨n, hn⟩ : ∃ n, t.ins.length = n := ⟨_, rfl⟩
  rw [hn] at hk ⊢
  have k1 : (k : Int) < (n : Int) := by omega
  have BA := Lib.hid (fun o => (Below.refl w.heap.size w).alloc (Nat.le_refl _) o)
  clear ht hx hn
  by_cases hs : 2147483648 ≤ x.sq
  · have e : wsN t.ver x.sq = 0 := by unfold wsN; rw [if_pos (.inl hs)]
    rw [e]
    clear e
    go_enter Try.func37, Try.ntmps37
    go_wp2_with fail
    go_ret
    exact ⟨rfl, BA.out _⟩
  · by_cases hv : t.ver < 2
    · have e : wsN t.ver x.sq = 0 := by unfold wsN; rw [if_pos (.inr hv)]
      rw [e]
      clear e
      go_enter Try.func37, Try.ntmps37
      go_wp2_with fail
      go_ret
      exact ⟨rfl, BA.out _⟩
    · have e : wsN t.ver x.sq = x.sq % 65536 := by unfold wsN; rw [if_neg (by omega)]
      rw [e]
      have ea := and_low hq.1 hq.2
      have v1 : IntKind.i64.wrap (x.sq % 65536) = x.sq % 65536 := by rw [IntWalk.i64_in _ (by omega)]
      clear e
      go_enter Try.func37, Try.ntmps37
      go_wp2_with fail
      go_ret
      exact ⟨rfl, BA.out _⟩

set_option maxHeartbeats 1000000 in
theorem rwaits_any (t : TxD) (k : Nat) (x : InD) (vi vo : Value) (w : World) (lo hi : Nat) (ht : TxAt w lo hi vi vo t) (hhi : hi ≤ w.heap.size) (_hl : t.ins.length ≤ 512) (hx : t.ins[k]? = some x) (hq : 0 ≤ x.sq ∧ x.sq ≤ 4294967295) :
    Calls Try.prog 38 #[.agg #[.int .u32 t.ver, vi, vo, .int .u32 t.lock], .int .i64 (k : Int)] w fun e w' => e = .returned (.int .i64 (wsN t.ver x.sq)) ∧ Below w.heap.size w w' := by
  obtain ⟨A, c, rfl⟩ := ht.1.form
  obtain ⟨b, off, rfl, h1, h2, c0, c1, c2, u, c3, _⟩ := ht.1.at hx
  have hk := (List.getElem?_eq_some_iff.1 hx).1
  have hb : b < w.heap.size := by omega
  obtain ⟨n, hn⟩ : ∃ n, t.ins.length = n := ⟨_, rfl⟩
  rw [hn] at hk ⊢
  have k1 : (k : Int) < (n : Int) := by omega
  have BA := Lib.hid (fun o => (Below.refl w.heap.size w).alloc (Nat.le_refl _) o)
  clear ht hx hn
  by_cases hs : 2147483648 ≤ x.sq
  · have e : wsN t.ver x.sq = 0 := by unfold wsN; rw [if_pos (.inl hs)]
    rw [e]
    clear e
    go_enter Try.func38, Try.ntmps38
    go_wp2_with fail
    go_ret
    exact ⟨rfl, BA.out _⟩
  · by_cases hv : t.ver < 2
    · have e : wsN t.ver x.sq = 0 := by unfold wsN; rw [if_pos (.inr hv)]
      rw [e]
      clear e
      go_enter Try.func38, Try.ntmps38
      go_wp2_with fail
      go_ret
      exact ⟨rfl, BA.out _⟩
    · have e : wsN t.ver x.sq = x.sq % 65536 := by unfold wsN; rw [if_neg (by omega)]
      rw [e]
      have ea : x.sq.tmod 65536 = x.sq % 65536 := Int.tmod_eq_emod_of_nonneg hq.1
      have v0 : IntKind.u32.wrap (x.sq % 65536) = x.sq % 65536 := by rw [IntWalk.u32_in _ (by omega)]
      have v1 : IntKind.i64.wrap (x.sq % 65536) = x.sq % 65536 := by rw [IntWalk.i64_in _ (by omega)]
      clear e
      go_enter Try.func38, Try.ntmps38
      go_wp2_with fail
      go_ret
      exact ⟨rfl, BA.out _⟩

set_option maxHeartbeats 400000 in
theorem ask_any (a : ByteArray) (i q : Int) (A : Option Addr) (n c : Nat) (w : World) :
    Calls Try.prog 46 #[.agg #[.string a, .int .u32 i, .int .u32 q, .slice A n c]] w fun e w' => e = .returned (.bool (q != 4294967295)) ∧ Below w.heap.size w w' := by
  go_enter Try.func46, Try.ntmps46
  go_wp2
  go_ret
  exact ⟨rfl, (Below.refl _ _).alloc (Nat.le_refl _) _⟩
theorem eg46 : ∀ args w, (callFunc 46 args).run Try.prog w = .ok (.enter 46 args) w := enters_of Try.func46 (by kernel_rfl) rfl
set_option maxHeartbeats 1000000 in
theorem final_any (t : TxD) (vi vo : Value) (w : World) (lo hi : Nat) (ht : TxAt w lo hi vi vo t) (hhi : hi ≤ w.heap.size) (hl : t.ins.length ≤ 512) :
    Calls Try.prog 40 #[.agg #[.int .u32 t.ver, vi, vo, .int .u32 t.lock]] w fun e w' => e = .returned (.bool !(t.ins.any askB)) ∧ Below w.heap.size w w' := by
  obtain ⟨A, c, rfl⟩ := ht.1.form
  have B0 := Lib.hid (fun o => (Below.refl w.heap.size w).alloc (Nat.le_refl _) o)
  have HF := Lib.hid (fun W (hW : Below w.heap.size w W) => has_in 46 #[] eg46 askB A _ c t.ins W lo hi (ht.1.keep (Kept.of_below hW hhi)) (Nat.le_trans hhi hW.size) hl (fun W' x A' n' c' _ _ _ => ask_any x.id x.ix x.sq A' n' c' W'))
  generalize t.ins.any askB = r at HF
  clear ht
  go_enter Try.func40, Try.ntmps40
  go_wp2_with fail
  refine (HF.out _ (B0.out _)).mono ?_
  rintro e w1 ⟨rfl, hb1⟩
  have B1 := Lib.hid (below_next (B0.out _) (by simp) hb1)
  clear hb1
  go_wp2_with fail
  go_ret
  exact ⟨rfl, B1.out⟩

end Go.Proofs.Ytdldhfhhhjenkaa
