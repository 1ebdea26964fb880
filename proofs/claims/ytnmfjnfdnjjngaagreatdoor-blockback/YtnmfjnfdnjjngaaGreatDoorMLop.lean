/-
  What layer 8 asks of a transaction: the program's small calls and the document's.
  Which branch a witness opens; whether a lock opens: the program's and the document's.
  Does a lock open: the program's Open.
  May an input be in a block of a height: the program's Ripe, and the document's.
  What the fee of a transaction over coins is, as a plain function (P11.1).
-/
import Derived.Test.YtnmfjnfdnjjngaaGreatDoorMBrd
import Derived.Laws.BitsAllLaws
import Derived.Test.YtnmfjnfdnjjngaaGreatDoorMFind
import Derived.Test.YtnmfjnfdnjjngaaGreatDoorMPure
import Derived.Test.YtnmfjnfdnjjngaaGreatDoorMTell
import Derived.Test.YtnmfjnfdnjjngaaGreatDoorMEqs

namespace Go.Proofs.YtnmfjnfdnjjngaaGreatDoor
open Go.RowKit
set_option maxRecDepth 100000

/-- Has t an In there? Is a number a height? -/
def hiB (t : TxD) (i : Int) : Bool := decide (0 ≤ i ∧ i < (t.ins.length : Int))
def htB (n : Int) : Bool := decide (0 ≤ n ∧ n ≤ 1000000)
/-- How many blocks an input waits. -/
def wsN (v q : Int) : Int := if 2147483648 ≤ q ∨ v < 2 then 0 else q % 65536
/-- Does an input ask for the LockTime? -/
def askB (x : InD) : Bool := x.sq != 4294967295
theorem wsN_bd (v : Int) {q : Int} (_hq : 0 ≤ q) : 0 ≤ wsN v q ∧ wsN v q ≤ 65535 := by
  unfold wsN
  split <;> omega
theorem and_low {q : Int} (h0 : 0 ≤ q) (h1 : q ≤ 4294967295) : bits BinOp.and IntKind.u32 q 65535 = q % 65536 := by
  rw [u32_and q 65535 h0 (by omega) (by decide) (by decide)]
  have e : q.toNat &&& (65535 : Int).toNat = q.toNat % 65536 := Nat.and_two_pow_sub_one_eq_mod q.toNat 16
  rw [e]
  omega

set_option maxHeartbeats 1000000 in
theorem hasin_any (t : TxD) (i : Int) (vi vo : Value) (w : World) (lo hi : Nat) (ht : TxAt w lo hi vi vo t) (_hl : t.ins.length ≤ 512) :
    Calls Tryz.prog 145 #[.agg #[.int .u32 t.ver, vi, vo, .int .u32 t.lock], .int .i64 i] w fun e w' => e = .returned (.bool (hiB t i)) ∧ Below w.heap.size w w' := by
  obtain ⟨A, c, rfl⟩ := ht.1.form
  unfold hiB
  obtain ⟨n, hn⟩ : ∃ n, t.ins.length = n := ⟨_, rfl⟩
  rw [hn]
  clear ht hn
  by_cases h0 : 0 ≤ i
  · by_cases h1 : i < (n : Int)
    · go_enter Tryz.func145, Tryz.ntmps145
      go_wp2_with fail
      go_ret
      exact ⟨ret_bool (decide_eq_true ⟨h0, h1⟩).symm, (Below.refl _ _).alloc (Nat.le_refl _) _⟩
    · go_enter Tryz.func145, Tryz.ntmps145
      go_wp2_with fail
      go_ret
      exact ⟨ret_bool (decide_eq_false (by omega)).symm, (Below.refl _ _).alloc (Nat.le_refl _) _⟩
  · go_enter Tryz.func145, Tryz.ntmps145
    go_wp2_with fail
    go_ret
    exact ⟨ret_bool (by rw [decide_eq_false (show ¬ 0 ≤ i by omega)]; rfl), (Below.refl _ _).alloc (Nat.le_refl _) _⟩

set_option maxHeartbeats 1000000 in
theorem isht_any (n : Int) (w : World) : Calls Tryz.prog 148 #[.int .i64 n] w fun e w' => e = .returned (.bool (htB n)) ∧ w = w' := by
  by_cases h0 : 0 ≤ n
  · by_cases h1 : n ≤ 1000000
    · go_enter Tryz.func148, Tryz.ntmps148
      go_wp2_with fail
      go_ret
      exact ⟨ret_bool (decide_eq_true ⟨h0, h1⟩).symm, rfl⟩
    · go_enter Tryz.func148, Tryz.ntmps148
      go_wp2_with fail
      go_ret
      exact ⟨ret_bool (decide_eq_false (by omega)).symm, rfl⟩
  · go_enter Tryz.func148, Tryz.ntmps148
    go_wp2_with fail
    go_ret
    exact ⟨ret_bool (decide_eq_false (by omega)).symm, rfl⟩

set_option maxHeartbeats 1000000 in
theorem waits_any (t : TxD) (k : Nat) (x : InD) (vi vo : Value) (w : World) (lo hi : Nat) (ht : TxAt w lo hi vi vo t) (hhi : hi ≤ w.heap.size) (_hl : t.ins.length ≤ 512) (hx : t.ins[k]? = some x) (hq : 0 ≤ x.sq ∧ x.sq ≤ 4294967295) :
    Calls Tryz.prog 147 #[.agg #[.int .u32 t.ver, vi, vo, .int .u32 t.lock], .int .i64 (k : Int)] w fun e w' => e = .returned (.int .i64 (wsN t.ver x.sq)) ∧ Below w.heap.size w w' := by
  obtain ⟨A, c, rfl⟩ := ht.1.form
  obtain ⟨b, off, rfl, h1, h2, c0, c1, c2, u, c3, _⟩ := ht.1.at hx
  have hk := (List.getElem?_eq_some_iff.1 hx).1
  have hb : b < w.heap.size := by omega
  obtain ⟨n, hn⟩ : ∃ n, t.ins.length = n := ⟨_, rfl⟩
  rw [hn] at hk ⊢
  have k1 : (k : Int) < (n : Int) := by omega
  have BA := Lib.hid (fun o => (Below.refl w.heap.size w).alloc (Nat.le_refl _) o)
  clear ht hx hn
  by_cases hs : 2147483648 ≤ x.sq
  · have e : wsN t.ver x.sq = 0 := by unfold wsN; rw [if_pos (.inl hs)]
    rw [e]
    clear e
    go_enter Tryz.func147, Tryz.ntmps147
    go_wp2_with fail
    go_ret
    exact ⟨rfl, BA.out _⟩
  · by_cases hv : t.ver < 2
    · have e : wsN t.ver x.sq = 0 := by unfold wsN; rw [if_pos (.inr hv)]
      rw [e]
      clear e
      go_enter Tryz.func147, Tryz.ntmps147
      go_wp2_with fail
      go_ret
      exact ⟨rfl, BA.out _⟩
    · have e : wsN t.ver x.sq = x.sq % 65536 := by unfold wsN; rw [if_neg (by omega)]
      rw [e]
      have ea := and_low hq.1 hq.2
      have v1 : IntKind.i64.wrap (x.sq % 65536) = x.sq % 65536 := by rw [IntWalk.i64_in _ (by omega)]
      clear e
      go_enter Tryz.func147, Tryz.ntmps147
      go_wp2_with fail
      go_ret
      exact ⟨rfl, BA.out _⟩

set_option maxHeartbeats 1000000 in
theorem rwaits_any (t : TxD) (k : Nat) (x : InD) (vi vo : Value) (w : World) (lo hi : Nat) (ht : TxAt w lo hi vi vo t) (hhi : hi ≤ w.heap.size) (_hl : t.ins.length ≤ 512) (hx : t.ins[k]? = some x) (hq : 0 ≤ x.sq ∧ x.sq ≤ 4294967295) :
    Calls Tryz.prog 103 #[.agg #[.int .u32 t.ver, vi, vo, .int .u32 t.lock], .int .i64 (k : Int)] w fun e w' => e = .returned (.int .i64 (wsN t.ver x.sq)) ∧ Below w.heap.size w w' := by
  obtain ⟨A, c, rfl⟩ := ht.1.form
  obtain ⟨b, off, rfl, h1, h2, c0, c1, c2, u, c3, _⟩ := ht.1.at hx
  have hk := (List.getElem?_eq_some_iff.1 hx).1
  have hb : b < w.heap.size := by omega
  obtain ⟨n, hn⟩ : ∃ n, t.ins.length = n := ⟨_, rfl⟩
  rw [hn] at hk ⊢
  have k1 : (k : Int) < (n : Int) := by omega
  have BA := Lib.hid (fun o => (Below.refl w.heap.size w).alloc (Nat.le_refl _) o)
  clear ht hx hn
  by_cases hs : 2147483648 ≤ x.sq
  · have e : wsN t.ver x.sq = 0 := by unfold wsN; rw [if_pos (.inl hs)]
    rw [e]
    clear e
    go_enter Tryz.func103, Tryz.ntmps103
    go_wp2_with fail
    go_ret
    exact ⟨rfl, BA.out _⟩
  · by_cases hv : t.ver < 2
    · have e : wsN t.ver x.sq = 0 := by unfold wsN; rw [if_pos (.inr hv)]
      rw [e]
      clear e
      go_enter Tryz.func103, Tryz.ntmps103
      go_wp2_with fail
      go_ret
      exact ⟨rfl, BA.out _⟩
    · have e : wsN t.ver x.sq = x.sq % 65536 := by unfold wsN; rw [if_neg (by omega)]
      rw [e]
      have ea : x.sq.tmod 65536 = x.sq % 65536 := Int.tmod_eq_emod_of_nonneg hq.1
      have v0 : IntKind.u32.wrap (x.sq % 65536) = x.sq % 65536 := by rw [IntWalk.u32_in _ (by omega)]
      have v1 : IntKind.i64.wrap (x.sq % 65536) = x.sq % 65536 := by rw [IntWalk.i64_in _ (by omega)]
      clear e
      go_enter Tryz.func103, Tryz.ntmps103
      go_wp2_with fail
      go_ret
      exact ⟨rfl, BA.out _⟩

set_option maxHeartbeats 400000 in
theorem ask_any (a : ByteArray) (i q : Int) (A : Option Addr) (n c : Nat) (w : World) :
    Calls Tryz.prog 162 #[.agg #[.string a, .int .u32 i, .int .u32 q, .slice A n c]] w fun e w' => e = .returned (.bool (q != 4294967295)) ∧ Below w.heap.size w w' := by
  go_enter Tryz.func162, Tryz.ntmps162
  go_wp2
  go_ret
  exact ⟨rfl, (Below.refl _ _).alloc (Nat.le_refl _) _⟩
theorem eg46 : ∀ args w, (callFunc 162 args).run Tryz.prog w = .ok (.enter 162 args) w := enters_of Tryz.func162 (by kernel_rfl) rfl
set_option maxHeartbeats 1000000 in
theorem final_any (t : TxD) (vi vo : Value) (w : World) (lo hi : Nat) (ht : TxAt w lo hi vi vo t) (hhi : hi ≤ w.heap.size) (hl : t.ins.length ≤ 512) :
    Calls Tryz.prog 149 #[.agg #[.int .u32 t.ver, vi, vo, .int .u32 t.lock]] w fun e w' => e = .returned (.bool !(t.ins.any askB)) ∧ Below w.heap.size w w' := by
  obtain ⟨A, c, rfl⟩ := ht.1.form
  have B0 := Lib.hid (fun o => (Below.refl w.heap.size w).alloc (Nat.le_refl _) o)
  have HF := Lib.hid (fun W (hW : Below w.heap.size w W) => has_in 162 #[] eg46 askB A _ c t.ins W lo hi (ht.1.keep (Kept.of_below hW hhi)) (Nat.le_trans hhi hW.size) hl (fun W' x A' n' c' _ _ _ => ask_any x.id x.ix x.sq A' n' c' W'))
  generalize t.ins.any askB = r at HF
  clear ht
  go_enter Tryz.func149, Tryz.ntmps149
  go_wp2_with fail
  refine (HF.out _ (B0.out _)).mono ?_
  rintro e w1 ⟨rfl, hb1⟩
  have B1 := Lib.hid (below_next (B0.out _) (by simp) hb1)
  clear hb1
  go_wp2_with fail
  go_ret
  exact ⟨rfl, B1.out⟩

end Go.Proofs.YtnmfjnfdnjjngaaGreatDoor

namespace Go.Proofs.YtnmfjnfdnjjngaaGreatDoor
open Go.RowKit
set_option maxRecDepth 100000

/-- The branch of a script's lock that a witness opens. -/
def fitB (b : BrD) (t : Int) : Bool := (b.tag == 0) || (b.tag == t)
def sbO (s : ByteArray) (ws : List ByteArray) : Option BrD := if snB ws = true then ((gtR s)[(snN ws).toNat]?).bind fun b => if fitB b (snT ws) = true then some b else none else none
theorem gt_nil {s : ByteArray} (h : ¬ gtE s = 0) : gtR s = [] := by unfold gtR; rw [if_neg h]
theorem sb_err {s : ByteArray} {ws : List ByteArray} (h : ¬ gtE s = 0) : sbO s ws = none := by
  unfold sbO
  rw [gt_nil h]
  split <;> rfl
theorem sb_not {s : ByteArray} {ws : List ByteArray} (h : snB ws = false) : sbO s ws = none := by unfold sbO; rw [if_neg (by rw [h]; decide)]
theorem snE_not {ws : List ByteArray} (h : ¬ snE ws = 0) : snB ws = false := by
  cases e : snB ws
  · rfl
  · exact absurd (by unfold snE; rw [if_pos e]) h
theorem snE_yes {ws : List ByteArray} (h : snE ws = 0) : snB ws = true := by
  cases e : snB ws
  · rw [(sn_not e).1] at h; cases h
  · rfl
theorem snN_bd (ws : List ByteArray) : 0 ≤ snN ws ∧ snN ws ≤ 2 := by
  unfold snN
  split
  · rename_i s
    split
    · rename_i h
      unfold snB at h
      simp only [decide_eq_true_eq] at h
      have := getN_bd1 s 0
      omega
    · omega
  · omega
theorem snT_bd (ws : List ByteArray) : 0 ≤ snT ws ∧ snT ws ≤ 65535 := by
  unfold snT
  split
  · rename_i s
    split
    · have := getN_bd2 s 1
      omega
    · omega
  · omega
/-- What signedBranch answers. -/
def sbX (o : Option BrD) : BrD := o.getD ⟨0, 0, 0⟩

theorem three_box (w : World) (a b c : Value) (t : TypeId) : (w.alloc (.cells #[a, b, c] t)).cell? ⟨w.heap.size, 0, none⟩ = some a ∧ (w.alloc (.cells #[a, b, c] t)).cell? ⟨w.heap.size, 1, none⟩ = some b ∧ (w.alloc (.cells #[a, b, c] t)).cell? ⟨w.heap.size, 2, none⟩ = some c := ⟨by simp, by simp, by simp⟩

theorem done3 {w1 : World} {g : Nat} {x0 x1 x2 : Value} (a b c : Value) (o : Obj) (hlt : g < w1.heap.size) (e0 : w1.cell? ⟨g, 0, none⟩ = some x0) (e1 : w1.cell? ⟨g, 1, none⟩ = some x1) (e2 : w1.cell? ⟨g, 2, none⟩ = some x2) :
    ((((w1.setCell ⟨g, 0, none⟩ a).setCell ⟨g, 1, none⟩ b).setCell ⟨g, 2, none⟩ c).alloc o).cell? ⟨g, 0, none⟩ = some a ∧ ((((w1.setCell ⟨g, 0, none⟩ a).setCell ⟨g, 1, none⟩ b).setCell ⟨g, 2, none⟩ c).alloc o).cell? ⟨g, 1, none⟩ = some b ∧ ((((w1.setCell ⟨g, 0, none⟩ a).setCell ⟨g, 1, none⟩ b).setCell ⟨g, 2, none⟩ c).alloc o).cell? ⟨g, 2, none⟩ = some c := by
  have ne : ∀ {W : World} {o p : Nat} {v : Value}, o ≠ p → (W.setCell ⟨g, p, none⟩ v).cell? ⟨g, o, none⟩ = W.cell? ⟨g, o, none⟩ := fun ho => World.cell?_setCell_other _ _ _ _ (by intro e; injection e with _ e; exact ho e.symm)
  have al : ∀ p, ((((w1.setCell ⟨g, 0, none⟩ a).setCell ⟨g, 1, none⟩ b).setCell ⟨g, 2, none⟩ c).alloc o).cell? ⟨g, p, none⟩ = (((w1.setCell ⟨g, 0, none⟩ a).setCell ⟨g, 1, none⟩ b).setCell ⟨g, 2, none⟩ c).cell? ⟨g, p, none⟩ := fun p => World.cell?_alloc_lt _ _ ⟨g, p, none⟩ (by simpa using hlt)
  refine ⟨?_, ?_, ?_⟩
  · rw [al, ne (by omega), ne (by omega)]; exact World.cell?_setCell_same _ _ _ e0
  · rw [al, ne (by omega)]; exact World.cell?_setCell_same _ _ _ ((ne (by omega)).trans e1)
  · rw [al]; exact World.cell?_setCell_same _ _ _ ((ne (by omega)).trans ((ne (by omega)).trans e2))

set_option maxHeartbeats 2000000 in
set_option maxRecDepth 100000 in
theorem sb_any (s : ByteArray) (ws : List ByteArray) (v : Value) (w : World) (lo hi : Nat) (hw : Strs w lo hi v ws) (hhi : hi ≤ w.heap.size) (hs : s.size ≤ maxLen) (hss : ∀ x ∈ ws, x.size ≤ maxLen) (hl : ws.length ≤ maxLen) :
    Calls Tryz.prog 146 #[.string s, v] w fun e w' => e = .returned (.tuple #[.agg #[.int .u16 (sbX (sbO s ws)).tag, .int .u16 (sbX (sbO s ws)).del, .int .u32 (sbX (sbO s ws)).hgt], .bool (sbO s ws).isSome]) ∧ Below w.heap.size w w' := by
  obtain ⟨A, c, rfl⟩ : ∃ A c, v = .slice A ws.length c := by obtain ⟨A, c, rfl, _⟩ := hw; exact ⟨A, c, rfl⟩
  obtain ⟨w0, hw0⟩ : ∃ w0, w0 = w.alloc (.cells #[.int .u16 0, .int .u16 0, .int .u32 0] 200) := ⟨_, rfl⟩
  have z0 : w0.heap.size = w.heap.size + 1 := by rw [hw0]; simp
  have hb0 : Below w.heap.size w w0 := by rw [hw0]; exact (Below.refl _ _).alloc (Nat.le_refl _) _
  have hq0 : w0.heap[w.heap.size]? = some (.cells #[.int .u16 0, .int .u16 0, .int .u32 0] 200 (0, 0)) := by rw [hw0]; exact heap_alloc_new w _
  have CG := Lib.hid (lget_any s w0 hs)
  have CS := Lib.hid (fun W (hW : Below w0.heap.size w0 W) => signed_any ws _ W lo hi ((hw.keep (Kept.of_below hb0 hhi)).keep (Kept.of_below hW (by omega))) hss hl)
  have B0 := Lib.hid hb0
  have HW0 := Lib.hid hw0
  have HQ0 := Lib.hid hq0
  have RES := Lib.hid (show (sbO s ws = none → sbX (sbO s ws) = ⟨0, 0, 0⟩ ∧ (sbO s ws).isSome = false) from fun h => by rw [h]; exact ⟨rfl, rfl⟩)
  have nb := snN_bd ws
  have tb := snT_bd ws
  obtain ⟨m, hm⟩ : ∃ m : Nat, snN ws = (m : Int) := ⟨(snN ws).toNat, by omega⟩
  clear hw hs hss hl hb0 hw0 hq0
  go_enter Tryz.func146, Tryz.ntmps146
  go_upto_region 1 with (fail)
  rw [show World.alloc w _ = w0 from HW0.out.symm]
  go_wp2_with fail
  refine CG.out.mono ?_
  rintro e w1 ⟨vg, rfl, hbr, hb1⟩
  have hlen := gtR_len s
  obtain ⟨Ag, cg, rfl⟩ := hbr.form
  have HBR := Lib.hid hbr
  have K1 := Lib.hid (below_next B0.out (by omega) hb1)
  have CS1 := Lib.hid (CS.out w1 hb1)
  have q1 := (hb1.block w.heap.size (by omega)).trans HQ0.out
  have hlt1 : w.heap.size < w1.heap.size := by have := hb1.size; omega
  clear hbr hb1 CS CG
  go_wp2_with fail
  refine CS1.out.mono ?_
  rintro e wz ⟨rfl, rfl⟩
  clear CS1
  have e0 : w1.cell? ⟨w.heap.size, 0, none⟩ = some (.int .u16 0) := by rw [Lib.cell_of_heap q1]; rfl
  have e1 : w1.cell? ⟨w.heap.size, 1, none⟩ = some (.int .u16 0) := by rw [Lib.cell_of_heap q1]; rfl
  have e2 : w1.cell? ⟨w.heap.size, 2, none⟩ = some (.int .u32 0) := by rw [Lib.cell_of_heap q1]; rfl
  have f0 : w1.frozen? ⟨w.heap.size, 0, none⟩ = false := Lib.frozen_of_heap q1 0
  have f1 : w1.frozen? ⟨w.heap.size, 1, none⟩ = false := Lib.frozen_of_heap q1 1
  have f2 : w1.frozen? ⟨w.heap.size, 2, none⟩ = false := Lib.frozen_of_heap q1 2
  have PB := Lib.hid (fun (W : World) (hW : Below w.heap.size w W) a b c => ((hW.setCell (p := ⟨w.heap.size, 0, none⟩) (Nat.le_refl _) a).setCell (p := ⟨w.heap.size, 1, none⟩) (Nat.le_refl _) b).setCell (p := ⟨w.heap.size, 2, none⟩) (Nat.le_refl _) c)
  have PA := Lib.hid (fun a b c o => (PB.out w1 K1.out a b c).alloc (by simp; omega) o)
  have D3 := Lib.hid (fun a b c o => done3 a b c o hlt1 e0 e1 e2)
  obtain ⟨l, hle⟩ : ∃ l, (gtR s).length = l := ⟨_, rfl⟩
  rw [hle] at hlen ⊢
  rw [hm]
  by_cases hg : gtE s = 0
  · have g1 : (gtE s != 0) = false := by simp [hg]
    by_cases hn : snE ws = 0
    · have g2 : (snE ws != 0) = false := by simp [hn]
      by_cases hm3 : m < l
      · have g3 : ¬ (l : Int) ≤ (m : Int) := by omega
        have g4 : (m : Int) < (l : Int) := by omega
        obtain ⟨x, hx⟩ : ∃ x, (gtR s)[m]? = some x := ⟨_, List.getElem?_eq_getElem (by omega)⟩
        rw [hle] at HBR
        obtain ⟨b, off, rfl, _, hb2, c0, c1, c2⟩ := HBR.out.at hx
        have SB := Lib.hid (show sbO s ws = if fitB x (snT ws) = true then some x else none from by unfold sbO; rw [if_pos (snE_yes hn), hm, Int.toNat_natCast, hx]; rfl)
        clear hx hg hn q1
        by_cases ht : x.tag = 0
        · have t1 : (x.tag == 0) = true := by simp [ht]
          have FIN := Lib.hid (show sbO s ws = some x from by rw [SB.out, if_pos (by unfold fitB; rw [t1]; rfl)])
          clear ht
          go_wp2_with fail
          obtain ⟨d0, d1, d2⟩ := D3.out (.int .u16 x.tag) (.int .u16 x.del) (.int .u32 x.hgt) (.cells #[.int .u16 x.tag, .int .u16 x.del, .int .u32 x.hgt] 200)
          refine bodyPost_ret (v := .tuple #[.agg #[.int .u16 x.tag, .int .u16 x.del, .int .u32 x.hgt], .bool true]) (by simp [results, Tryz.results146, go_sem, d0, d1, d2]) rfl ?_
          exact ⟨by rw [FIN.out]; rfl, PA.out _ _ _ _⟩
        · have t1 : (x.tag == 0) = false := by simp [ht]
          by_cases ht2 : x.tag = snT ws
          · have t2 : (x.tag == snT ws) = true := by simp [ht2]
            have FIN := Lib.hid (show sbO s ws = some x from by rw [SB.out, if_pos (by unfold fitB; rw [t1, t2]; rfl)])
            clear ht ht2
            go_wp2_with fail
            obtain ⟨d0, d1, d2⟩ := D3.out (.int .u16 x.tag) (.int .u16 x.del) (.int .u32 x.hgt) (.cells #[.int .u16 x.tag, .int .u16 x.del, .int .u32 x.hgt] 200)
            refine bodyPost_ret (v := .tuple #[.agg #[.int .u16 x.tag, .int .u16 x.del, .int .u32 x.hgt], .bool true]) (by simp [results, Tryz.results146, go_sem, d0, d1, d2]) rfl ?_
            exact ⟨by rw [FIN.out]; rfl, PA.out _ _ _ _⟩
          · have t2 : (x.tag == snT ws) = false := by simp [ht2]
            have FIN := Lib.hid (RES.out (by rw [SB.out, if_neg (by unfold fitB; rw [t1, t2]; decide)]))
            clear ht ht2
            go_wp2_with fail
            obtain ⟨d0, d1, d2⟩ := D3.out (.int .u16 0) (.int .u16 0) (.int .u32 0) (.cells #[.int .u16 x.tag, .int .u16 x.del, .int .u32 x.hgt] 200)
            refine bodyPost_ret (v := .tuple #[.agg #[.int .u16 0, .int .u16 0, .int .u32 0], .bool false]) (by simp [results, Tryz.results146, go_sem, d0, d1, d2]) rfl ?_
            exact ⟨by rw [FIN.out.1, FIN.out.2], PA.out _ _ _ _⟩
      · have g3 : (l : Int) ≤ (m : Int) := by omega
        have FIN := Lib.hid (RES.out (by unfold sbO; rw [if_pos (snE_yes hn), hm, Int.toNat_natCast, List.getElem?_eq_none (by omega)]; rfl))
        clear hg hn
        go_wp2_with fail
        refine bodyPost_ret (v := .tuple #[.agg #[.int .u16 0, .int .u16 0, .int .u32 0], .bool false]) (by simp [results, Tryz.results146, go_sem, e0, e1, e2]) rfl ?_
        exact ⟨by rw [FIN.out.1, FIN.out.2], PB.out _ K1.out _ _ _⟩
    · have g2 : (snE ws != 0) = true := by simp [hn]
      have FIN := Lib.hid (RES.out (sb_not (snE_not hn)))
      clear hg hn
      go_wp2_with fail
      refine bodyPost_ret (v := .tuple #[.agg #[.int .u16 0, .int .u16 0, .int .u32 0], .bool false]) (by simp [results, Tryz.results146, go_sem, e0, e1, e2]) rfl ?_
      exact ⟨by rw [FIN.out.1, FIN.out.2], PB.out _ K1.out _ _ _⟩
  · have g1 : (gtE s != 0) = true := by simp [hg]
    have FIN := Lib.hid (RES.out (sb_err hg))
    clear hg
    go_wp2_with fail
    refine bodyPost_ret (v := .tuple #[.agg #[.int .u16 0, .int .u16 0, .int .u32 0], .bool false]) (by simp [results, Tryz.results146, go_sem, e0, e1, e2]) rfl ?_
    exact ⟨by rw [FIN.out.1, FIN.out.2], PB.out _ K1.out _ _ _⟩

end Go.Proofs.YtnmfjnfdnjjngaaGreatDoor

namespace Go.Proofs.YtnmfjnfdnjjngaaGreatDoor
open Go.RowKit
set_option maxRecDepth 100000

/-- P8.3 of a branch, an In and a transaction. -/
def brE (b : BrD) (t : TxD) (x : InD) : Int := if wsN t.ver x.sq < b.del then 10 else if 0 < b.hgt ∧ (t.lock < b.hgt ∨ x.sq = 4294967295) then 10 else 0
def opX (s : ByteArray) (t : TxD) (x : InD) : Int := match sbO s x.wit with | none => 9 | some b => brE b t x
/-- P8.3. -/
def opE (s : ByteArray) (t : TxD) (i : Int) : Int := if i < 0 then 2 else match t.ins[i.toNat]? with | none => 2 | some x => opX s t x
theorem op_no {s : ByteArray} {t : TxD} {i : Int} (h : hiB t i = false) : opE s t i = 2 := by
  unfold opE
  by_cases h0 : i < 0
  · rw [if_pos h0]
  · rw [if_neg h0]
    have : t.ins[i.toNat]? = none := List.getElem?_eq_none (by simp [hiB] at h; omega)
    rw [this]
theorem op_at {s : ByteArray} {t : TxD} {k : Nat} {x : InD} (h : t.ins[k]? = some x) : opE s t (k : Int) = opX s t x := by
  unfold opE
  rw [if_neg (by omega), Int.toNat_natCast, h]
theorem hi_at {t : TxD} {i : Int} (h : hiB t i = true) : ∃ (k : Nat) (x : InD), i = (k : Int) ∧ t.ins[k]? = some x := by
  simp [hiB] at h
  exact ⟨i.toNat, t.ins[i.toNat]'(by omega), by omega, List.getElem?_eq_getElem _⟩
theorem wit_ok {t : TxD} (hok : t.Ok) {k : Nat} {x : InD} (h : t.ins[k]? = some x) : (∀ s ∈ x.wit, s.size ≤ maxLen) ∧ x.wit.length ≤ maxLen ∧ 0 ≤ x.sq ∧ x.sq ≤ 4294967295 := by
  obtain ⟨_, _, _, h4, h5, h6, h7⟩ := hok.2.2.1 x (List.mem_of_getElem? h)
  exact ⟨fun s hs => by have := h7 s hs; unfold maxLen; omega, by unfold maxLen; omega, h4, h5⟩
theorem sbX_ok (s : ByteArray) (ws : List ByteArray) {b : BrD} (h : sbO s ws = some b) : b.Ok := by
  unfold sbO at h
  split at h
  · cases e : (gtR s)[(snN ws).toNat]? with
    | none => rw [e] at h; cases h
    | some y =>
      rw [e] at h
      simp only [Option.bind_some] at h
      split at h
      · injection h with h
        subst h
        exact gtR_ok s _ (List.mem_of_getElem? e)
      · cases h
  · cases h

set_option maxHeartbeats 4000000 in
set_option maxRecDepth 100000 in
theorem open_any (s : ByteArray) (t : TxD) (i : Int) (vi vo : Value) (w : World) (ht : TxAt w 0 w.heap.size vi vo t) (hok : t.Ok) (hs : s.size ≤ maxLen) :
    Calls Tryz.prog 135 #[.string s, .agg #[.int .u32 t.ver, vi, vo, .int .u32 t.lock], .int .i64 i] w fun e w' => e = .returned (.int .i64 (opE s t i)) ∧ Below w.heap.size w w' := by
  obtain ⟨w0, hw0⟩ : ∃ w0, w0 = w.alloc (.cells #[.int .u32 t.ver, vi, vo, .int .u32 t.lock] 51) := ⟨_, rfl⟩
  have z0 : w0.heap.size = w.heap.size + 1 := by rw [hw0]; simp
  have hb0 : Below w.heap.size w w0 := by rw [hw0]; exact (Below.refl _ _).alloc (Nat.le_refl _) _
  have BX := Lib.hid (show Boxed w0 w.heap.size (.int .u32 t.ver) vi vo (.int .u32 t.lock) from by rw [hw0]; exact Boxed.new _ _ _ _ _ _)
  have HT := Lib.hid (ht.keep (Kept.of_below hb0 (Nat.le_refl _)))
  have B0 := Lib.hid hb0
  have HW0 := Lib.hid hw0
  obtain ⟨Ai, ci, rfl⟩ := ht.1.form
  have CH := Lib.hid (hasin_any t i _ vo w0 0 w.heap.size HT.out hok.1)
  have hlt : w.heap.size < w0.heap.size := by omega
  clear ht hb0 hw0
  obtain ⟨b0, b1, b2, b3⟩ := BX.out
  go_enter Tryz.func135, Tryz.ntmps135
  go_upto_region 1 with (fail)
  rw [show World.alloc w _ = w0 from HW0.out.symm]
  cases hh : hiB t i with
  | false =>
    have E := Lib.hid (op_no (s := s) hh)
    rw [hh] at CH
    clear hh
    go_wp2_with fail
    refine CH.out.mono ?_
    rintro e w1 ⟨rfl, hb1⟩
    go_wp2_with fail
    go_ret
    exact ⟨ret_int E.out.symm, below_next B0.out (by omega) hb1⟩
  | true =>
    obtain ⟨k, x, rfl, hx⟩ := hi_at hh
    rw [hh] at CH
    have OE := Lib.hid (op_at (s := s) hx)
    obtain ⟨wo1, wo2, wq1, wq2⟩ := wit_ok hok hx
    have hk := (List.getElem?_eq_some_iff.1 hx).1
    have hn := hok.1
    have G := Lib.hid (fun W (hW : Below w0.heap.size w0 W) => HT.out.keep (Kept.of_below hW (by omega)))
    have CW := Lib.hid (fun W (hW : Below w0.heap.size w0 W) => waits_any t k x (.slice Ai t.ins.length ci) vo W 0 w.heap.size (G.out W hW) (by have := hW.size; omega) hn hx ⟨wq1, wq2⟩)
    have CB := Lib.hid (fun W (hW : Below w0.heap.size w0 W) A c (h : Strs W 0 w.heap.size (.slice A x.wit.length c) x.wit) => sb_any s x.wit (.slice A x.wit.length c) W 0 w.heap.size h (by have := hW.size; omega) hs wo1 wo2)
    have IA := Lib.hid (fun W (hW : Below w0.heap.size w0 W) => (G.out W hW).1.at hx)
    have wb := wsN_bd t.ver wq1
    obtain ⟨n, hne⟩ : ∃ n, t.ins.length = n := ⟨_, rfl⟩
    obtain ⟨ws, hws⟩ : ∃ q, wsN t.ver x.sq = q := ⟨_, rfl⟩
    rw [hne] at CH CW hk hn ⊢
    rw [hws] at CW wb
    have k1 : (k : Int) < (n : Int) := by omega
    have k0 : ¬ (k : Int) < 0 := by omega
    have HWS := Lib.hid hws
    rw [hne] at BX b1
    clear hh hx hne hws hs wo1 wo2
    go_wp2_with fail
    refine CH.out.mono ?_
    rintro e w1 ⟨rfl, hb1⟩
    have L1 := Lib.hid hb1
    clear hb1 b0 b1 b2 b3 CH
    obtain ⟨b0, b1, b2, b3⟩ := BX.out.below hlt L1.out
    obtain ⟨b, off, rfl, _, hbw, c0, c1, c2, u, c3, hst⟩ := IA.out w1 L1.out
    obtain ⟨Aw, cw, rfl⟩ : ∃ A c, u = .slice A x.wit.length c := by obtain ⟨A, c, rfl, _⟩ := hst; exact ⟨A, c, rfl⟩
    have CB1 := Lib.hid (CB.out w1 L1.out Aw cw hst)
    have hb1w : b < w1.heap.size := by have := L1.out.size; omega
    clear hst
    cases ho : sbO s x.wit with
    | none =>
      have E := Lib.hid (show opE s t (k : Int) = 9 from by rw [OE.out]; unfold opX; rw [ho])
      rw [ho] at CB1
      clear ho
      go_wp2_with fail
      refine CB1.out.mono ?_
      rintro e w2 ⟨rfl, hb2⟩
      have K2 := Lib.hid (below_next (below_next B0.out (by omega) L1.out) (by have := L1.out.size; omega) hb2)
      clear hb2
      have BA := Lib.hid (fun o => K2.out.alloc K2.out.size o)
      have y1 : (sbX (none : Option BrD)).tag = 0 := rfl
      go_wp2_with fail
      go_ret
      exact ⟨ret_int E.out.symm, BA.out _⟩
    | some y =>
      obtain ⟨o1, o2, o3, o4, o5, o6⟩ := sbX_ok s x.wit ho
      have E := Lib.hid (show opE s t (k : Int) = brE y t x from by rw [OE.out]; unfold opX; rw [ho])
      rw [ho, show sbX (some y) = y from rfl, show (some y).isSome = true from rfl] at CB1
      clear ho
      obtain ⟨yt, yd, yh⟩ := y
      simp only at o1 o2 o3 o4 o5 o6 CB1
      go_wp2_with fail
      refine CB1.out.mono ?_
      rintro e w2 ⟨rfl, hb2⟩
      obtain ⟨w3, hw3⟩ : ∃ w3, w3 = w2.alloc (.cells #[.int .u16 yt, .int .u16 yd, .int .u32 yh] 200) := ⟨_, rfl⟩
      have hb3 : Below w2.heap.size w2 w3 := by rw [hw3]; exact (Below.refl _ _).alloc (Nat.le_refl _) _
      have z3 : w3.heap.size = w2.heap.size + 1 := by rw [hw3]; simp
      have L3 := Lib.hid (below_next (below_next L1.out L1.out.size hb2) (by have := L1.out.size; have := hb2.size; omega) hb3)
      have z2 := hb2.size
      have z1 := L1.out.size
      have y0 : w3.cell? ⟨w2.heap.size, 0, none⟩ = some (.int .u16 yt) := by rw [hw3]; simp
      have y1 : w3.cell? ⟨w2.heap.size, 1, none⟩ = some (.int .u16 yd) := by rw [hw3]; simp
      have y2 : w3.cell? ⟨w2.heap.size, 2, none⟩ = some (.int .u32 yh) := by rw [hw3]; simp
      have HW3 := Lib.hid hw3
      have BX3 := Lib.hid (BX.out.below hlt L3.out)
      have hlt3 : w.heap.size < w3.heap.size := by omega
      clear hb2 hb3 hw3 b0 b1 b2 b3 c0 c1 c2 c3 CB1 CB
      have r0 : ∀ a : After w3, a.val.cell? ⟨w.heap.size, 0, none⟩ = some (.int .u32 t.ver) := fun a => (a.ok.cell (p := ⟨w.heap.size, 0, none⟩) hlt3).trans BX3.out.1
      have r1 : ∀ a : After w3, a.val.cell? ⟨w.heap.size, 1, none⟩ = some (.slice (some ⟨b, off, none⟩) n ci) := fun a => (a.ok.cell (p := ⟨w.heap.size, 1, none⟩) hlt3).trans BX3.out.2.1
      have r2 : ∀ a : After w3, a.val.cell? ⟨w.heap.size, 2, none⟩ = some vo := fun a => (a.ok.cell (p := ⟨w.heap.size, 2, none⟩) hlt3).trans BX3.out.2.2.1
      have r3 : ∀ a : After w3, a.val.cell? ⟨w.heap.size, 3, none⟩ = some (.int .u32 t.lock) := fun a => (a.ok.cell (p := ⟨w.heap.size, 3, none⟩) hlt3).trans BX3.out.2.2.2
      have r4 : ∀ a : After w3, a.val.cell? ⟨w2.heap.size, 1, none⟩ = some (.int .u16 yd) := fun a => (a.ok.cell (p := ⟨w2.heap.size, 1, none⟩) (by show w2.heap.size < _; omega)).trans y1
      have hne : Nonempty (After w3) := ⟨⟨w3, Below.refl _ _⟩⟩
      have v1 : IntKind.i64.wrap yd = yd := by rw [IntWalk.i64_in _ (by omega)]
      have CA := Lib.hid (fun a : After w3 => CW.out a.val (below_next L3.out L3.out.size a.ok))
      go_upto_region 6 with (fail)
      rw [show World.alloc w2 _ = w3 from HW3.out.symm]
      refine wp_region_after (by kernel_rfl) (by kernel_rfl) ?_
      repeat (go_big_quiet_step ((go_at_call 147; with_reducible exact After.call _ (CA.out _))))
      refine wpQuiet_nil ?_
      rintro _ ⟨a, rfl⟩
      have hW := a.ok
      obtain ⟨W, hWe⟩ : ∃ W, W = a.val := ⟨_, rfl⟩
      rw [← hWe] at hW ⊢
      clear hWe r0 r1 r2 r3 r4 hne CA
      have L4 := Lib.hid (below_next L3.out L3.out.size hW)
      have KW := Lib.hid (below_next B0.out (by omega) L4.out)
      have zW := hW.size
      have y2' := (hW.cell (p := ⟨w2.heap.size, 2, none⟩) (by show w2.heap.size < _; omega)).trans y2
      obtain ⟨b0, b1, b2, b3⟩ := BX.out.below hlt L4.out
      obtain ⟨b', off', hA, _, hbw', c0, c1, c2, u', c3, _⟩ := IA.out W L4.out
      injection hA with hA
      injection hA with e1 e2
      subst e1 e2
      clear hW y0 y1 y2
      by_cases h1 : ws < yd
      · have FIN := Lib.hid (show opE s t (k : Int) = 10 from by rw [E.out]; unfold brE; rw [HWS.out, if_pos h1])
        go_wp2_with fail
        go_ret
        exact ⟨ret_int FIN.out.symm, KW.out⟩
      · by_cases h2 : 0 < yh
        · by_cases h3 : t.lock < yh
          · have FIN := Lib.hid (show opE s t (k : Int) = 10 from by rw [E.out]; unfold brE; rw [HWS.out, if_neg h1, if_pos ⟨h2, .inl h3⟩])
            go_wp2_with fail
            go_ret
            exact ⟨ret_int FIN.out.symm, KW.out⟩
          · by_cases h4 : x.sq = 4294967295
            · have FIN := Lib.hid (show opE s t (k : Int) = 10 from by rw [E.out]; unfold brE; rw [HWS.out, if_neg h1, if_pos ⟨h2, .inr h4⟩])
              have q4 : (x.sq == 4294967295) = true := by simp [h4]
              clear h4
              go_wp2_with fail
              go_ret
              exact ⟨ret_int FIN.out.symm, KW.out⟩
            · have FIN := Lib.hid (show opE s t (k : Int) = 0 from by rw [E.out]; unfold brE; rw [HWS.out, if_neg h1, if_neg (fun h => by rcases h.2 with h | h; exact h3 h; exact h4 h)])
              have q4 : (x.sq == 4294967295) = false := by simp [h4]
              clear h4
              go_wp2_with fail
              go_ret
              exact ⟨ret_int FIN.out.symm, KW.out⟩
        · have FIN := Lib.hid (show opE s t (k : Int) = 0 from by rw [E.out]; unfold brE; rw [HWS.out, if_neg h1, if_neg (fun h => h2 h.1)])
          go_wp2_with fail
          go_ret
          exact ⟨ret_int FIN.out.symm, KW.out⟩

end Go.Proofs.YtnmfjnfdnjjngaaGreatDoor

namespace Go.Proofs.YtnmfjnfdnjjngaaGreatDoor
open Go.RowKit
set_option maxRecDepth 100000

/-- P8.4. -/
def rpX (t : TxD) (x : InD) (c h : Int) : Bool := decide (c + wsN t.ver x.sq ≤ h) && (decide (t.lock < h) || !(t.ins.any askB))
def rpB (t : TxD) (i c h : Int) : Bool := if i < 0 then false else match t.ins[i.toNat]? with | none => false | some x => htB c && htB h && rpX t x c h
theorem rp_no {t : TxD} {i c h : Int} (hh : hiB t i = false) : rpB t i c h = false := by
  unfold rpB
  by_cases h0 : i < 0
  · rw [if_pos h0]
  · rw [if_neg h0]
    have : t.ins[i.toNat]? = none := List.getElem?_eq_none (by simp [hiB] at hh; omega)
    rw [this]
theorem rp_at {t : TxD} {k : Nat} {x : InD} {c h : Int} (hx : t.ins[k]? = some x) : rpB t (k : Int) c h = (htB c && htB h && rpX t x c h) := by
  unfold rpB
  rw [if_neg (by omega), Int.toNat_natCast, hx]

set_option maxHeartbeats 4000000 in
set_option maxRecDepth 100000 in
theorem ripe_any (t : TxD) (i cn h : Int) (vi vo : Value) (w : World) (ht : TxAt w 0 w.heap.size vi vo t) (hok : t.Ok) :
    Calls Tryz.prog 136 #[.agg #[.int .u32 t.ver, vi, vo, .int .u32 t.lock], .int .i64 i, .int .i64 cn, .int .i64 h] w fun e w' => e = .returned (.bool (rpB t i cn h)) ∧ Below w.heap.size w w' := by
  obtain ⟨w0, hw0⟩ : ∃ w0, w0 = w.alloc (.cells #[.int .u32 t.ver, vi, vo, .int .u32 t.lock] 51) := ⟨_, rfl⟩
  have z0 : w0.heap.size = w.heap.size + 1 := by rw [hw0]; simp
  have hb0 : Below w.heap.size w w0 := by rw [hw0]; exact (Below.refl _ _).alloc (Nat.le_refl _) _
  have BX := Lib.hid (show Boxed w0 w.heap.size (.int .u32 t.ver) vi vo (.int .u32 t.lock) from by rw [hw0]; exact Boxed.new _ _ _ _ _ _)
  have HT := Lib.hid (ht.keep (Kept.of_below hb0 (Nat.le_refl _)))
  have B0 := Lib.hid hb0
  have HW0 := Lib.hid hw0
  obtain ⟨Ai, ci, rfl⟩ := ht.1.form
  have CH := Lib.hid (hasin_any t i _ vo w0 0 w.heap.size HT.out hok.1)
  have hlt : w.heap.size < w0.heap.size := by omega
  clear ht hb0 hw0
  obtain ⟨b0, b1, b2, b3⟩ := BX.out
  go_enter Tryz.func136, Tryz.ntmps136
  go_upto_region 1 with (fail)
  rw [show World.alloc w _ = w0 from HW0.out.symm]
  cases hh : hiB t i with
  | false =>
    have E := Lib.hid (rp_no (c := cn) (h := h) hh)
    rw [hh] at CH
    clear hh
    go_wp2_with fail
    refine CH.out.mono ?_
    rintro e w1 ⟨rfl, hb1⟩
    go_wp2_with fail
    go_ret
    exact ⟨ret_bool E.out.symm, below_next B0.out (by omega) hb1⟩
  | true =>
    obtain ⟨k, x, rfl, hx⟩ := hi_at hh
    rw [hh] at CH
    have OE := Lib.hid (rp_at (c := cn) (h := h) hx)
    obtain ⟨_, _, wq1, wq2⟩ := wit_ok hok hx
    have hn := hok.1
    have lk := hok.2.2.2.2.2.2
    have G := Lib.hid (fun W (hW : Below w0.heap.size w0 W) => HT.out.keep (Kept.of_below hW (by omega)))
    have CW := Lib.hid (fun W (hW : Below w0.heap.size w0 W) => waits_any t k x (.slice Ai t.ins.length ci) vo W 0 w.heap.size (G.out W hW) (by have := hW.size; omega) hn hx ⟨wq1, wq2⟩)
    have CF := Lib.hid (fun W (hW : Below w0.heap.size w0 W) => final_any t (.slice Ai t.ins.length ci) vo W 0 w.heap.size (G.out W hW) (by have := hW.size; omega) hn)
    have wb := wsN_bd t.ver wq1
    unfold rpX at OE
    obtain ⟨ws, hws⟩ : ∃ q, wsN t.ver x.sq = q := ⟨_, rfl⟩
    obtain ⟨an, han⟩ : ∃ q, t.ins.any askB = q := ⟨_, rfl⟩
    rw [hws] at CW wb OE
    rw [han] at CF OE
    clear hh hx hws han
    go_wp2_with fail
    refine CH.out.mono ?_
    rintro e w1 ⟨rfl, hb1⟩
    have L1 := Lib.hid hb1
    clear hb1 b0 b1 b2 b3 CH
    by_cases hc : 0 ≤ cn ∧ cn ≤ 1000000
    · have C1 := Lib.hid (fun W => isht_any cn W)
      have e1 : htB cn = true := decide_eq_true hc
      rw [e1] at C1 OE
      by_cases hq : 0 ≤ h ∧ h ≤ 1000000
      · have C2 := Lib.hid (fun W => isht_any h W)
        have e2 : htB h = true := decide_eq_true hq
        rw [e2] at C2 OE
        clear e1 e2
        go_wp2_with fail
        refine (C1.out _).mono ?_
        rintro e wz ⟨rfl, rfl⟩
        go_wp2_with fail
        refine (C2.out _).mono ?_
        rintro e wz ⟨rfl, rfl⟩
        obtain ⟨b0, b1, b2, b3⟩ := BX.out.below hlt L1.out
        go_wp2_with fail
        refine (CW.out w1 L1.out).mono ?_
        rintro e w2 ⟨rfl, hb2⟩
        have L2 := Lib.hid (below_next L1.out L1.out.size hb2)
        clear hb2 b0 b1 b2 b3
        obtain ⟨b0, b1, b2, b3⟩ := BX.out.below hlt L2.out
        have v1 : IntKind.i64.wrap (cn + ws) = cn + ws := by rw [IntWalk.i64_in _ (by omega)]
        have v2 : IntKind.u32.wrap h = h := by rw [IntWalk.u32_in _ (by omega)]
        by_cases g1 : cn + ws ≤ h
        · by_cases g2 : t.lock < h
          · have FIN := Lib.hid (show rpB t (k : Int) cn h = true from by rw [OE.out, decide_eq_true g1, decide_eq_true g2]; rfl)
            go_wp2_with fail
            go_ret
            exact ⟨ret_bool FIN.out.symm, below_next B0.out (by omega) L2.out⟩
          · have FIN := Lib.hid (show rpB t (k : Int) cn h = !an from by rw [OE.out, decide_eq_true g1, decide_eq_false g2]; simp)
            have G2 := Lib.hid (show decide (t.lock < h) = false from decide_eq_false g2)
            go_wp2_with fail
            refine (CF.out w2 L2.out).mono ?_
            rintro e w3 ⟨rfl, hb3⟩
            have L3 := Lib.hid (below_next L2.out L2.out.size hb3)
            clear hb3
            go_wp2_with fail
            go_ret
            exact ⟨ret_bool (by rw [FIN.out, G2.out]; rfl), below_next B0.out (by omega) L3.out⟩
        · have FIN := Lib.hid (show rpB t (k : Int) cn h = false from by rw [OE.out, decide_eq_false g1]; rfl)
          go_wp2_with fail
          go_ret
          exact ⟨ret_bool FIN.out.symm, below_next B0.out (by omega) L2.out⟩
      · have C2 := Lib.hid (fun W => isht_any h W)
        have e2 : htB h = false := decide_eq_false hq
        rw [e2] at C2 OE
        clear e1 e2 hq
        go_wp2_with fail
        refine (C1.out _).mono ?_
        rintro e wz ⟨rfl, rfl⟩
        go_wp2_with fail
        refine (C2.out _).mono ?_
        rintro e wz ⟨rfl, rfl⟩
        go_wp2_with fail
        go_ret
        exact ⟨ret_bool OE.out.symm, below_next B0.out (by omega) L1.out⟩
    · have C1 := Lib.hid (fun W => isht_any cn W)
      have e1 : htB cn = false := decide_eq_false hc
      rw [e1] at C1 OE
      clear e1 hc
      go_wp2_with fail
      refine (C1.out _).mono ?_
      rintro e wz ⟨rfl, rfl⟩
      go_wp2_with fail
      go_ret
      exact ⟨ret_bool OE.out.symm, below_next B0.out (by omega) L1.out⟩

end Go.Proofs.YtnmfjnfdnjjngaaGreatDoor

namespace Go.Proofs.YtnmfjnfdnjjngaaGreatDoor
open Go.RowKit
set_option maxRecDepth 100000

/-- What is wrong with an In: an error's number; 0: nothing is. -/
def spE (l : List Co.EnD) (t : TxD) (h : Int) (x : InD) : Int :=
  if Co.hasB l x.id x.ix = false then 8
  else if opX (Co.atE l x.id x.ix).scr t x ≠ 0 then opX (Co.atE l x.id x.ix).scr t x
  else if (htB (Co.atE l x.id x.ix).ht && htB h && rpX t x (Co.atE l x.id x.ix).ht h) = false then 10 else 0
/-- The Value of the coin that an In spends. -/
def spV (l : List Co.EnD) (x : InD) : Int := (Co.atE l x.id x.ix).val
/-- What an In adds to what is spent: 0, if it is wrong. -/
def spA (l : List Co.EnD) (t : TxD) (h : Int) (x : InD) : Int := if spE l t h x = 0 then spV l x else 0
theorem spA_ok {l : List Co.EnD} {t : TxD} {h : Int} {x : InD} (he : spE l t h x = 0) : spA l t h x = spV l x := if_pos he
theorem spA_no {l : List Co.EnD} {t : TxD} {h : Int} {x : InD} (he : spE l t h x ≠ 0) : spA l t h x = 0 := if_neg he
def sumV (l : List Co.EnD) (xs : List InD) : Int := (xs.map (spV l)).sum
/-- The place of the first In that is wrong; -1: there is none. -/
def badI (l : List Co.EnD) (t : TxD) (h : Int) : Int := idxOf (fun x => spE l t h x != 0) t.ins
/-- A fee, an error's number, a place. -/
structure Ans where
  fee : Int
  code : Int
  at_ : Int
/-- P11.1, where there is a view. -/
def feA (l : List Co.EnD) (t : TxD) (h : Int) : Ans :=
  if checkD t ≠ 0 then ⟨0, checkD t, -1⟩
  else if isBase t.ins = true then ⟨0, 4, -1⟩
  else if 0 ≤ badI l t h then ⟨0, ((t.ins[(badI l t h).toNat]?).map (spE l t h)).getD 0, badI l t h⟩
  else if goodB (sumV l t.ins) = false then ⟨0, 3, -1⟩
  else if sumV l t.ins < (totalD t.outs).1 then ⟨0, 12, -1⟩
  else ⟨sumV l t.ins - (totalD t.outs).1, 0, -1⟩

theorem spE_none {l : List Co.EnD} {t : TxD} {h : Int} {x : InD} (h0 : Co.hasB l x.id x.ix = false) : spE l t h x = 8 := by simp [spE, h0]
theorem spE_open {l : List Co.EnD} {t : TxD} {h : Int} {x : InD} (h0 : Co.hasB l x.id x.ix = true) (h1 : opX (Co.atE l x.id x.ix).scr t x ≠ 0) : spE l t h x = opX (Co.atE l x.id x.ix).scr t x := by simp [spE, h0, h1]
theorem spE_ripe {l : List Co.EnD} {t : TxD} {h : Int} {x : InD} (h0 : Co.hasB l x.id x.ix = true) (h1 : opX (Co.atE l x.id x.ix).scr t x = 0) :
    spE l t h x = if (htB (Co.atE l x.id x.ix).ht && htB h && rpX t x (Co.atE l x.id x.ix).ht h) = false then 10 else 0 := by simp [spE, h0, h1]
theorem spE_ok {l : List Co.EnD} {t : TxD} {h : Int} {x : InD} (he : spE l t h x = 0) :
    Co.hasB l x.id x.ix = true ∧ opX (Co.atE l x.id x.ix).scr t x = 0 ∧ (htB (Co.atE l x.id x.ix).ht && htB h && rpX t x (Co.atE l x.id x.ix).ht h) = true := by
  cases h0 : Co.hasB l x.id x.ix with
  | false => rw [spE_none h0] at he; omega
  | true =>
    by_cases h1 : opX (Co.atE l x.id x.ix).scr t x = 0
    · rw [spE_ripe h0 h1] at he
      cases h2 : (htB (Co.atE l x.id x.ix).ht && htB h && rpX t x (Co.atE l x.id x.ix).ht h) with
      | false => rw [h2] at he; simp at he
      | true => exact ⟨rfl, h1, rfl⟩
    · rw [spE_open h0 h1] at he
      exact absurd he h1
/-- Nothing is wrong with the Ins ahead of k. -/
def OkTo (l : List Co.EnD) (t : TxD) (h : Int) (k : Nat) : Prop := ∀ (j : Nat) (y : InD), j < k → t.ins[j]? = some y → spE l t h y = 0
theorem OkTo.zero (l : List Co.EnD) (t : TxD) (h : Int) : OkTo l t h 0 := fun _ _ h => absurd h (Nat.not_lt_zero _)
theorem OkTo.step {l : List Co.EnD} {t : TxD} {h : Int} {k : Nat} {x : InD} (ho : OkTo l t h k) (hx : t.ins[k]? = some x) (he : spE l t h x = 0) : OkTo l t h (k + 1) := by
  intro j y hj hy
  by_cases hjk : j = k
  · subst hjk; rw [hx] at hy; injection hy with hy; rw [← hy]; exact he
  · exact ho j y (by omega) hy
theorem bad_at {l : List Co.EnD} {t : TxD} {h : Int} {k : Nat} {x : InD} (ho : OkTo l t h k) (hx : t.ins[k]? = some x) (he : spE l t h x ≠ 0) : badI l t h = k :=
  idxOf_hit hx (by simp [he]) fun j y hj hy => by simp [ho j y hj hy]
theorem bad_none {l : List Co.EnD} {t : TxD} {h : Int} (ho : OkTo l t h t.ins.length) : badI l t h = -1 :=
  idxOf_miss fun j y hy => by simp [ho j y (List.getElem?_eq_some_iff.1 hy).1 hy]
theorem ok_or {l : List Co.EnD} {t : TxD} {h : Int} : OkTo l t h t.ins.length ∨ ∃ (k : Nat) (x : InD), t.ins[k]? = some x ∧ OkTo l t h k ∧ spE l t h x ≠ 0 := by
  suffices H : ∀ n, n ≤ t.ins.length → OkTo l t h n ∨ ∃ (k : Nat) (x : InD), t.ins[k]? = some x ∧ OkTo l t h k ∧ spE l t h x ≠ 0 from H _ (Nat.le_refl _)
  intro n
  induction n with
  | zero => exact fun _ => .inl (OkTo.zero _ _ _)
  | succ n ih =>
    intro hn
    rcases ih (by omega) with h1 | h1
    · have hx : t.ins[n]? = some t.ins[n] := List.getElem?_eq_getElem _
      by_cases he : spE l t h t.ins[n] = 0
      · exact .inl (h1.step hx he)
      · exact .inr ⟨n, _, hx, h1, he⟩
    · exact .inr h1

theorem fe_check {l : List Co.EnD} {t : TxD} {h : Int} (h1 : checkD t ≠ 0) : feA l t h = ⟨0, checkD t, -1⟩ := by simp [feA, h1]
theorem fe_base {l : List Co.EnD} {t : TxD} {h : Int} (h1 : checkD t = 0) (h2 : isBase t.ins = true) : feA l t h = ⟨0, 4, -1⟩ := by simp [feA, h1, h2]
theorem fe_bad {l : List Co.EnD} {t : TxD} {h : Int} {k : Nat} {x : InD} (h1 : checkD t = 0) (h2 : isBase t.ins = false) (ho : OkTo l t h k) (hx : t.ins[k]? = some x) (he : spE l t h x ≠ 0) :
    feA l t h = ⟨0, spE l t h x, k⟩ := by
  have hb := bad_at ho hx he
  unfold feA
  rw [if_neg (by simp [h1]), if_neg (by simp [h2]), hb, if_pos (by omega), Int.toNat_natCast, hx]
  rfl
theorem fe_range {l : List Co.EnD} {t : TxD} {h : Int} (h1 : checkD t = 0) (h2 : isBase t.ins = false) (ho : OkTo l t h t.ins.length) (h3 : goodB (sumV l t.ins) = false) : feA l t h = ⟨0, 3, -1⟩ := by
  unfold feA
  rw [if_neg (by simp [h1]), if_neg (by simp [h2]), bad_none ho, if_neg (by omega), if_pos h3]
theorem fe_value {l : List Co.EnD} {t : TxD} {h : Int} (h1 : checkD t = 0) (h2 : isBase t.ins = false) (ho : OkTo l t h t.ins.length) (h3 : goodB (sumV l t.ins) = true) (h4 : sumV l t.ins < (totalD t.outs).1) : feA l t h = ⟨0, 12, -1⟩ := by
  unfold feA
  rw [if_neg (by simp [h1]), if_neg (by simp [h2]), bad_none ho, if_neg (by omega), if_neg (by simp [h3]), if_pos h4]
theorem fe_ok {l : List Co.EnD} {t : TxD} {h : Int} (h1 : checkD t = 0) (h2 : isBase t.ins = false) (ho : OkTo l t h t.ins.length) (h3 : goodB (sumV l t.ins) = true) (h4 : ¬ sumV l t.ins < (totalD t.outs).1) :
    feA l t h = ⟨sumV l t.ins - (totalD t.outs).1, 0, -1⟩ := by
  unfold feA
  rw [if_neg (by simp [h1]), if_neg (by simp [h2]), bad_none ho, if_neg (by omega), if_neg (by simp [h3]), if_neg h4]
/-- What has a fee. -/
theorem fe_has {l : List Co.EnD} {t : TxD} {h : Int} (he : (feA l t h).code = 0) :
    checkD t = 0 ∧ isBase t.ins = false ∧ OkTo l t h t.ins.length ∧ goodB (sumV l t.ins) = true ∧ ¬ sumV l t.ins < (totalD t.outs).1 ∧ feA l t h = ⟨sumV l t.ins - (totalD t.outs).1, 0, -1⟩ := by
  by_cases h1 : checkD t = 0
  · cases h2 : isBase t.ins with
    | true => rw [fe_base h1 h2] at he; simp at he
    | false =>
      rcases ok_or (l := l) (t := t) (h := h) with ho | ⟨k, x, hx, ho, hs⟩
      · cases h3 : goodB (sumV l t.ins) with
        | false => rw [fe_range h1 h2 ho h3] at he; simp at he
        | true =>
          by_cases h4 : sumV l t.ins < (totalD t.outs).1
          · rw [fe_value h1 h2 ho h3 h4] at he; simp at he
          · exact ⟨h1, rfl, ho, rfl, h4, fe_ok h1 h2 ho h3 h4⟩
      · rw [fe_bad h1 h2 ho hx hs] at he; exact absurd he hs
  · rw [fe_check h1] at he; exact absurd he h1

theorem sumV_step {l : List Co.EnD} {xs : List InD} {k : Nat} {x : InD} (hx : xs[k]? = some x) : sumV l (xs.take (k + 1)) = sumV l (xs.take k) + spV l x := by
  unfold sumV
  rw [take_snoc_map (spV l) hx, List.sum_append]
  simp
theorem spV_bd {l : List Co.EnD} (hg : Co.Good l) (x : InD) : 0 ≤ spV l x ∧ spV l x ≤ 2100000000000000 := by
  unfold spV
  cases hh : Co.hasB l x.id x.ix with
  | false => rw [Co.atE_none hh]; decide
  | true =>
    obtain ⟨hm, _⟩ := Co.atE_mem hh
    have h1 := hg.pos _ hm
    obtain ⟨i, hi, e⟩ := List.mem_iff_getElem.1 hm
    have h2 := Co.tot_take hg.pos (i + 1)
    have h3 := Co.tot_take hg.pos i
    have h4 : Co.tot (l.take (i + 1)) = Co.tot (l.take i) + l[i].val := by
      rw [List.take_succ_eq_append_getElem hi, Co.tot_append, Co.tot_cons, Co.tot_nil]; omega
    have := hg.most
    rw [← e] at h1 ⊢
    omega
theorem sumV_bd {l : List Co.EnD} (hg : Co.Good l) : ∀ (xs : List InD), 0 ≤ sumV l xs ∧ sumV l xs ≤ xs.length * 2100000000000000
  | [] => by simp [sumV]
  | x :: r => by
    have h1 := sumV_bd hg r
    have h2 := spV_bd hg x
    have : sumV l (x :: r) = spV l x + sumV l r := by simp [sumV]
    rw [this, show (((x :: r).length : Nat) : Int) = (r.length : Int) + 1 from by simp]
    omega

/-- What a transaction pays is 0, or an amount. -/
theorem sumFrom_fits : ∀ (zs : List Int) (s : Int), 0 ≤ s → s ≤ 2100000000000000 → 0 ≤ (sumFrom s zs).1 ∧ (sumFrom s zs).1 ≤ 2100000000000000
  | [], s, h1, h2 => ⟨h1, h2⟩
  | z :: r, s, h1, h2 => by
    unfold sumFrom
    split
    · rename_i h
      simp only [addOk, goodB, uptoB, Bool.and_eq_true, decide_eq_true_eq] at h
      exact sumFrom_fits r (s + z) (by omega) (by omega)
    · exact ⟨by simp, by simp⟩
theorem total_fits (xs : List OutD) : 0 ≤ (totalD xs).1 ∧ (totalD xs).1 ≤ 2100000000000000 := sumFrom_fits _ 0 (by decide) (by decide)

/-! ### Errors as they lie in memory -/

/-- An error of a number and a place, a fault's block being lo or behind it. -/
def ErrV (lo : Nat) (w : World) (v : Value) (c a : Int) : Prop :=
  (c = 0 ∧ a = -1 ∧ v = .nilIface) ∨ (c ≠ 0 ∧ a = -1 ∧ v = .iface 38 (.int .i64 c)) ∨
    (c ≠ 0 ∧ 0 ≤ a ∧ ∃ b : Nat, v = .iface 92 (.pointer (some ⟨b, 0, none⟩)) ∧ lo ≤ b ∧ b < w.heap.size ∧ w.cell? ⟨b, 0, none⟩ = some (.int .i64 a) ∧ w.cell? ⟨b, 1, none⟩ = some (.iface 38 (.int .i64 c)))
theorem ErrV.keep {lo : Nat} {w w' : World} {v : Value} {c a : Int} (h : ErrV lo w v c a) (hs : w.heap.size ≤ w'.heap.size) (hk : ∀ b, lo ≤ b → b < w.heap.size → w'.heap[b]? = w.heap[b]?) : ErrV lo w' v c a := by
  rcases h with h | h | ⟨h1, h2, b, rfl, h6, h3, h4, h5⟩
  · exact .inl h
  · exact .inr (.inl h)
  · exact .inr (.inr ⟨h1, h2, b, rfl, h6, by omega, (World.cell?_of_block (w := w) (hk b h6 h3)).trans h4, (World.cell?_of_block (w := w) (hk b h6 h3)).trans h5⟩)
theorem ErrV.below {lo : Nat} {w w' : World} {v : Value} {c a : Int} (h : ErrV lo w v c a) (hb : Below w.heap.size w w') : ErrV lo w' v c a := h.keep hb.size fun b _ h => hb.block b h
theorem ErrV.num {lo : Nat} {w : World} {c : Int} (h : c ≠ 0) : ErrV lo w (.iface 38 (.int .i64 c)) c (-1) := .inr (.inl ⟨h, rfl, rfl⟩)
theorem ErrV.zero {lo : Nat} {w : World} : ErrV lo w .nilIface 0 (-1) := .inl ⟨rfl, rfl, rfl⟩

end Go.Proofs.YtnmfjnfdnjjngaaGreatDoor
