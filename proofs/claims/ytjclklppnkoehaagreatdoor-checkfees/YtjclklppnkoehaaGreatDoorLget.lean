/-
  The program's Get of a lock: the branches of a script.
-/
import Derived.Test.YtjclklppnkoehaaGreatDoorLput
import Derived.Laws.MakeOwn
namespace Go.Proofs.YtjclklppnkoehaaGreatDoor
open Go.RowKit
set_option maxRecDepth 100000

theorem getN_bd (s : ByteArray) (a : Int) {k : Nat} (_hk : k ≤ 8) : 0 ≤ Oc.getN s a k ∧ Oc.getN s a k < 256 ^ k := by
  unfold Oc.getN
  split
  · rename_i h
    unfold Oc.okB at h
    simp only [Bool.and_eq_true, decide_eq_true_eq] at h
    have := Oc.part_num_bd s a.toNat k (by omega)
    simpa using this
  · exact ⟨Int.le_refl _, Int.pow_pos (by decide)⟩
theorem getN_bd1 (s : ByteArray) (a : Int) : 0 ≤ Oc.getN s a 1 ∧ Oc.getN s a 1 < 256 := getN_bd s a (k := 1) (by decide)
theorem getN_bd2 (s : ByteArray) (a : Int) : 0 ≤ Oc.getN s a 2 ∧ Oc.getN s a 2 < 65536 := getN_bd s a (k := 2) (by decide)
theorem getN_bd4 (s : ByteArray) (a : Int) : 0 ≤ Oc.getN s a 4 ∧ Oc.getN s a 4 < 4294967296 := getN_bd s a (k := 4) (by decide)

/-- The branch at a place of a script. -/
def brG (s : ByteArray) (a : Nat) : BrD := ⟨Oc.getN s (a : Int) 2, Oc.getN s ((a + 2 : Nat) : Int) 2, Oc.getN s ((a + 4 : Nat) : Int) 4⟩
theorem brG_ok (s : ByteArray) (a : Nat) : (brG s a).Ok := by
  have h1 := getN_bd2 s (a : Int)
  have h2 := getN_bd2 s ((a + 2 : Nat) : Int)
  have h3 := getN_bd4 s ((a + 4 : Nat) : Int)
  unfold brG BrD.Ok
  simp only
  omega
def brV (x : BrD) : Value := .agg #[.int .u16 x.tag, .int .u16 x.del, .int .u32 x.hgt]

set_option maxHeartbeats 1000000 in
theorem brat_any (s : ByteArray) (a : Nat) (w : World) (hs : s.size ≤ maxLen) (ha : a ≤ 1000) :
    Calls Tryz.prog 84 #[.string s, .int .i64 (a : Int)] w fun e w' => e = .returned (.agg #[.int .u16 (brG s a).tag, .int .u16 (brG s a).del, .int .u32 (brG s a).hgt]) ∧ Below w.heap.size w w' := by
  have h1 := getN_bd2 s (a : Int)
  have h2 := getN_bd2 s ((a + 2 : Nat) : Int)
  have h3 := getN_bd4 s ((a + 4 : Nat) : Int)
  have C1 := Lib.hid (fun W => Oc.get_any s (a : Int) 2 W hs)
  have C2 := Lib.hid (fun W => Oc.get_any s ((a + 2 : Nat) : Int) 2 W hs)
  have C4 := Lib.hid (fun W => Oc.get_any s ((a + 4 : Nat) : Int) 4 W hs)
  unfold Oc.GetEnd at C1 C2 C4
  unfold brG
  simp only
  generalize Oc.getN s (a : Int) 2 = x1 at C1 h1 ⊢
  generalize Oc.getN s ((a + 2 : Nat) : Int) 2 = x2 at C2 h2 ⊢
  generalize Oc.getN s ((a + 4 : Nat) : Int) 4 = x3 at C4 h3 ⊢
  generalize Oc.okB s (a : Int) 2 = y1 at C1
  generalize Oc.okB s ((a + 2 : Nat) : Int) 2 = y2 at C2
  generalize Oc.okB s ((a + 4 : Nat) : Int) 4 = y3 at C4
  have u1 : IntKind.u16.wrap x1 = x1 := by rw [IntWalk.u16_in _ (by omega)]
  have u2 : IntKind.u16.wrap x2 = x2 := by rw [IntWalk.u16_in _ (by omega)]
  have u3 : IntKind.u32.wrap x3 = x3 := by rw [IntWalk.u32_in _ (by omega)]
  obtain ⟨a2, ha2⟩ : ∃ a2 : Nat, a2 = a + 2 := ⟨_, rfl⟩
  obtain ⟨a4, ha4⟩ : ∃ a4 : Nat, a4 = a + 4 := ⟨_, rfl⟩
  have w2 : IntKind.i64.wrap ((a : Int) + 2) = (a2 : Int) := by rw [IntWalk.i64_in _ (by omega)]; omega
  have w4 : IntKind.i64.wrap ((a : Int) + 4) = (a4 : Int) := by rw [IntWalk.i64_in _ (by omega)]; omega
  rw [← ha2] at C2
  rw [← ha4] at C4
  have B0 := Lib.hid (fun o => (Below.refl w.heap.size w).alloc (Nat.le_refl _) o)
  clear hs ha h1 h2 h3 ha2 ha4
  go_enter Tryz.func84, Tryz.ntmps84
  go_wp2_with fail
  refine (C1.out _).mono ?_
  rintro e w1 ⟨rfl, rfl⟩
  go_wp2_with fail
  refine (C2.out _).mono ?_
  rintro e w1 ⟨rfl, rfl⟩
  go_wp2_with fail
  refine (C4.out _).mono ?_
  rintro e w1 ⟨rfl, rfl⟩
  go_wp2_with fail
  refine bodyPost_ret (v := .agg #[.int .u16 x1, .int .u16 x2, .int .u32 x3]) (by simp [results, Tryz.results84, go_sem]) rfl ?_
  exact ⟨rfl, B0.out _⟩

/-- How many branches a script tells of; these; the error; what is got. -/
def gtN (s : ByteArray) : Nat := (Oc.getN s 0 1).toNat
def gtL (s : ByteArray) : List BrD := (List.range (gtN s)).map fun i => brG s (1 + i * 8)
def shB (s : ByteArray) : Bool := decide (1 ≤ gtN s ∧ gtN s ≤ 3 ∧ s.size = 1 + gtN s * 8)
def gtE (s : ByteArray) : Int := if shB s = true then (if (gtL s).any highB = true then 4 else 0) else 4
def gtR (s : ByteArray) : List BrD := if gtE s = 0 then gtL s else []
theorem gt_no {s : ByteArray} (h : shB s = false) : gtE s = 4 ∧ gtR s = [] := by
  have e : gtE s = 4 := by unfold gtE; rw [if_neg (by rw [h]; decide)]
  exact ⟨e, by unfold gtR; rw [e, if_neg (by decide)]⟩
theorem gt_high {s : ByteArray} (h : shB s = true) (hh : (gtL s).any highB = true) : gtE s = 4 ∧ gtR s = [] := by
  have e : gtE s = 4 := by unfold gtE; rw [if_pos h, if_pos hh]
  exact ⟨e, by unfold gtR; rw [e, if_neg (by decide)]⟩
theorem gt_yes {s : ByteArray} (h : shB s = true) (hh : (gtL s).any highB = false) : gtE s = 0 ∧ gtR s = gtL s := by
  have e : gtE s = 0 := by unfold gtE; rw [if_pos h, if_neg (by rw [hh]; decide)]
  exact ⟨e, by unfold gtR; rw [if_pos e]⟩
theorem gtL_length (s : ByteArray) : (gtL s).length = gtN s := by simp [gtL]
theorem gtL_get {s : ByteArray} {k : Nat} {x : BrD} (h : (gtL s)[k]? = some x) : x = brG s (1 + k * 8) ∧ k < gtN s := by
  have hk := (List.getElem?_eq_some_iff.1 h).1
  rw [gtL_length] at hk
  unfold gtL at h
  rw [List.getElem?_map, List.getElem?_range hk] at h
  simp at h
  exact ⟨h.symm, hk⟩
theorem gtL_ok (s : ByteArray) : ∀ x ∈ gtL s, x.Ok := by
  intro x hx
  obtain ⟨y, _, rfl⟩ := List.mem_map.1 hx
  exact brG_ok s _
theorem gtR_ok (s : ByteArray) : ∀ x ∈ gtR s, x.Ok := by
  unfold gtR
  split
  · exact gtL_ok s
  · intro x hx; cases hx
theorem gtR_len (s : ByteArray) : (gtR s).length ≤ 3 := by
  unfold gtR
  split
  · rename_i h
    rw [gtL_length]
    unfold gtE at h
    split at h
    · rename_i h2
      unfold shB at h2
      simp only [decide_eq_true_eq] at h2
      omega
    · omega
  · exact Nat.zero_le _

theorem info34 : (Tryz.prog.info? 101).map (fun i => (i.zero, i.size, i.bytes)) = some (some (.agg #[.int .u16 0, .int .u16 0, .int .u32 0]), 3, 8) := by kernel_rfl
theorem info_parts' {t : TypeId} {z : Value} {size bytes : Nat} (h : (Tryz.prog.info? t).map (fun i => (i.zero, i.size, i.bytes)) = some (some z, size, bytes)) : ∃ i, Tryz.prog.info? t = some i ∧ i.zero = some z ∧ i.size = size ∧ i.bytes = bytes := by
  obtain ⟨i, hi, h⟩ := Option.map_eq_some_iff.1 h
  injection h with h1 h2
  injection h2 with h2 h3
  exact ⟨i, hi, h1, h2, h3⟩
/-- n empty branches, made. -/
def mkB (n : Nat) : Array Value := madeCells (Value.agg #[.int .u16 0, .int .u16 0, .int .u32 0]).cells (n * 3)
theorem make_brs (n : Nat) (hn : n ≤ 3) (W : World) : (Instr.makeSlice 50 (.int .i64 (n : Int)) (.int .i64 (n : Int))).run Tryz.prog W = .ok (.slice (some ⟨W.heap.size, 0, none⟩) n n) (W.alloc (.cells (mkB n) 101)) := by
  obtain ⟨i0, hi, hz0, hz1, hz2⟩ := info_parts' info34
  have hr := run_make (P := Tryz.prog) W 50 101 i0 _ Tryz.underlying50 hi hz0 .i64 .i64 (n : Int) (n : Int) (by omega) (Int.le_refl _) (by rw [hz2]; omega) (by omega)
  rw [hz1] at hr
  simpa [mkB] using hr

/-- A row of n branches, k of which are the script's. -/
structure BrRow (w : World) (s : ByteArray) (g n k : Nat) (wr : World) : Prop where
  blk : ∃ cur, wr.heap[g]? = some (.cells cur 101 (0, 0)) ∧ cur.size = n * 3
  at' : ∀ j, j < k → BrAt wr g (j * 3) (brG s (1 + j * 8))
  lo : w.heap.size ≤ g
  bel : Below w.heap.size w wr
theorem BrRow.lt {w : World} {s : ByteArray} {g n k : Nat} {wr : World} (h : BrRow w s g n k wr) : g < wr.heap.size := by
  obtain ⟨cur, hc, _⟩ := h.blk
  rcases Nat.lt_or_ge g wr.heap.size with h' | h'
  · exact h'
  · rw [Array.getElem?_eq_none h'] at hc; cases hc
theorem BrRow.free {w : World} {s : ByteArray} {g n k : Nat} {wr : World} (h : BrRow w s g n k wr) (o : Nat) : wr.frozen? ⟨g, o, none⟩ = false := by
  obtain ⟨cur, hc, _⟩ := h.blk
  exact Lib.frozen_of_heap hc o
theorem BrRow.cell {w : World} {s : ByteArray} {g n k : Nat} {wr : World} (h : BrRow w s g n k wr) {o : Nat} (ho : o < n * 3) : ∃ v, wr.cell? ⟨g, o, none⟩ = some v := by
  obtain ⟨cur, hc, hz⟩ := h.blk
  have e : wr.cell? ⟨g, o, none⟩ = cur[o]? := by simp [World.cell?, hc]
  exact ⟨cur[o]'(by omega), by rw [e]; exact Array.getElem?_eq_getElem (by omega)⟩
theorem BrRow.below {w : World} {s : ByteArray} {g n k : Nat} {wr wx : World} (h : BrRow w s g n k wr) (hb : Below wr.heap.size wr wx) : BrRow w s g n k wx := by
  obtain ⟨cur, hc, hz⟩ := h.blk
  have f : ∀ o, wx.cell? ⟨g, o, none⟩ = wr.cell? ⟨g, o, none⟩ := fun o => hb.cell (p := ⟨g, o, none⟩) h.lt
  exact ⟨⟨cur, (hb.block g h.lt).trans hc, hz⟩, fun j hj => ⟨(f _).trans (h.at' j hj).1, (f _).trans (h.at' j hj).2.1, (f _).trans (h.at' j hj).2.2⟩, h.lo, below_next h.bel h.bel.size hb⟩
theorem set_blk {wr : World} {g o n : Nat} {v : Value} (h : ∃ cur, wr.heap[g]? = some (.cells cur 101 (0, 0)) ∧ cur.size = n) : ∃ cur, (wr.setCell ⟨g, o, none⟩ v).heap[g]? = some (.cells cur 101 (0, 0)) ∧ cur.size = n := by
  obtain ⟨cur, hc, hz⟩ := h
  exact ⟨cur.setIfInBounds o v, by simp [World.setCell, Array.getElem?_modify, hc], by simpa using hz⟩
theorem BrRow.step {w : World} {s : ByteArray} {g n k : Nat} {wr : World} (h : BrRow w s g n k wr) (hk : k < n) :
    BrRow w s g n (k + 1) (((wr.setCell ⟨g, k * 3, none⟩ (.int .u16 (brG s (1 + k * 8)).tag)).setCell ⟨g, k * 3 + 1, none⟩ (.int .u16 (brG s (1 + k * 8)).del)).setCell ⟨g, k * 3 + 2, none⟩ (.int .u32 (brG s (1 + k * 8)).hgt)) := by
  obtain ⟨v0, e0⟩ := h.cell (o := k * 3) (by omega)
  obtain ⟨v1, e1⟩ := h.cell (o := k * 3 + 1) (by omega)
  obtain ⟨v2, e2⟩ := h.cell (o := k * 3 + 2) (by omega)
  generalize hx : brG s (1 + k * 8) = x
  have ne : ∀ {W : World} {o p : Nat} {v : Value}, o ≠ p → (W.setCell ⟨g, p, none⟩ v).cell? ⟨g, o, none⟩ = W.cell? ⟨g, o, none⟩ := fun ho => World.cell?_setCell_other _ _ _ _ (by intro e; injection e with _ e; exact ho e.symm)
  refine ⟨set_blk (set_blk (set_blk h.blk)), fun j hj => ?_, h.lo, ((h.bel.setCell (p := ⟨g, k * 3, none⟩) h.lo _).setCell (p := ⟨g, k * 3 + 1, none⟩) h.lo _).setCell (p := ⟨g, k * 3 + 2, none⟩) h.lo _⟩
  by_cases e : j = k
  · subst e
    rw [hx]
    refine ⟨?_, ?_, ?_⟩
    · rw [ne (by omega), ne (by omega)]; exact World.cell?_setCell_same _ _ _ e0
    · rw [ne (by omega)]; exact World.cell?_setCell_same _ _ _ ((ne (by omega)).trans e1)
    · exact World.cell?_setCell_same _ _ _ ((ne (by omega)).trans ((ne (by omega)).trans e2))
  · obtain ⟨a0, a1, a2⟩ := h.at' j (by omega)
    exact ⟨(ne (by omega)).trans ((ne (by omega)).trans ((ne (by omega)).trans a0)), (ne (by omega)).trans ((ne (by omega)).trans ((ne (by omega)).trans a1)), (ne (by omega)).trans ((ne (by omega)).trans ((ne (by omega)).trans a2))⟩
theorem BrRow.brs {w : World} {s : ByteArray} {g n : Nat} {wr : World} (h : BrRow w s g n n wr) (hn : gtN s = n) : Brs wr w.heap.size wr.heap.size (.slice (some ⟨g, 0, none⟩) n n) (gtL s) := by
  refine ⟨_, n, by rw [gtL_length, hn], by rw [gtL_length, hn]; exact Nat.le_refl _, .inr ⟨g, 0, rfl, h.lo, h.lt, fun k x hx => ?_⟩⟩
  obtain ⟨rfl, hk⟩ := gtL_get hx
  rw [Nat.zero_add]
  exact h.at' k (by omega)
theorem ret_sl {a b : Value} {c d : Int} (h : a = b) (h2 : c = d) : Ending.returned (.tuple #[a, .int .i64 c]) = .returned (.tuple #[b, .int .i64 d]) := by rw [h, h2]

set_option maxHeartbeats 2000000 in
set_option maxRecDepth 100000 in
theorem lget_any (s : ByteArray) (w : World) (hs : s.size ≤ maxLen) :
    Calls Tryz.prog 80 #[.string s] w fun e w' => ∃ v, e = .returned (.tuple #[v, .int .i64 (gtE s)]) ∧ Brs w' w.heap.size w'.heap.size v (gtR s) ∧ Below w.heap.size w w' := by
  have hb := getN_bd1 s 0
  obtain ⟨n, hn⟩ : ∃ n, gtN s = n := ⟨_, rfl⟩
  have hgn : Oc.getN s 0 1 = (n : Int) := by rw [← hn]; unfold gtN; omega
  have C0 := Lib.hid (fun W => Oc.get_any s 0 1 W hs)
  unfold Oc.GetEnd at C0
  rw [hgn] at C0
  generalize Oc.okB s 0 1 = y at C0
  have hs' : s.size ≤ 9223372036854775807 := by unfold maxLen at hs; omega
  have vn : IntKind.i64.wrap (n : Int) = (n : Int) := by rw [IntWalk.i64_in _ (by omega)]
  have v8 : IntKind.i64.wrap ((n : Int) * 8) = (n : Int) * 8 := by rw [IntWalk.i64_in _ (by omega)]
  have v9 : IntKind.i64.wrap (1 + (n : Int) * 8) = 1 + (n : Int) * 8 := by rw [IntWalk.i64_in _ (by omega)]
  have HSZ := Lib.hid hs
  have HN := Lib.hid hn
  rw [hgn] at hb
  by_cases hc : 1 ≤ n ∧ n ≤ 3 ∧ s.size = 1 + n * 8
  · obtain ⟨h1, h3, h8⟩ := hc
    have hsh : shB s = true := by unfold shB; rw [hn]; simpa using ⟨h1, h3, h8⟩
    have HSH := Lib.hid hsh
    have hmk := make_brs n h3
    have c1 : ¬ (n : Int) < 1 := by omega
    have c2 : ¬ (3 : Int) < (n : Int) := by omega
    have c3 : ((s.size : Int) != 1 + (n : Int) * 8) = false := by rw [h8]; simp
    clear hn hgn hs hsh hb
    obtain ⟨w1, hw1⟩ : ∃ w1, w1 = w.alloc (.cells (mkB n) 101) := ⟨_, rfl⟩
    have R1 := Lib.hid (show BrRow w s w.heap.size n 0 w1 from by
      rw [hw1]
      exact ⟨⟨mkB n, heap_alloc_new w _, size_madeCells _ _⟩, fun j hj => absurd hj (Nat.not_lt_zero _), Nat.le_refl _, (Below.refl _ _).alloc (Nat.le_refl _) _⟩)
    go_enter Tryz.func80, Tryz.ntmps80
    go_wp2_with fail
    refine (C0.out _).mono ?_
    rintro e wz ⟨rfl, rfl⟩
    go_upto_region 5 with (fail)
    rw [← hw1]
    clear hw1 hmk C0
    go_wp2_with fail
    go_loopg [7, 33] n (fun gg _ s33 wr => ∃ k : Nat, k ≤ n ∧ n - k ≤ gg ∧ s33 = .int .i64 k ∧ Hid (BrRow w s w.heap.size n k wr))
    case atStart => exact ⟨0, Nat.zero_le _, by omega, rfl, R1⟩
    case round =>
      clear R1
      obtain ⟨k, hk, hg, rfl, R⟩ := hrel
      by_cases hlt : k < n
      · have k1 : (k : Int) < (n : Int) := by omega
        have k2 : decide (k < n) = true := decide_eq_true hlt
        obtain ⟨a, ha⟩ : ∃ a : Nat, a = 1 + k * 8 := ⟨_, rfl⟩
        have q1 : IntKind.i64.wrap ((k : Int) * 8) = (k : Int) * 8 := by rw [IntWalk.i64_in _ (by omega)]
        have q2 : IntKind.i64.wrap (a : Int) = (a : Int) := by rw [IntWalk.i64_in _ (by omega)]
        have q3 : 1 + (k : Int) * 8 = (a : Int) := by omega
        have CB := Lib.hid (fun W => brat_any s a W HSZ.out (by omega))
        have ST := Lib.hid (fun wx (h : BrRow w s w.heap.size n k wx) => h.step hlt)
        rw [← ha] at ST
        generalize brG s a = x at CB ST
        clear ha
        go_wp2_with fail
        refine (CB.out _).mono ?_
        rintro e w2 ⟨rfl, hb2⟩
        have R2 := Lib.hid (R.out.below hb2)
        clear hb2
        obtain ⟨v0, e0⟩ := R2.out.cell (o := k * 3) (by omega)
        obtain ⟨v1, e1⟩ := R2.out.cell (o := k * 3 + 1) (by omega)
        obtain ⟨v2, e2⟩ := R2.out.cell (o := k * 3 + 2) (by omega)
        have f0 := R2.out.free (k * 3)
        have f1 := R2.out.free (k * 3 + 1)
        have f2 := R2.out.free (k * 3 + 2)
        go_wp2_with fail
        go_roundg (n - (k + 1))
        case measure => omega
        case rel => exact ⟨k + 1, by omega, by omega, by go_num, ST.out _ R2.out⟩
      · have k1 : ¬ (k : Int) < (n : Int) := by omega
        obtain rfl : k = n := by omega
        have BS := Lib.hid (R.out.brs HN.out)
        have HF := Lib.hid (has_br (some ⟨w.heap.size, 0, none⟩) k k (gtL s) wr _ _ BS.out (Nat.le_refl _) (by rw [gtL_length, HN.out]; omega))
        cases hh : (gtL s).any highB with
        | true =>
          have E := Lib.hid (gt_high HSH.out hh)
          rw [hh] at HF
          clear hh
          go_wp2_with fail
          refine HF.out.mono ?_
          rintro e w2 ⟨rfl, hb2⟩
          go_wp2_with fail
          go_ret2
          refine ⟨.slice none 0 0, ret_sl rfl E.out.1.symm, ?_, below_next R.out.bel R.out.bel.size hb2⟩
          rw [E.out.2]
          exact Brs.nil _ _ _
        | false =>
          have E := Lib.hid (gt_yes HSH.out hh)
          rw [hh] at HF
          clear hh
          go_wp2_with fail
          refine HF.out.mono ?_
          rintro e w2 ⟨rfl, hb2⟩
          go_wp2_with fail
          go_ret2
          refine ⟨_, ret_sl rfl E.out.1.symm, ?_, below_next R.out.bel R.out.bel.size hb2⟩
          rw [E.out.2]
          exact (BS.out.keep (Kept.of_below hb2 (Nat.le_refl _))).wide (Nat.le_refl _) hb2.size
  · have E := Lib.hid (gt_no (show shB s = false from by unfold shB; rw [hn]; simpa using hc))
    clear hn hgn hs
    have FIN := Lib.hid (show ∃ v, Ending.returned (.tuple #[Value.slice none 0 0, .int .i64 4]) = .returned (.tuple #[v, .int .i64 (gtE s)]) ∧ Brs w w.heap.size w.heap.size v (gtR s) ∧ Below w.heap.size w w from ⟨.slice none 0 0, ret_sl rfl E.out.1.symm, by rw [E.out.2]; exact Brs.nil _ _ _, Below.refl _ _⟩)
    by_cases c1 : (n : Int) < 1
    · go_enter Tryz.func80, Tryz.ntmps80
      go_wp2_with fail
      refine (C0.out _).mono ?_
      rintro e wz ⟨rfl, rfl⟩
      go_wp2_with fail
      go_ret2
      exact FIN.out
    · by_cases c2 : (3 : Int) < (n : Int)
      · go_enter Tryz.func80, Tryz.ntmps80
        go_wp2_with fail
        refine (C0.out _).mono ?_
        rintro e wz ⟨rfl, rfl⟩
        go_wp2_with fail
        go_ret2
        exact FIN.out
      · have c3 : ((s.size : Int) != 1 + (n : Int) * 8) = true := by simp; omega
        go_enter Tryz.func80, Tryz.ntmps80
        go_wp2_with fail
        refine (C0.out _).mono ?_
        rintro e wz ⟨rfl, rfl⟩
        go_wp2_with fail
        go_ret2
        exact FIN.out

end Go.Proofs.YtjclklppnkoehaaGreatDoor
