/-
  The reader: where it stands, and what each of its calls leaves as it was.
  The reader takes a number, a word, a count.
  The reader takes a count, a word; what more there is.
  The reader takes bytes; the marker.
  The reader's state as plain data: the place and the error; what each part makes of it.
  The reader takes a Witness.
  The reader takes the Outs.
  The reader takes a word, and the Ins.
  The reader takes all Witnesses.
  The reader takes a transaction.
-/
import Derived.Test.YtfobdefncbaooaaDoorVivget
import Derived.Test.YtfobdefncbaooaaDoorData
import Derived.Lib.Builder
import Derived.BigQuiet
import Derived.Deep.DeepCutAuto
import Derived.Deep.RegionWith
import Derived.Test.YtfobdefncbaooaaDoorPwalk
import Derived.Test.YtfobdefncbaooaaDoorTotal
import Derived.Test.YtfobdefncbaooaaDoorCut

namespace Go.Proofs.YtfobdefncbaooaaDoor
open Go.RowKit

/-- The reader's block: the text, the place, the error. -/
def RdAt (w : World) (g : Nat) (s : ByteArray) (a e : Int) : Prop := w.heap[g]? = some (.cells #[.string s, .int .i64 a, .int .i64 e] 70 (0, 0))
theorem RdAt.cells {w : World} {g : Nat} {s : ByteArray} {a e : Int} (h : RdAt w g s a e) : w.cell? ⟨g, 0, none⟩ = some (.string s) ∧ w.cell? ⟨g, 1, none⟩ = some (.int .i64 a) ∧ w.cell? ⟨g, 2, none⟩ = some (.int .i64 e) ∧ w.frozen? ⟨g, 1, none⟩ = false ∧ w.frozen? ⟨g, 2, none⟩ = false := by
  refine ⟨?_, ?_, ?_, ?_, ?_⟩
  · rw [Lib.cell_of_heap h]; rfl
  · rw [Lib.cell_of_heap h]; rfl
  · rw [Lib.cell_of_heap h]; rfl
  · exact Lib.frozen_of_heap h 1
  · exact Lib.frozen_of_heap h 2
theorem RdAt.lt {w : World} {g : Nat} {s : ByteArray} {a e : Int} (h : RdAt w g s a e) : g < w.heap.size := by
  rcases Nat.lt_or_ge g w.heap.size with h' | h'
  · exact h'
  · unfold RdAt at h; rw [Array.getElem?_eq_none h'] at h; cases h
theorem RdAt.setAt {w : World} {g : Nat} {s : ByteArray} {a e : Int} (h : RdAt w g s a e) (a' : Int) : RdAt (w.setCell ⟨g, 1, none⟩ (.int .i64 a')) g s a' e := by
  unfold RdAt at h ⊢
  simp [World.setCell, Array.getElem?_modify, h]
theorem RdAt.setErr {w : World} {g : Nat} {s : ByteArray} {a e : Int} (h : RdAt w g s a e) (e' : Int) : RdAt (w.setCell ⟨g, 2, none⟩ (.int .i64 e')) g s a e' := by
  unfold RdAt at h ⊢
  simp [World.setCell, Array.getElem?_modify, h]
theorem RdAt.below {w w' : World} {g : Nat} {s : ByteArray} {a e : Int} (h : RdAt w g s a e) (hb : Below w.heap.size w w') : RdAt w' g s a e := (hb.block g h.lt).trans h

/-- All but the block g is as it was. -/
structure Only (g : Nat) (w w' : World) : Prop where
  os : w'.os = w.os
  tape : w'.tape = w.tape
  output : w'.output = w.output
  size : w.heap.size ≤ w'.heap.size
  block : ∀ b, b < w.heap.size → b ≠ g → w'.heap[b]? = w.heap[b]?
theorem Only.of_below {g : Nat} {w w' : World} (h : Below w.heap.size w w') : Only g w w' := ⟨h.os, h.tape, h.output, h.size, fun b hb _ => h.block b hb⟩
theorem Only.refl (g : Nat) (w : World) : Only g w w := Only.of_below (Below.refl _ _)
theorem Only.trans {g : Nat} {u v w : World} (h : Only g u v) (k : Only g v w) : Only g u w :=
  ⟨k.os.trans h.os, k.tape.trans h.tape, k.output.trans h.output, Nat.le_trans h.size k.size, fun b hb hg => (k.block b (Nat.lt_of_lt_of_le hb h.size) hg).trans (h.block b hb hg)⟩
theorem Only.set {g o : Nat} {u v : World} (h : Only g u v) (x : Value) : Only g u (v.setCell ⟨g, o, none⟩ x) := by
  have hb := (Below.refl 0 v).setCell (p := ⟨g, o, none⟩) (Nat.zero_le _) x
  exact ⟨hb.os.trans h.os, hb.tape.trans h.tape, hb.output.trans h.output, Nat.le_trans h.size hb.size, fun b hb' hg => (Below.heap_setCell _ _ _ _ hg).trans (h.block b hb' hg)⟩
theorem Only.alloc {g : Nat} {u v : World} (h : Only g u v) (o : Obj) : Only g u (v.alloc o) := h.trans (Only.of_below ((Below.refl _ _).alloc (Nat.le_refl _) o))
theorem Only.drewN {g : Nat} {u v : World} (h : Only g u v) (n : Nat) : Only g u (v.drewN n) := ⟨h.os, h.tape, h.output, h.size, h.block⟩

/-- What a call of the reader gives. -/
def RdGives (g : Nat) (s : ByteArray) (w : World) (v : Value) (a e : Int) (x : Ending) (w' : World) : Prop := x = .returned v ∧ RdAt w' g s a e ∧ Only g w w'

/-- The error, if there was none. -/
def refD (e x : Int) : Int := if e = 0 then x else e

set_option maxHeartbeats 400000 in
theorem refuse_any (g : Nat) (s : ByteArray) (a e x : Int) (w : World) (h : RdAt w g s a e) :
    Calls Tryd.prog 76 #[.pointer (some ⟨g, 0, none⟩), .int .i64 x] w (RdGives g s w (.tuple #[]) a (refD e x)) := by
  have H := Lib.hid h
  obtain ⟨c0, c1, c2, f1, f2⟩ := h.cells
  clear h
  by_cases he : e = 0
  · have e1 : (e == 0) = true := by simpa using he
    have E := Lib.hid (show refD e x = x from by unfold refD; rw [if_pos he])
    clear he
    go_enter Tryd.func76, Tryd.ntmps76
    go_wp2
    go_end0
    exact ⟨rfl, by rw [E.out]; exact H.out.setErr x, (Only.refl _ _).set _⟩
  · have e1 : (e == 0) = false := by simpa using he
    have E := Lib.hid (show refD e x = e from by unfold refD; rw [if_neg he])
    clear he
    go_enter Tryd.func76, Tryd.ntmps76
    go_wp2
    go_end0
    exact ⟨rfl, by rw [E.out]; exact H.out, Only.refl _ _⟩

/-- The error behind a number's span is asked. -/
def spanE (n lo hi out e : Int) : Int := if n < lo ∨ hi < n then refD e out else e

/-- The number, and the place behind it, if nothing is wrong. -/
def okN (x n : Int) : Int := if x = 0 then n else 0
def okA (x bh a : Int) : Int := if x = 0 then bh else a
theorem okN_yes {x n : Int} (h : x = 0) : okN x n = n := if_pos h
theorem okN_no {x n : Int} (h : ¬ x = 0) : okN x n = 0 := if_neg h
theorem okA_yes {x b a : Int} (h : x = 0) : okA x b a = b := if_pos h
theorem okA_no {x b a : Int} (h : ¬ x = 0) : okA x b a = a := if_neg h
theorem ret_u {k : IntKind} {a b : Int} (h : a = b) : Ending.returned (.int k a) = .returned (.int k b) := by rw [h]

set_option maxHeartbeats 1000000 in
theorem accept_any (g : Nat) (s : ByteArray) (a e n bh lo hi out : Int) (w : World) (h : RdAt w g s a e) :
    Calls Tryd.prog 94 #[.pointer (some ⟨g, 0, none⟩), .int .u64 n, .int .i64 bh, .agg #[.int .u64 lo, .int .u64 hi, .int .i64 out]] w
      (RdGives g s w (.int .u64 (okN (spanE n lo hi out e) n)) (okA (spanE n lo hi out e) bh a) (spanE n lo hi out e)) := by
  have H := Lib.hid h
  have hg := h.lt
  have B0 := Lib.hid (fun o => (Below.refl w.heap.size w).alloc (Nat.le_refl _) o)
  obtain ⟨w1, hw1⟩ : ∃ w1, w1 = w.alloc (.cells #[.int .u64 lo, .int .u64 hi, .int .i64 out] 103) := ⟨_, rfl⟩
  have H1 := Lib.hid (show RdAt w1 g s a e from by rw [hw1]; exact h.below (B0.out _))
  have O1 := Lib.hid (show Only g w w1 from by rw [hw1]; exact Only.of_below (B0.out _))
  have z1 : w1.heap.size = w.heap.size + 1 := by rw [hw1]; simp
  have x0 : w1.cell? ⟨w.heap.size, 0, none⟩ = some (.int .u64 lo) := by rw [hw1]; simp
  have x1 : w1.cell? ⟨w.heap.size, 1, none⟩ = some (.int .u64 hi) := by rw [hw1]; simp
  have x2 : w1.cell? ⟨w.heap.size, 2, none⟩ = some (.int .i64 out) := by rw [hw1]; simp
  have HW1 := Lib.hid hw1
  clear h hw1
  by_cases hr : n < lo ∨ hi < n
  · have E := Lib.hid (show spanE n lo hi out e = refD e out from by unfold spanE; rw [if_pos hr])
    have hsplit : n < lo ∨ (¬ n < lo ∧ hi < n) := by omega
    clear hr
    go_enter Tryd.func94, Tryd.ntmps94
    go_upto_region 1 with (fail)
    rw [show World.alloc w _ = w1 from HW1.out.symm]
    rcases hsplit with q1 | ⟨q1, q2⟩
    all_goals
      go_wp2_with fail
      refine (refuse_any g s a e out w1 H1.out).mono ?_
      rintro x w2 ⟨rfl, h2, o2⟩
      have H2 := Lib.hid h2
      have O2 := Lib.hid (O1.out.trans o2)
      obtain ⟨c0, c1, c2, f1, f2⟩ := h2.cells
      clear h2 o2 x0 x1 x2
      obtain ⟨e2, he2⟩ : ∃ e2, refD e out = e2 := ⟨_, rfl⟩
      rw [he2] at H2 c2 E
      clear he2
      by_cases hz : e2 = 0
      · have y1 : (e2 != 0) = false := by simpa using hz
        have HZ := Lib.hid hz
        clear hz
        go_wp2_with fail
        go_ret
        exact ⟨ret_u (by rw [E.out, okN_yes HZ.out]), by rw [E.out, okA_yes HZ.out]; exact H2.out.setAt bh, O2.out.set _⟩
      · have y1 : (e2 != 0) = true := by simpa using hz
        have HZ := Lib.hid hz
        clear hz
        go_wp2_with fail
        go_ret
        exact ⟨ret_u (by rw [E.out, okN_no HZ.out]), by rw [E.out, okA_no HZ.out]; exact H2.out, O2.out⟩
  · have E := Lib.hid (show spanE n lo hi out e = e from by unfold spanE; rw [if_neg hr])
    have q1 : ¬ n < lo := by omega
    have q2 : ¬ hi < n := by omega
    obtain ⟨c0, c1, c2, f1, f2⟩ := H1.out.cells
    clear hr
    by_cases hz : e = 0
    · have y1 : (e != 0) = false := by simpa using hz
      have HZ := Lib.hid hz
      clear hz
      go_enter Tryd.func94, Tryd.ntmps94
      go_upto_region 1 with (fail)
      rw [show World.alloc w _ = w1 from HW1.out.symm]
      go_wp2_with fail
      go_ret
      exact ⟨ret_u (by rw [E.out, okN_yes HZ.out]), by rw [E.out, okA_yes HZ.out]; exact H1.out.setAt bh, O1.out.set _⟩
    · have y1 : (e != 0) = true := by simpa using hz
      have HZ := Lib.hid hz
      clear hz
      go_enter Tryd.func94, Tryd.ntmps94
      go_upto_region 1 with (fail)
      rw [show World.alloc w _ = w1 from HW1.out.symm]
      go_wp2_with fail
      go_ret
      exact ⟨ret_u (by rw [E.out, okN_no HZ.out]), by rw [E.out, okA_no HZ.out]; exact H1.out, O1.out⟩

end Go.Proofs.YtfobdefncbaooaaDoor

namespace Go.Proofs.YtfobdefncbaooaaDoor
open Go.RowKit

theorem lt_of_blk {w : World} {g : Nat} {o : Obj} (h : w.heap[g]? = some o) : g < w.heap.size := by
  rcases Nat.lt_or_ge g w.heap.size with h' | h'
  · exact h'
  · rw [Array.getElem?_eq_none h'] at h; cases h
theorem three_cells {w : World} {g : Nat} {a b c : Value} {e : TypeId} (h : w.heap[g]? = some (.cells #[a, b, c] e (0, 0))) : w.cell? ⟨g, 0, none⟩ = some a ∧ w.cell? ⟨g, 1, none⟩ = some b ∧ w.cell? ⟨g, 2, none⟩ = some c := by
  refine ⟨?_, ?_, ?_⟩ <;> (rw [Lib.cell_of_heap h]; rfl)

/-- The error behind a number of k bytes. -/
def numE (s : ByteArray) (a e k lo hi out : Int) : Int := spanE (Vi.getN s a k) lo hi out (if Vi.okB s a k = true then e else refD e 5)

set_option maxHeartbeats 2000000 in
set_option maxRecDepth 100000 in
theorem number_rd (g : Nat) (s : ByteArray) (a e k lo hi out : Int) (w : World) (h : RdAt w g s a e) (hs : s.size ≤ 140737488355328) (ha : 0 ≤ a ∧ a ≤ s.size) (hk : 0 ≤ k ∧ k ≤ 8) :
    Calls Tryd.prog 71 #[.pointer (some ⟨g, 0, none⟩), .int .i64 k, .agg #[.int .u64 lo, .int .u64 hi, .int .i64 out]] w
      (RdGives g s w (.int .u64 (okN (numE s a e k lo hi out) (Vi.getN s a k))) (okA (numE s a e k lo hi out) (a + k) a) (numE s a e k lo hi out)) := by
  have H := Lib.hid h
  have B0 := Lib.hid (fun o => (Below.refl w.heap.size w).alloc (Nat.le_refl _) o)
  obtain ⟨w1, hw1⟩ : ∃ w1, w1 = w.alloc (.cells #[.int .u64 lo, .int .u64 hi, .int .i64 out] 103) := ⟨_, rfl⟩
  have H1 := Lib.hid (show RdAt w1 g s a e from by rw [hw1]; exact h.below (B0.out _))
  have O1 := Lib.hid (show Only g w w1 from by rw [hw1]; exact Only.of_below (B0.out _))
  have z1 : w1.heap.size = w.heap.size + 1 := by rw [hw1]; simp
  have hg := h.lt
  have BS := Lib.hid (show w1.heap[w.heap.size]? = some (.cells #[.int .u64 lo, .int .u64 hi, .int .i64 out] 103 (0, 0)) from by rw [hw1]; exact heap_alloc_new w _)
  have HW1 := Lib.hid hw1
  have va : IntKind.i64.wrap (a + k) = a + k := IntWalk.i64_in _ (by omega)
  have hms : s.size ≤ maxLen := by unfold maxLen; omega
  obtain ⟨n, hn⟩ : ∃ n, Vi.getN s a k = n := ⟨_, rfl⟩
  obtain ⟨o, ho⟩ : ∃ o, Vi.okB s a k = o := ⟨_, rfl⟩
  have EN := Lib.hid (show numE s a e k lo hi out = spanE n lo hi out (if o = true then e else refD e 5) from by unfold numE; rw [hn, ho])
  have C73 := Lib.hid (fun x : After w1 => (Vi.get_is s a k n o x.val hms hn ho).mono fun _ w' ⟨he, hw⟩ => (show _ ∧ Below x.val.heap.size x.val w' from ⟨he, by subst hw; exact Below.refl _ _⟩))
  rw [hn]
  clear h hw1 hn ho hs
  go_enter Tryd.func71, Tryd.ntmps71
  go_upto_region 1 with (fail)
  rw [show World.alloc w _ = w1 from HW1.out.symm]
  have g1 : g < w1.heap.size := by omega
  obtain ⟨c0, c1, c2, f1, f2⟩ := H1.out.cells
  have r0 : ∀ x : After w1, x.val.cell? ⟨g, 0, none⟩ = some (.string s) := fun x => (x.ok.cell (p := ⟨g, 0, none⟩) g1).trans c0
  have r1 : ∀ x : After w1, x.val.cell? ⟨g, 1, none⟩ = some (.int .i64 a) := fun x => (x.ok.cell (p := ⟨g, 1, none⟩) g1).trans c1
  have hne : Nonempty (After w1) := ⟨⟨w1, Below.refl _ _⟩⟩
  refine wp_region_after (by kernel_rfl) (by kernel_rfl) ?_
  repeat (go_big_quiet_step ((go_at_call 72; exact After.call _ (C73.out _))))
  refine wpQuiet_nil ?_
  rintro _ ⟨x, rfl⟩
  have hx := x.ok
  obtain ⟨w2, hw2⟩ : ∃ w2, w2 = x.val := ⟨_, rfl⟩
  rw [← hw2] at hx ⊢
  have H2 := Lib.hid (H1.out.below hx)
  have O2 := Lib.hid (O1.out.trans (Only.of_below hx))
  have B2 := Lib.hid ((hx.block w.heap.size (by omega)).trans BS.out)
  clear hw2 x hx r0 r1 hne c0 c1 c2 f1 f2 C73
  go_upto_if 23 with (fail)
  go_cut [] (fun wx => ∃ e2, Hid (numE s a e k lo hi out = spanE n lo hi out e2) ∧ Hid (RdAt wx g s a e2) ∧ Hid (Only g w wx) ∧ Hid (wx.heap[w.heap.size]? = some (.cells #[.int .u64 lo, .int .u64 hi, .int .i64 out] 103 (0, 0))))
  case first =>
    cases o
    · go_wp2_with fail
      refine (refuse_any g s a e 5 w2 H2.out).mono ?_
      rintro x w3 ⟨rfl, h3, o3⟩
      have H3 := Lib.hid h3
      have O3 := Lib.hid (O2.out.trans o3)
      have B3 := Lib.hid ((o3.block w.heap.size (by have := O2.out.size; have := B2.out; exact lt_of_blk B2.out) (by omega)).trans B2.out)
      clear h3 o3
      go_wp2_with fail
      go_meet
      exact ⟨refD e 5, EN, H3, O3, B3⟩
    · go_wp2_with fail
      go_meet
      exact ⟨e, EN, H2, O2, B2⟩
  case rest =>
    obtain ⟨e2, EN2, H3, O3, B3⟩ := hcut
    clear EN H2 O2 B2
    obtain ⟨c0, c1, c2, f1, f2⟩ := H3.out.cells
    obtain ⟨x0, x1, x2⟩ := three_cells B3.out
    have ACC := Lib.hid (fun (W : World) (hW : RdAt W g s a e2) => accept_any g s a e2 n (a + k) lo hi out W hW)
    rw [← EN2.out] at ACC
    go_wp2_with fail
    go_region_with (go_at_call 94; refine (ACC.out _ (by exact H3.out)).mono ?_; rintro x w4 ⟨rfl, h4, o4⟩)
    all_goals go_wp2_with fail
    all_goals go_ret
    all_goals exact ⟨rfl, h4, O3.out.trans ⟨o4.os, o4.tape, o4.output, o4.size, o4.block⟩⟩

end Go.Proofs.YtfobdefncbaooaaDoor

namespace Go.Proofs.YtfobdefncbaooaaDoor
open Go.RowKit

/-- The error behind a count. -/
def cntE (s : ByteArray) (a e lo hi out : Int) : Int := spanE (Vi.gotN s a) lo hi out (refD e (Vi.gotE s a))

set_option maxHeartbeats 2000000 in
set_option maxRecDepth 100000 in
theorem count_rd (g : Nat) (s : ByteArray) (a e lo hi out : Int) (w : World) (h : RdAt w g s a e) (hs : s.size ≤ 140737488355328) (hcv : IntKind.i64.wrap (okN (cntE s a e lo hi out) (Vi.gotN s a)) = okN (cntE s a e lo hi out) (Vi.gotN s a)) :
    Calls Tryd.prog 73 #[.pointer (some ⟨g, 0, none⟩), .agg #[.int .u64 lo, .int .u64 hi, .int .i64 out]] w
      (RdGives g s w (.int .i64 (okN (cntE s a e lo hi out) (Vi.gotN s a))) (okA (cntE s a e lo hi out) (Vi.gotT s a) a) (cntE s a e lo hi out)) := by
  have H := Lib.hid h
  have B0 := Lib.hid (fun o => (Below.refl w.heap.size w).alloc (Nat.le_refl _) o)
  obtain ⟨w1, hw1⟩ : ∃ w1, w1 = w.alloc (.cells #[.int .u64 lo, .int .u64 hi, .int .i64 out] 103) := ⟨_, rfl⟩
  have H1 := Lib.hid (show RdAt w1 g s a e from by rw [hw1]; exact h.below (B0.out _))
  have O1 := Lib.hid (show Only g w w1 from by rw [hw1]; exact Only.of_below (B0.out _))
  have z1 : w1.heap.size = w.heap.size + 1 := by rw [hw1]; simp
  have hg := h.lt
  have BS := Lib.hid (show w1.heap[w.heap.size]? = some (.cells #[.int .u64 lo, .int .u64 hi, .int .i64 out] 103 (0, 0)) from by rw [hw1]; exact heap_alloc_new w _)
  have HW1 := Lib.hid hw1
  obtain ⟨n, hn⟩ : ∃ n, Vi.gotN s a = n := ⟨_, rfl⟩
  obtain ⟨bh, hbh⟩ : ∃ bh, Vi.gotT s a = bh := ⟨_, rfl⟩
  obtain ⟨ev, hev⟩ : ∃ ev, Vi.gotE s a = ev := ⟨_, rfl⟩
  obtain ⟨X, hX⟩ : ∃ X, cntE s a e lo hi out = X := ⟨_, rfl⟩
  have EN := Lib.hid (show X = spanE n lo hi out (refD e ev) from by rw [← hX]; unfold cntE; rw [hn, hev])
  have C92 := Lib.hid (fun x : After w1 => (Vi.vget_any s a x.val (by omega)))
  unfold Vi.GotEnd at C92
  rw [hn, hbh, hev] at C92
  rw [hX, hn] at hcv
  rw [hX, hn, hbh]
  clear h hw1 hn hbh hev hs hX
  go_enter Tryd.func73, Tryd.ntmps73
  go_upto_region 1 with (fail)
  rw [show World.alloc w _ = w1 from HW1.out.symm]
  have g1 : g < w1.heap.size := by omega
  obtain ⟨c0, c1, c2, f1, f2⟩ := H1.out.cells
  have r0 : ∀ x : After w1, x.val.cell? ⟨g, 0, none⟩ = some (.string s) := fun x => (x.ok.cell (p := ⟨g, 0, none⟩) g1).trans c0
  have r1 : ∀ x : After w1, x.val.cell? ⟨g, 1, none⟩ = some (.int .i64 a) := fun x => (x.ok.cell (p := ⟨g, 1, none⟩) g1).trans c1
  have hne : Nonempty (After w1) := ⟨⟨w1, Below.refl _ _⟩⟩
  refine wp_region_after (by kernel_rfl) (by kernel_rfl) ?_
  repeat (go_big_quiet_step ((go_at_call 95; exact After.call _ (C92.out _))))
  refine wpQuiet_nil ?_
  rintro _ ⟨x, rfl⟩
  have hx := x.ok
  obtain ⟨w2, hw2⟩ : ∃ w2, w2 = x.val := ⟨_, rfl⟩
  rw [← hw2] at hx ⊢
  have H2 := Lib.hid (H1.out.below hx)
  have O2 := Lib.hid (O1.out.trans (Only.of_below hx))
  have B2 := Lib.hid ((hx.block w.heap.size (by omega)).trans BS.out)
  clear hw2 x hx r0 r1 hne c0 c1 c2 f1 f2 C92
  go_wp2_with fail
  refine (refuse_any g s a e ev w2 H2.out).mono ?_
  rintro x w3 ⟨rfl, h3, o3⟩
  have H3 := Lib.hid h3
  have O3 := Lib.hid (O2.out.trans o3)
  have B3 := Lib.hid ((o3.block w.heap.size (lt_of_blk B2.out) (by omega)).trans B2.out)
  clear h3 o3
  obtain ⟨e2, he2⟩ : ∃ e2, refD e ev = e2 := ⟨_, rfl⟩
  rw [he2] at H3 EN
  clear he2
  obtain ⟨x0, x1, x2⟩ := three_cells B3.out
  have hACC := accept_any g s a e2 n bh lo hi out w3 H3.out
  rw [← EN.out] at hACC
  have ACC := Lib.hid hACC
  clear hACC
  go_wp2_with fail
  refine ACC.out.mono ?_
  rintro x w4 ⟨rfl, h4, o4⟩
  have H4 := Lib.hid h4
  have O4 := Lib.hid (O3.out.trans o4)
  clear h4 o4
  go_wp2_with fail
  go_ret
  exact ⟨rfl, H4.out, O4.out⟩

set_option maxHeartbeats 1000000 in
set_option maxRecDepth 100000 in
theorem word_rd (g : Nat) (s : ByteArray) (a e : Int) (w : World) (h : RdAt w g s a e) (hs : s.size ≤ 140737488355328) (ha : 0 ≤ a ∧ a ≤ s.size) (hcv : IntKind.u32.wrap (okN (numE s a e 4 0 4294967295 0) (Vi.getN s a 4)) = okN (numE s a e 4 0 4294967295 0) (Vi.getN s a 4)) :
    Calls Tryd.prog 48 #[.pointer (some ⟨g, 0, none⟩)] w
      (RdGives g s w (.int .u32 (okN (numE s a e 4 0 4294967295 0) (Vi.getN s a 4))) (okA (numE s a e 4 0 4294967295 0) (a + 4) a) (numE s a e 4 0 4294967295 0)) := by
  have N := Lib.hid (number_rd g s a e 4 0 4294967295 0 w h hs ha (by omega))
  generalize numE s a e 4 0 4294967295 0 = X at N hcv
  generalize Vi.getN s a 4 = n at N hcv
  clear h hs ha
  go_enter Tryd.func48, Tryd.ntmps48
  go_wp2_with fail
  refine N.out.mono ?_
  rintro x w4 ⟨rfl, h4, o4⟩
  have H4 := Lib.hid h4
  have O4 := Lib.hid o4
  clear h4 o4
  go_wp2_with fail
  go_ret
  exact ⟨rfl, H4.out, O4.out⟩

/-- The error behind the end. -/
def endE (s : ByteArray) (a e : Int) : Int := if a < s.size then refD e 4 else e

set_option maxHeartbeats 1000000 in
theorem end_rd (g : Nat) (s : ByteArray) (a e : Int) (w : World) (h : RdAt w g s a e) :
    Calls Tryd.prog 53 #[.pointer (some ⟨g, 0, none⟩)] w (RdGives g s w (.tuple #[]) a (endE s a e)) := by
  have H := Lib.hid h
  obtain ⟨c0, c1, c2, f1, f2⟩ := h.cells
  clear h
  by_cases hl : a < s.size
  · have d1 : decide (a < (s.size : Int)) = true := decide_eq_true hl
    have E := Lib.hid (show endE s a e = refD e 4 from by unfold endE; rw [if_pos hl])
    go_enter Tryd.func53, Tryd.ntmps53
    go_upto_region 0 with (fail)
    go_quiet (fail)
    go_wp2_with fail
    refine (refuse_any g s a e 4 _ (by exact H.out)).mono ?_
    rintro x w4 ⟨rfl, h4, o4⟩
    have H4 := Lib.hid h4
    have O4 := Lib.hid o4
    clear h4 o4
    go_wp2_with fail
    go_end0
    exact ⟨rfl, by rw [E.out]; exact H4.out, ⟨O4.out.os, O4.out.tape, O4.out.output, O4.out.size, O4.out.block⟩⟩
  · have d1 : decide (a < (s.size : Int)) = false := decide_eq_false hl
    have E := Lib.hid (show endE s a e = e from by unfold endE; rw [if_neg hl])
    go_enter Tryd.func53, Tryd.ntmps53
    go_upto_region 0 with (fail)
    go_quiet (fail)
    go_wp2_with fail
    go_end0
    exact ⟨rfl, by rw [E.out]; exact H.out, (Only.refl g w).drewN _⟩

end Go.Proofs.YtfobdefncbaooaaDoor

namespace Go.Proofs.YtfobdefncbaooaaDoor
open Go.RowKit

/-- The error behind n bytes. -/
def bytE (s : ByteArray) (a e n : Int) : Int := if (s.size : Int) - a < n then refD e 5 else e
/-- These bytes. -/
def bytS (s : ByteArray) (a e n : Int) : ByteArray := if bytE s a e n = 0 then s.extract a.toNat (a + n).toNat else ⟨#[]⟩
theorem ret_b {a b : Bool} (h : a = b) : Ending.returned (.bool a) = .returned (.bool b) := by rw [h]
theorem ret_s {a b : ByteArray} (h : a = b) : Ending.returned (.string a) = .returned (.string b) := by rw [h]

set_option maxHeartbeats 2000000 in
set_option maxRecDepth 100000 in
theorem bytes_rd (g : Nat) (s : ByteArray) (a n : Nat) (e : Int) (w : World) (h : RdAt w g s a e) (hs : s.size ≤ 140737488355328) (ha : a ≤ s.size) (hn : n ≤ 140737488355328) :
    Calls Tryd.prog 74 #[.pointer (some ⟨g, 0, none⟩), .int .i64 (n : Int)] w
      (RdGives g s w (.string (bytS s a e n)) (okA (bytE s a e n) (a + n : Nat) a) (bytE s a e n)) := by
  have H := Lib.hid h
  obtain ⟨c0, c1, c2, f1, f2⟩ := h.cells
  have v1 : IntKind.i64.wrap ((s.size : Int) - (a : Int)) = (s.size : Int) - (a : Int) := IntWalk.i64_in _ (by omega)
  clear h
  by_cases hl : (s.size : Int) - a < n
  · have d1 : decide ((s.size : Int) - (a : Int) < (n : Int)) = true := decide_eq_true hl
    have EB := Lib.hid (show bytE s a e n = refD e 5 from by unfold bytE; rw [if_pos hl])
    have hr5 : ¬ refD e 5 = 0 := by unfold refD; split <;> omega
    have ES := Lib.hid (show bytS s a e n = ⟨#[]⟩ from by unfold bytS; rw [EB.out, if_neg hr5])
    have HR5 := Lib.hid hr5
    clear hr5
    go_enter Tryd.func74, Tryd.ntmps74
    go_upto_region 1 with (fail)
    go_quiet (fail)
    go_wp2_with fail
    refine (refuse_any g s a e 5 _ (by exact H.out)).mono ?_
    rintro x w4 ⟨rfl, h4, o4⟩
    have H4 := Lib.hid h4
    have O4 := Lib.hid (show Only g w w4 from ⟨o4.os, o4.tape, o4.output, o4.size, o4.block⟩)
    obtain ⟨y0, y1, y2, _, _⟩ := h4.cells
    obtain ⟨e2, he2⟩ : ∃ e2, refD e 5 = e2 := ⟨_, rfl⟩
    rw [he2] at y2 HR5 H4 EB
    have q1 : (e2 != 0) = true := by simpa using HR5.out
    clear h4 o4 he2 c0 c1 c2 f1 f2
    go_wp2_with fail
    go_ret
    exact ⟨ret_s ES.out.symm, by rw [EB.out, okA_no HR5.out]; exact H4.out, O4.out⟩
  · have d1 : decide ((s.size : Int) - (a : Int) < (n : Int)) = false := decide_eq_false hl
    have EB := Lib.hid (show bytE s a e n = e from by unfold bytE; rw [if_neg hl])
    by_cases hz : e = 0
    · have q1 : (e != 0) = false := by simpa using hz
      have ES := Lib.hid (show bytS s a e n = s.extract a (a + n) from by unfold bytS; rw [EB.out, if_pos hz]; rfl)
      have HZ := Lib.hid hz
      obtain ⟨b, hb⟩ : ∃ b : Nat, b = a + n := ⟨_, rfl⟩
      have v2 : IntKind.i64.wrap ((a : Int) + (n : Int)) = (b : Int) := by rw [IntWalk.i64_in _ (by omega)]; omega
      have k1 : (a : Int) ≤ (b : Int) := by omega
      have k2 : (b : Int) ≤ (s.size : Int) := by omega
      have k3 : a ≤ b := by omega
      have k4 : b ≤ s.size := by omega
      rw [← hb] at ES
      have HBE := Lib.hid hb
      rw [← hb]
      clear hz hb
      go_enter Tryd.func74, Tryd.ntmps74
      go_upto_region 1 with (fail)
      go_quiet (fail)
      go_upto_region 7 with (fail)
      obtain ⟨w5, hw5⟩ : ∃ w5, w5 = (w.drewN nq).setCell ⟨g, 1, none⟩ (.int .i64 (b : Int)) := ⟨_, rfl⟩
      rw [← hw5]
      have H5 := Lib.hid (show RdAt w5 g s b e from by rw [hw5]; exact RdAt.setAt (w := w.drewN nq) H.out _)
      have O5 := Lib.hid (show Only g w w5 from by rw [hw5]; exact ((Only.refl g w).drewN nq).set _)
      clear hw5 c0 c1 c2 f1 f2
      obtain ⟨y0, y1, y2, _, _⟩ := H5.out.cells
      go_quiet (fail)
      go_wp2_with fail
      go_ret
      exact ⟨ret_s ES.out.symm, by rw [EB.out, okA_yes HZ.out]; exact H5.out, O5.out.drewN _⟩
    · have q1 : (e != 0) = true := by simpa using hz
      have ES := Lib.hid (show bytS s a e n = ⟨#[]⟩ from by unfold bytS; rw [EB.out, if_neg hz])
      have HZ := Lib.hid hz
      clear hz
      go_enter Tryd.func74, Tryd.ntmps74
      go_upto_region 1 with (fail)
      go_quiet (fail)
      go_wp2_with fail
      go_ret
      exact ⟨ret_s ES.out.symm, by rw [EB.out, okA_no HZ.out]; exact H.out, (Only.refl g w).drewN _⟩

/-- Is there a marker? -/
def mkB (s : ByteArray) (a e : Int) : Bool := Vi.okB s a 1 && (Vi.getN s a 1 == 0) && (e == 0)
/-- The place and the error behind the marker and the flag. -/
def mkE (s : ByteArray) (a e : Int) : Int := if mkB s a e = true then numE s (a + 1) e 1 1 1 4 else e
def mkA (s : ByteArray) (a e : Int) : Int := if mkB s a e = true then okA (numE s (a + 1) e 1 1 1 4) (a + 1 + 1) (a + 1) else a

set_option maxHeartbeats 2000000 in
set_option maxRecDepth 100000 in
theorem marked_rd (g : Nat) (s : ByteArray) (a e : Int) (w : World) (h : RdAt w g s a e) (hs : s.size ≤ 140737488355328) (ha : 0 ≤ a ∧ a ≤ s.size) :
    Calls Tryd.prog 49 #[.pointer (some ⟨g, 0, none⟩)] w (RdGives g s w (.bool (mkB s a e)) (mkA s a e) (mkE s a e)) := by
  have H := Lib.hid h
  have hms : s.size ≤ maxLen := by unfold maxLen; omega
  obtain ⟨n, hn⟩ : ∃ n, Vi.getN s a 1 = n := ⟨_, rfl⟩
  obtain ⟨o, ho⟩ : ∃ o, Vi.okB s a 1 = o := ⟨_, rfl⟩
  have EM := Lib.hid (show mkB s a e = (o && (n == 0) && (e == 0)) from by unfold mkB; rw [hn, ho])
  have C73 := Lib.hid (fun x : After w => (Vi.get_is s a 1 n o x.val hms hn ho).mono fun _ w' ⟨he, hw⟩ => (show _ ∧ Below x.val.heap.size x.val w' from ⟨he, by subst hw; exact Below.refl _ _⟩))
  have ha1 : o = true → a + 1 ≤ s.size := fun hoo => by
    rw [hoo] at ho
    unfold Vi.okB at ho
    simp at ho
    omega
  clear hn ho
  have g1 := h.lt
  obtain ⟨c0, c1, c2, f1, f2⟩ := h.cells
  have r0 : ∀ x : After w, x.val.cell? ⟨g, 0, none⟩ = some (.string s) := fun x => (x.ok.cell (p := ⟨g, 0, none⟩) g1).trans c0
  have r1 : ∀ x : After w, x.val.cell? ⟨g, 1, none⟩ = some (.int .i64 a) := fun x => (x.ok.cell (p := ⟨g, 1, none⟩) g1).trans c1
  have hne : Nonempty (After w) := ⟨⟨w, Below.refl _ _⟩⟩
  clear h
  go_enter Tryd.func49, Tryd.ntmps49
  go_upto_region 1 with (fail)
  refine wp_region_after (by kernel_rfl) (by kernel_rfl) ?_
  repeat (go_big_quiet_step ((go_at_call 72; exact After.call _ (C73.out _))))
  refine wpQuiet_nil ?_
  rintro _ ⟨x, rfl⟩
  have hx := x.ok
  obtain ⟨w2, hw2⟩ : ∃ w2, w2 = x.val := ⟨_, rfl⟩
  rw [← hw2] at hx ⊢
  have H2 := Lib.hid (H.out.below hx)
  have O2 := Lib.hid (show Only g w w2 from Only.of_below hx)
  clear hw2 x hx r0 r1 hne c0 c1 c2 f1 f2 C73
  obtain ⟨c0, c1, c2, f1, f2⟩ := H2.out.cells
  have no : mkB s a e = false → mkA s a e = a ∧ mkE s a e = e := fun hb => by unfold mkA mkE; rw [hb]; exact ⟨rfl, rfl⟩
  have NO := Lib.hid no
  clear no
  cases o
  · have EB := Lib.hid (show mkB s a e = false from by rw [EM.out]; rfl)
    go_wp2_with fail
    go_ret
    exact ⟨ret_b EB.out.symm, by rw [(NO.out EB.out).1, (NO.out EB.out).2]; exact H2.out, O2.out⟩
  · cases hn0 : (n == 0)
    · have q0 : (n != 0) = true := by simpa using hn0
      have EB := Lib.hid (show mkB s a e = false from by rw [EM.out, hn0]; rfl)
      clear hn0
      go_wp2_with fail
      go_ret
      exact ⟨ret_b EB.out.symm, by rw [(NO.out EB.out).1, (NO.out EB.out).2]; exact H2.out, O2.out⟩
    · have q0 : (n != 0) = false := by simpa using hn0
      cases he0 : (e == 0)
      · have q1 : (e != 0) = true := by simpa using he0
        have EB := Lib.hid (show mkB s a e = false from by rw [EM.out, hn0, he0]; rfl)
        clear hn0 he0
        go_wp2_with fail
        go_ret
        exact ⟨ret_b EB.out.symm, by rw [(NO.out EB.out).1, (NO.out EB.out).2]; exact H2.out, O2.out⟩
      · have q1 : (e != 0) = false := by simpa using he0
        have EB := Lib.hid (show mkB s a e = true from by rw [EM.out, hn0, he0]; rfl)
        have v2 : IntKind.i64.wrap (a + 1) = a + 1 := IntWalk.i64_in _ (by omega)
        have ha2 := ha1 rfl
        clear hn0 he0
        have H3 := Lib.hid (H2.out.setAt (a + 1))
        have O3 := Lib.hid (O2.out.set (o := 1) (.int .i64 (a + 1)))
        obtain ⟨w3, hw3⟩ : ∃ w3, w3 = w2.setCell ⟨g, 1, none⟩ (.int .i64 (a + 1)) := ⟨_, rfl⟩
        rw [← hw3] at H3 O3
        go_upto_region 5 with (fail)
        rw [← hw3]
        have NUM := Lib.hid (number_rd g s (a + 1) e 1 1 1 4 w3 H3.out hs (by omega) (by omega))
        have EE := Lib.hid (show mkA s a e = okA (numE s (a + 1) e 1 1 1 4) (a + 1 + 1) (a + 1) ∧ mkE s a e = numE s (a + 1) e 1 1 1 4 from by unfold mkA mkE; rw [EB.out]; exact ⟨rfl, rfl⟩)
        generalize numE s (a + 1) e 1 1 1 4 = X at NUM EE
        clear hw3 c0 c1 c2 f1 f2
        go_wp2_with fail
        refine NUM.out.mono ?_
        rintro x w4 ⟨rfl, h4, o4⟩
        have H4 := Lib.hid h4
        have O4 := Lib.hid (O3.out.trans o4)
        clear h4 o4
        go_wp2_with fail
        go_ret
        exact ⟨ret_b EB.out.symm, by rw [EE.out.1, EE.out.2]; exact H4.out, O4.out⟩

end Go.Proofs.YtfobdefncbaooaaDoor

namespace Go.Proofs.YtfobdefncbaooaaDoor
open Go.RowKit

/-- Where, and the error. -/
structure St where
  a : Nat
  e : Int

/-- The reader is in that state, in a text. -/
def RdS (w : World) (g : Nat) (s : ByteArray) (z : St) : Prop := RdAt w g s z.a z.e ∧ z.a ≤ s.size
/-- What a call of the reader gives: a value, the next state. -/
def StGives (g : Nat) (s : ByteArray) (w : World) (v : Value) (z : St) (x : Ending) (w' : World) : Prop := x = .returned v ∧ RdS w' g s z ∧ Only g w w'

/-- Behind a number of k bytes. -/
def numSt (s : ByteArray) (k : Nat) (lo hi out : Int) (z : St) : St := ⟨if numE s z.a z.e k lo hi out = 0 then z.a + k else z.a, numE s z.a z.e k lo hi out⟩
def numV (s : ByteArray) (k : Nat) (lo hi out : Int) (z : St) : Int := okN (numE s z.a z.e k lo hi out) (Vi.getN s z.a k)
/-- Behind a count. -/
def cntSt (s : ByteArray) (lo hi out : Int) (z : St) : St := ⟨if cntE s z.a z.e lo hi out = 0 then (Vi.gotT s z.a).toNat else z.a, cntE s z.a z.e lo hi out⟩
def cntV (s : ByteArray) (lo hi out : Int) (z : St) : Int := okN (cntE s z.a z.e lo hi out) (Vi.gotN s z.a)
/-- Behind n bytes. -/
def bytSt (s : ByteArray) (n : Nat) (z : St) : St := ⟨if bytE s z.a z.e n = 0 then z.a + n else z.a, bytE s z.a z.e n⟩
def bytV (s : ByteArray) (n : Nat) (z : St) : ByteArray := bytS s z.a z.e n
/-- Behind the end. -/
def endSt (s : ByteArray) (z : St) : St := ⟨z.a, endE s z.a z.e⟩

theorem refD_no {e x : Int} (hx : ¬ x = 0) : ¬ refD e x = 0 := by unfold refD; split <;> omega
theorem refD_old {e x : Int} (h : ¬ e = 0) : refD e x = e := if_neg h
theorem spanE_no {n lo hi out e : Int} (h : ¬ e = 0) : ¬ spanE n lo hi out e = 0 := by
  unfold spanE
  split
  · rw [refD_old h]; exact h
  · exact h
theorem spanE_in {n lo hi out e : Int} (ho : ¬ out = 0) (h : spanE n lo hi out e = 0) : lo ≤ n ∧ n ≤ hi := by
  unfold spanE at h
  split at h
  · exact absurd h (refD_no ho)
  · omega
theorem numE_ok {s : ByteArray} {a e k lo hi out : Int} (h : numE s a e k lo hi out = 0) : Vi.okB s a k = true := by
  cases ho : Vi.okB s a k
  · unfold numE at h
    rw [ho] at h
    exact absurd h (spanE_no (refD_no (by omega)))
  · rfl
theorem cntE_ok {s : ByteArray} {a e lo hi out : Int} (h : cntE s a e lo hi out = 0) : Vi.gotE s a = 0 := by
  by_cases hg : Vi.gotE s a = 0
  · exact hg
  · unfold cntE at h
    exact absurd h (spanE_no (refD_no hg))
theorem okB_le {s : ByteArray} {a k : Int} (h : Vi.okB s a k = true) : a + k ≤ s.size := by
  unfold Vi.okB at h
  simp at h
  omega
theorem gotT_le {s : ByteArray} {a : Nat} (ha : a ≤ s.size) (h : Vi.gotE s a = 0) : 0 ≤ Vi.gotT s a ∧ Vi.gotT s a ≤ s.size := by
  have hw := Vi.wid_nn (Vi.fst s a)
  have e : Vi.gotT s a = a + 1 + Vi.wid (Vi.fst s a) := by unfold Vi.gotT; rw [if_pos h]
  rw [e]
  refine ⟨by omega, ?_⟩
  by_cases hl : (s.size : Int) < a + 1 + Vi.wid (Vi.fst s a)
  · exfalso
    by_cases hz : (a : Int) = s.size
    · rw [Vi.gotE_end hz] at h; omega
    · rw [Vi.gotE_short (by omega) (by omega) hl] at h; omega
  · omega

theorem num_st (g : Nat) (s : ByteArray) (z : St) (k : Nat) (lo hi out : Int) (w : World) (h : RdS w g s z) (hs : s.size ≤ 140737488355328) (hk : k ≤ 8) :
    Calls Tryd.prog 71 #[.pointer (some ⟨g, 0, none⟩), .int .i64 (k : Int), .agg #[.int .u64 lo, .int .u64 hi, .int .i64 out]] w (StGives g s w (.int .u64 (numV s k lo hi out z)) (numSt s k lo hi out z)) := by
  refine (number_rd g s z.a z.e k lo hi out w h.1 hs (by have := h.2; omega) (by omega)).mono ?_
  rintro x w' ⟨rfl, h1, h2⟩
  refine ⟨rfl, ?_, h2⟩
  unfold RdS numSt
  by_cases hX : numE s z.a z.e k lo hi out = 0
  · rw [okA_yes hX] at h1
    simp only [if_pos hX]
    have := okB_le (numE_ok hX)
    exact ⟨by rw [Int.natCast_add]; exact h1, by omega⟩
  · rw [okA_no hX] at h1
    simp only [if_neg hX]
    exact ⟨h1, h.2⟩
theorem cntV_in {s : ByteArray} {lo hi out : Int} {z : St} (ho : ¬ out = 0) (hl : 0 ≤ lo) (hh : 0 ≤ hi) : 0 ≤ cntV s lo hi out z ∧ cntV s lo hi out z ≤ hi := by
  unfold cntV
  by_cases hX : cntE s z.a z.e lo hi out = 0
  · rw [okN_yes hX]
    have := spanE_in ho hX
    omega
  · rw [okN_no hX]
    omega
theorem cnt_st (g : Nat) (s : ByteArray) (z : St) (lo hi out : Int) (w : World) (h : RdS w g s z) (hs : s.size ≤ 140737488355328) (ho : ¬ out = 0) (hl : 0 ≤ lo) (hh : 0 ≤ hi ∧ hi ≤ 1000000) :
    Calls Tryd.prog 73 #[.pointer (some ⟨g, 0, none⟩), .agg #[.int .u64 lo, .int .u64 hi, .int .i64 out]] w (StGives g s w (.int .i64 (cntV s lo hi out z)) (cntSt s lo hi out z)) := by
  have hv := cntV_in (s := s) (z := z) ho hl hh.1
  refine (count_rd g s z.a z.e lo hi out w h.1 hs (IntWalk.i64_in _ (by unfold cntV at hv; omega))).mono ?_
  rintro x w' ⟨rfl, h1, h2⟩
  refine ⟨rfl, ?_, h2⟩
  unfold RdS cntSt
  by_cases hX : cntE s z.a z.e lo hi out = 0
  · rw [okA_yes hX] at h1
    simp only [if_pos hX]
    have := gotT_le h.2 (cntE_ok hX)
    refine ⟨?_, by omega⟩
    rw [Int.toNat_of_nonneg this.1]
    exact h1
  · rw [okA_no hX] at h1
    simp only [if_neg hX]
    exact ⟨h1, h.2⟩
theorem byt_st (g : Nat) (s : ByteArray) (z : St) (n : Nat) (w : World) (h : RdS w g s z) (hs : s.size ≤ 140737488355328) (hn : n ≤ 1000000) :
    Calls Tryd.prog 74 #[.pointer (some ⟨g, 0, none⟩), .int .i64 (n : Int)] w (StGives g s w (.string (bytV s n z)) (bytSt s n z)) := by
  refine (bytes_rd g s z.a n z.e w h.1 hs h.2 (by omega)).mono ?_
  rintro x w' ⟨rfl, h1, h2⟩
  refine ⟨rfl, ?_, h2⟩
  unfold RdS bytSt
  by_cases hX : bytE s z.a z.e n = 0
  · rw [okA_yes hX] at h1
    simp only [if_pos hX]
    refine ⟨h1, ?_⟩
    unfold bytE at hX
    split at hX
    · exact absurd hX (refD_no (by omega))
    · omega
  · rw [okA_no hX] at h1
    simp only [if_neg hX]
    exact ⟨h1, h.2⟩
theorem end_st (g : Nat) (s : ByteArray) (z : St) (w : World) (h : RdS w g s z) : Calls Tryd.prog 53 #[.pointer (some ⟨g, 0, none⟩)] w (StGives g s w (.tuple #[]) (endSt s z)) :=
  (end_rd g s z.a z.e w h.1).mono fun _ _ ⟨h0, h1, h2⟩ => ⟨h0, ⟨h1, h.2⟩, h2⟩

end Go.Proofs.YtfobdefncbaooaaDoor

namespace Go.Proofs.YtfobdefncbaooaaDoor
open Go.RowKit

/-- k steps, one behind the other. -/
def iter (f : St → St) : Nat → St → St
  | 0, z => z
  | k + 1, z => f (iter f k z)
theorem Only.new {g b o : Nat} {u v : World} (h : Only g u v) (hb : u.heap.size ≤ b) (x : Value) : Only g u (v.setCell ⟨b, o, none⟩ x) := by
  have hB := (Below.refl 0 v).setCell (p := ⟨b, o, none⟩) (Nat.zero_le _) x
  exact ⟨hB.os.trans h.os, hB.tape.trans h.tape, hB.output.trans h.output, Nat.le_trans h.size hB.size, fun c hc hg => (Below.heap_setCell _ _ _ _ (by show c ≠ b; omega)).trans (h.block c hc hg)⟩
theorem RdS.new {w : World} {g b o : Nat} {s : ByteArray} {z : St} (h : RdS w g s z) (hb : g ≠ b) (x : Value) : RdS (w.setCell ⟨b, o, none⟩ x) g s z := ⟨(Below.heap_setCell _ _ _ _ hb).trans h.1, h.2⟩
theorem RdS.below {w w' : World} {g : Nat} {s : ByteArray} {z : St} (h : RdS w g s z) (hb : Below w.heap.size w w') : RdS w' g s z := ⟨h.1.below hb, h.2⟩

/-- A text with its length. -/
def itN (s : ByteArray) (z : St) : Nat := (cntV s 0 80 20 z).toNat
def itV (s : ByteArray) (z : St) : ByteArray := bytV s (itN s z) (cntSt s 0 80 20 z)
def itSt (s : ByteArray) (z : St) : St := bytSt s (itN s z) (cntSt s 0 80 20 z)
/-- A Witness: how many texts, these, the state behind them. -/
def wiN (s : ByteArray) (z : St) : Nat := (cntV s 0 4 6 z).toNat
def wiV (s : ByteArray) (z : St) (j : Nat) : ByteArray := itV s (iter (itSt s) j (cntSt s 0 4 6 z))
def wiSt (s : ByteArray) (z : St) : St := iter (itSt s) (wiN s z) (cntSt s 0 4 6 z)

theorem make_strs (n : Nat) (hn : n ≤ 512) (W : World) : (Instr.makeSlice 45 (.int .i64 (n : Int)) (.int .i64 (n : Int))).run Tryd.prog W = .ok (.slice (some ⟨W.heap.size, 0, none⟩) n n) (W.alloc (.cells (madeCells #[Value.string ⟨#[]⟩] n) 9)) := by
  obtain ⟨i0, hi, hz0, hz1, hz2⟩ := info_parts info9
  have hr := run_make (P := Tryd.prog) W 45 9 i0 _ Tryd.underlying45 hi hz0 .i64 .i64 (n : Int) (n : Int) (by omega) (Int.le_refl _) (by rw [hz2]; omega) (by omega)
  rw [hz1, show (Value.string ⟨#[]⟩).cells = #[Value.string ⟨#[]⟩] from rfl] at hr
  simpa using hr

/-- What a row of texts holds behind k of them. -/
def wiF (s : ByteArray) (z : St) (k : Nat) : Nat → Value := fun i => .string (if i < k then wiV s z i else ⟨#[]⟩)
theorem wi_step {w : World} {b n : Nat} {s : ByteArray} {z : St} {k : Nat} (h : w.rowIs b 9 n (wiF s z k)) : (w.setCell ⟨b, k, none⟩ (.string (wiV s z k))).rowIs b 9 n (wiF s z (k + 1)) := by
  refine (h.set k (.string (wiV s z k))).congr fun i _ => ?_
  unfold wiF
  by_cases e : i = k
  · subst e
    rw [if_pos rfl, if_pos (by omega)]
  · rw [if_neg e]
    by_cases h2 : i < k
    · rw [if_pos h2, if_pos (by omega)]
    · rw [if_neg h2, if_neg (by omega)]

set_option maxHeartbeats 2000000 in
set_option maxRecDepth 100000 in
theorem witness_rd (g : Nat) (s : ByteArray) (z : St) (w : World) (h : RdS w g s z) (hs : s.size ≤ 140737488355328) :
    Calls Tryd.prog 75 #[.pointer (some ⟨g, 0, none⟩)] w fun x w' => ∃ b, x = .returned (.slice (some ⟨b, 0, none⟩) (wiN s z) (wiN s z)) ∧ w.heap.size ≤ b ∧ w'.rowIs b 9 (wiN s z) (wiF s z (wiN s z)) ∧ RdS w' g s (wiSt s z) ∧ Only g w w' := by
  have hv := cntV_in (s := s) (z := z) (lo := 0) (hi := 4) (out := 6) (by omega) (by omega) (by omega)
  obtain ⟨n, hn⟩ : ∃ n, wiN s z = n := ⟨_, rfl⟩
  have hn4 : n ≤ 4 := by rw [← hn]; unfold wiN; omega
  have EN := Lib.hid hn
  have C0 := Lib.hid (cnt_st g s z 0 4 6 w h hs (by omega) (by omega) (by omega))
  have hcv : cntV s 0 4 6 z = (n : Int) := by rw [← hn]; unfold wiN; omega
  rw [hcv] at C0
  have hg := h.1.lt
  have hmk := make_strs n (by omega)
  have HSZ := Lib.hid hs
  rw [hn]
  clear h hv hn hcv hs
  go_enter Tryd.func75, Tryd.ntmps75
  go_wp2_with fail
  refine C0.out.mono ?_
  rintro x w1 ⟨rfl, h1, o1⟩
  obtain ⟨w2, hw2⟩ : ∃ w2, w2 = w1.alloc (.cells (madeCells #[Value.string ⟨#[]⟩] n) 9) := ⟨_, rfl⟩
  have hb2 : Below w1.heap.size w1 w2 := by rw [hw2]; exact (Below.refl _ _).alloc (Nat.le_refl _) _
  have H2 := Lib.hid (h1.below hb2)
  have O2 := Lib.hid (o1.trans (Only.of_below hb2))
  have R2 := Lib.hid (show w2.rowIs w1.heap.size 9 n (wiF s z 0) from by rw [hw2]; exact (World.rowIs_made w1 _ n 9).congr fun i _ => by unfold wiF; rw [if_neg (by omega)])
  have hne : g ≠ w1.heap.size := by have := o1.size; omega
  have hle : w.heap.size ≤ w1.heap.size := o1.size
  have HW2 := Lib.hid hw2
  clear h1 o1 hb2 hw2
  go_upto_region 2 with (fail)
  rw [show World.alloc w1 _ = w2 from HW2.out.symm]
  clear hmk
  go_wp2_with fail
  go_loopg [4, 11] n (fun gg _ c wr => ∃ k : Nat, k ≤ n ∧ n - k ≤ gg ∧ c = .int .i64 k ∧ Hid (wr.rowIs w1.heap.size 9 n (wiF s z k)) ∧ Hid (RdS wr g s (iter (itSt s) k (cntSt s 0 4 6 z))) ∧ Hid (Only g w wr))
  case atStart => exact ⟨0, Nat.zero_le _, by omega, rfl, R2, H2, O2⟩
  case round =>
    clear R2 H2 O2
    obtain ⟨k, hk, hgk, rfl, RK, HK, OK⟩ := hrel
    by_cases hlt : k < n
    · have k1 : (k : Int) < (n : Int) := by omega
      have k2 : decide (k < n) = true := decide_eq_true hlt
      obtain ⟨y, hy⟩ : ∃ y, iter (itSt s) k (cntSt s 0 4 6 z) = y := ⟨_, rfl⟩
      have EY := Lib.hid (show wiV s z k = itV s y ∧ iter (itSt s) (k + 1) (cntSt s 0 4 6 z) = itSt s y from ⟨by unfold wiV; rw [hy], by show itSt s (iter _ _ _) = _; rw [hy]⟩)
      rw [hy] at HK
      have hv := cntV_in (s := s) (z := y) (lo := 0) (hi := 80) (out := 20) (by omega) (by omega) (by omega)
      obtain ⟨m, hm⟩ : ∃ m, itN s y = m := ⟨_, rfl⟩
      have hcv : cntV s 0 80 20 y = (m : Int) := by rw [← hm]; unfold itN; omega
      have hm80 : m ≤ 80 := by omega
      have C1 := Lib.hid (cnt_st g s y 0 80 20 wr HK.out HSZ.out (by omega) (by omega) (by omega))
      rw [hcv] at C1
      have EM := Lib.hid (show itV s y = bytV s m (cntSt s 0 80 20 y) ∧ itSt s y = bytSt s m (cntSt s 0 80 20 y) from ⟨by unfold itV; rw [hm], by unfold itSt; rw [hm]⟩)
      clear hy hv hm hcv
      go_wp2_with fail
      refine C1.out.mono ?_
      rintro x w3 ⟨rfl, h3, o3⟩
      have H3 := Lib.hid h3
      have O3 := Lib.hid (OK.out.trans o3)
      have R3 := Lib.hid (RK.out.of_block (o3.block _ RK.out.lt (Ne.symm hne)))
      clear h3 o3
      go_wp2_with fail
      refine (byt_st g s _ m w3 H3.out HSZ.out (by omega)).mono ?_
      rintro x w4 ⟨rfl, h4, o4⟩
      have H4 := Lib.hid h4
      have O4 := Lib.hid (O3.out.trans o4)
      have R4 := Lib.hid (R3.out.of_block (o4.block _ R3.out.lt (Ne.symm hne)))
      clear h4 o4
      have c4 := R4.out.cell hlt
      have f4 := R4.out.frozen k
      rw [← EM.out.1] at *
      go_wp2_with fail
      go_roundg (n - (k + 1))
      case measure => omega
      case rel =>
        refine ⟨k + 1, by omega, by omega, by go_num, (show Hid _ from ?_), (show Hid _ from ?_), O4.out.new hle _⟩
        · rw [← EY.out.1]
          exact wi_step R4.out
        · rw [EY.out.2, EM.out.2]
          exact H4.out.new hne _
    · have k1 : ¬ (k : Int) < (n : Int) := by omega
      obtain rfl : k = n := by omega
      go_wp2_with fail
      go_ret
      exact ⟨_, rfl, hle, RK.out, by unfold wiSt; rw [EN.out]; exact HK.out, OK.out⟩

end Go.Proofs.YtfobdefncbaooaaDoor

namespace Go.Proofs.YtfobdefncbaooaaDoor
open Go.RowKit

theorem numV_in {s : ByteArray} {k : Nat} {lo hi out : Int} {z : St} (ho : ¬ out = 0) (hl : 0 ≤ lo) (hh : 0 ≤ hi) : 0 ≤ numV s k lo hi out z ∧ numV s k lo hi out z ≤ hi := by
  unfold numV
  by_cases hX : numE s z.a z.e k lo hi out = 0
  · rw [okN_yes hX]
    have := spanE_in ho hX
    omega
  · rw [okN_no hX]
    omega

/-- An Out. -/
def ouA (s : ByteArray) (z : St) : St := numSt s 8 0 2100000000000000 3 z
def ouN (s : ByteArray) (z : St) : Nat := (cntV s 0 40 20 (ouA s z)).toNat
def ouV (s : ByteArray) (z : St) : OutD := ⟨numV s 8 0 2100000000000000 3 z, bytV s (ouN s z) (cntSt s 0 40 20 (ouA s z))⟩
def ouSt (s : ByteArray) (z : St) : St := bytSt s (ouN s z) (cntSt s 0 40 20 (ouA s z))
/-- The Outs: how many, these, the state behind them. -/
def osN (s : ByteArray) (z : St) : Nat := (cntV s 1 256 6 z).toNat
def osV (s : ByteArray) (z : St) (j : Nat) : OutD := ouV s (iter (ouSt s) j (cntSt s 1 256 6 z))
def osSt (s : ByteArray) (z : St) : St := iter (ouSt s) (osN s z) (cntSt s 1 256 6 z)

/-- n empty outputs, made. -/
def mkO (n : Nat) : Array Value := madeCells (Value.agg #[.int .i64 0, .string ⟨#[]⟩]).cells (n * 2)
theorem make_outs (n : Nat) (hn : n ≤ 512) (W : World) : (Instr.makeSlice 24 (.int .i64 (n : Int)) (.int .i64 (n : Int))).run Tryd.prog W = .ok (.slice (some ⟨W.heap.size, 0, none⟩) n n) (W.alloc (.cells (mkO n) 50)) := by
  obtain ⟨i0, hi, hz0, hz1, hz2⟩ := info_parts info52
  have hr := run_make (P := Tryd.prog) W 24 50 i0 _ Tryd.underlying24 hi hz0 .i64 .i64 (n : Int) (n : Int) (by omega) (Int.le_refl _) (by rw [hz2]; omega) (by omega)
  rw [hz1] at hr
  simpa [mkO] using hr

/-- What a row of outputs holds behind k of them. -/
def osF (s : ByteArray) (z : St) (k : Nat) : Nat → Value := fun i => if i % 2 = 0 then .int .i64 (if i / 2 < k then (osV s z (i / 2)).val else 0) else .string (if i / 2 < k then (osV s z (i / 2)).scr else ⟨#[]⟩)
theorem mkO_row (w : World) (n : Nat) (s : ByteArray) (z : St) : (w.alloc (.cells (mkO n) 50)).rowIs w.heap.size 50 (n * 2) (osF s z 0) := by
  have hsz : (mkO n).size = n * 2 := size_madeCells _ _
  have h := World.rowIs_alloc w (mkO n) 50 (osF s z 0) (fun i hi => by
    rw [hsz] at hi
    unfold osF
    rw [if_neg (show ¬ i / 2 < 0 by omega), if_neg (show ¬ i / 2 < 0 by omega)]
    rcases Nat.mod_two_eq_zero_or_one i with e | e
    · rw [if_pos e]; simp [mkO, madeCells, Value.cells, hi, e]
    · rw [if_neg (by omega)]; simp [mkO, madeCells, Value.cells, hi, e])
  rw [hsz] at h
  exact h
theorem os_step {w : World} {b n : Nat} {s : ByteArray} {z : St} {k : Nat} (h : w.rowIs b 50 n (fun i => if i = k * 2 then .int .i64 (osV s z k).val else osF s z k i)) : (w.setCell ⟨b, k * 2 + 1, none⟩ (.string (osV s z k).scr)).rowIs b 50 n (osF s z (k + 1)) := by
  refine (h.set (k * 2 + 1) (.string (osV s z k).scr)).congr fun i _ => ?_
  by_cases e1 : i = k * 2 + 1
  · subst e1
    unfold osF
    rw [if_pos rfl, if_neg (by omega), if_pos (by omega), show (k * 2 + 1) / 2 = k from by omega]
  · rw [if_neg e1]
    by_cases e0 : i = k * 2
    · subst e0
      unfold osF
      rw [if_pos rfl, if_pos (by omega), if_pos (by omega), show k * 2 / 2 = k from by omega]
    · rw [if_neg e0]
      unfold osF
      by_cases hl : i / 2 < k
      · rw [if_pos hl, if_pos hl, if_pos (show i / 2 < k + 1 by omega), if_pos (show i / 2 < k + 1 by omega)]
      · rw [if_neg hl, if_neg hl, if_neg (show ¬ i / 2 < k + 1 by omega), if_neg (show ¬ i / 2 < k + 1 by omega)]

set_option maxHeartbeats 2000000 in
set_option maxRecDepth 100000 in
theorem outs_rd (g : Nat) (s : ByteArray) (z : St) (w : World) (h : RdS w g s z) (hs : s.size ≤ 140737488355328) :
    Calls Tryd.prog 51 #[.pointer (some ⟨g, 0, none⟩)] w fun x w' => ∃ b, x = .returned (.slice (some ⟨b, 0, none⟩) (osN s z) (osN s z)) ∧ w.heap.size ≤ b ∧ w'.rowIs b 50 (osN s z * 2) (osF s z (osN s z)) ∧ RdS w' g s (osSt s z) ∧ Only g w w' := by
  have hv := cntV_in (s := s) (z := z) (lo := 1) (hi := 256) (out := 6) (by omega) (by omega) (by omega)
  obtain ⟨n, hn⟩ : ∃ n, osN s z = n := ⟨_, rfl⟩
  have hn4 : n ≤ 256 := by rw [← hn]; unfold osN; omega
  have EN := Lib.hid hn
  have C0 := Lib.hid (cnt_st g s z 1 256 6 w h hs (by omega) (by omega) (by omega))
  have hcv : cntV s 1 256 6 z = (n : Int) := by rw [← hn]; unfold osN; omega
  rw [hcv] at C0
  have hg := h.1.lt
  have hmk := make_outs n (by omega)
  have HSZ := Lib.hid hs
  rw [hn]
  clear h hv hn hcv hs
  go_enter Tryd.func51, Tryd.ntmps51
  go_wp2_with fail
  refine C0.out.mono ?_
  rintro x w1 ⟨rfl, h1, o1⟩
  obtain ⟨w2, hw2⟩ : ∃ w2, w2 = w1.alloc (.cells (mkO n) 50) := ⟨_, rfl⟩
  have hb2 : Below w1.heap.size w1 w2 := by rw [hw2]; exact (Below.refl _ _).alloc (Nat.le_refl _) _
  have H2 := Lib.hid (h1.below hb2)
  have O2 := Lib.hid (o1.trans (Only.of_below hb2))
  have R2 := Lib.hid (show w2.rowIs w1.heap.size 50 (n * 2) (osF s z 0) from by rw [hw2]; exact mkO_row w1 n s z)
  have hne : g ≠ w1.heap.size := by have := o1.size; omega
  have hle : w.heap.size ≤ w1.heap.size := o1.size
  have HW2 := Lib.hid hw2
  clear h1 o1 hb2 hw2
  go_upto_region 2 with (fail)
  rw [show World.alloc w1 _ = w2 from HW2.out.symm]
  clear hmk
  go_wp2_with fail
  go_loopg [4, 11] n (fun gg _ c wr => ∃ k : Nat, k ≤ n ∧ n - k ≤ gg ∧ c = .int .i64 k ∧ Hid (wr.rowIs w1.heap.size 50 (n * 2) (osF s z k)) ∧ Hid (RdS wr g s (iter (ouSt s) k (cntSt s 1 256 6 z))) ∧ Hid (Only g w wr))
  case atStart => exact ⟨0, Nat.zero_le _, by omega, rfl, R2, H2, O2⟩
  case round =>
    clear R2 H2 O2
    obtain ⟨k, hk, hgk, rfl, RK, HK, OK⟩ := hrel
    by_cases hlt : k < n
    · have k1 : (k : Int) < (n : Int) := by omega
      have k2 : decide (k < n) = true := decide_eq_true hlt
      obtain ⟨y, hy⟩ : ∃ y, iter (ouSt s) k (cntSt s 1 256 6 z) = y := ⟨_, rfl⟩
      have EY := Lib.hid (show osV s z k = ouV s y ∧ iter (ouSt s) (k + 1) (cntSt s 1 256 6 z) = ouSt s y from ⟨by unfold osV; rw [hy], by show ouSt s (iter _ _ _) = _; rw [hy]⟩)
      rw [hy] at HK
      have hq := numV_in (s := s) (k := 8) (z := y) (lo := 0) (hi := 2100000000000000) (out := 3) (by omega) (by omega) (by omega)
      have hv := cntV_in (s := s) (z := ouA s y) (lo := 0) (hi := 40) (out := 20) (by omega) (by omega) (by omega)
      obtain ⟨m, hm⟩ : ∃ m, ouN s y = m := ⟨_, rfl⟩
      have hcv : cntV s 0 40 20 (ouA s y) = (m : Int) := by rw [← hm]; unfold ouN; omega
      have hm80 : m ≤ 40 := by omega
      have N1 := Lib.hid (show Calls Tryd.prog 71 #[.pointer (some ⟨g, 0, none⟩), .int .i64 8, .agg #[.int .u64 0, .int .u64 2100000000000000, .int .i64 3]] wr (StGives g s wr (.int .u64 (numV s 8 0 2100000000000000 3 y)) (ouA s y)) from num_st g s y 8 0 2100000000000000 3 wr HK.out HSZ.out (by omega))
      have C1 := Lib.hid (fun (W : World) (hW : RdS W g s (ouA s y)) => cnt_st g s (ouA s y) 0 40 20 W hW HSZ.out (by omega) (by omega) (by omega))
      rw [hcv] at C1
      obtain ⟨q, hqe⟩ : ∃ q, numV s 8 0 2100000000000000 3 y = q := ⟨_, rfl⟩
      have EM := Lib.hid (show ouV s y = ⟨q, bytV s m (cntSt s 0 40 20 (ouA s y))⟩ ∧ ouSt s y = bytSt s m (cntSt s 0 40 20 (ouA s y)) from ⟨by unfold ouV; rw [hm, hqe], by unfold ouSt; rw [hm]⟩)
      rw [hqe] at N1 hq
      have vq : IntKind.i64.wrap q = q := IntWalk.i64_in _ (by omega)
      clear hy hv hm hcv hqe
      have hb0 : k * 2 < n * 2 := by omega
      have hb1 : k * 2 + 1 < n * 2 := by omega
      go_wp2_with fail
      refine N1.out.mono ?_
      rintro x w3 ⟨rfl, h3, o3⟩
      have H3 := Lib.hid h3
      have O3 := Lib.hid (OK.out.trans o3)
      have R3 := Lib.hid (RK.out.of_block (o3.block _ RK.out.lt (Ne.symm hne)))
      clear h3 o3
      have c3 := R3.out.cell hb0
      have f3 := R3.out.frozen (k * 2)
      obtain ⟨w4, hw4⟩ : ∃ w4, w4 = w3.setCell ⟨w1.heap.size, k * 2, none⟩ (.int .i64 q) := ⟨_, rfl⟩
      have H4 := Lib.hid (show RdS w4 g s (ouA s y) from by rw [hw4]; exact H3.out.new hne _)
      have O4 := Lib.hid (show Only g w w4 from by rw [hw4]; exact O3.out.new hle _)
      have R4 := Lib.hid (show w4.rowIs w1.heap.size 50 (n * 2) (fun i => if i = k * 2 then .int .i64 (osV s z k).val else osF s z k i) from by rw [hw4, EY.out.1, EM.out.1]; exact R3.out.set _ _)
      go_upto_region 6 with (fail)
      rw [← hw4]
      clear hw4 c3 f3
      go_wp2_with fail
      refine (C1.out w4 H4.out).mono ?_
      rintro x w5 ⟨rfl, h5, o5⟩
      have H5 := Lib.hid h5
      have O5 := Lib.hid (O4.out.trans o5)
      have R5 := Lib.hid (R4.out.of_block (o5.block _ R4.out.lt (Ne.symm hne)))
      clear h5 o5
      go_wp2_with fail
      refine (byt_st g s _ m w5 H5.out HSZ.out (by omega)).mono ?_
      rintro x w6 ⟨rfl, h6, o6⟩
      have H6 := Lib.hid h6
      have O6 := Lib.hid (O5.out.trans o6)
      have R6 := Lib.hid (R5.out.of_block (o6.block _ R5.out.lt (Ne.symm hne)))
      clear h6 o6
      obtain ⟨u6, c6⟩ : ∃ u, w6.cell? ⟨w1.heap.size, k * 2 + 1, none⟩ = some u := ⟨_, R6.out.cell hb1⟩
      have f6 := R6.out.frozen (k * 2 + 1)
      obtain ⟨r, hr⟩ : ∃ r, bytV s m (cntSt s 0 40 20 (ouA s y)) = r := ⟨_, rfl⟩
      have ER := Lib.hid (show (osV s z k).scr = r from by rw [EY.out.1, EM.out.1]; exact hr)
      rw [hr]
      clear hr
      go_wp2_with fail
      go_roundg (n - (k + 1))
      case measure => omega
      case rel =>
        refine ⟨k + 1, by omega, by omega, by go_num, (show Hid _ from ?_), (show Hid _ from ?_), O6.out.new hle _⟩
        · rw [← ER.out]
          exact os_step R6.out
        · rw [EY.out.2, EM.out.2]
          exact H6.out.new hne _
    · have k1 : ¬ (k : Int) < (n : Int) := by omega
      obtain rfl : k = n := by omega
      go_wp2_with fail
      go_ret
      exact ⟨_, rfl, hle, RK.out, by unfold osSt; rw [EN.out]; exact HK.out, OK.out⟩

end Go.Proofs.YtfobdefncbaooaaDoor

namespace Go.Proofs.YtfobdefncbaooaaDoor
open Go.RowKit

theorem getN_four (s : ByteArray) (a : Int) : 0 ≤ Vi.getN s a 4 ∧ Vi.getN s a 4 ≤ 4294967295 := by
  unfold Vi.getN
  split
  · have h := Vi.num_bd (Vi.part s a.toNat (4 : Int).toNat) (Vi.part_bd s a.toNat (4 : Int).toNat)
    have hl : (Vi.part s a.toNat (4 : Int).toNat).length ≤ 4 := by
      unfold Vi.part
      rw [List.length_take]
      exact Nat.min_le_left _ _
    have hp : (256 : Int) ^ (Vi.part s a.toNat (4 : Int).toNat).length ≤ 256 ^ 4 := by
      rcases (show (Vi.part s a.toNat (4 : Int).toNat).length = 0 ∨ (Vi.part s a.toNat (4 : Int).toNat).length = 1 ∨ (Vi.part s a.toNat (4 : Int).toNat).length = 2 ∨ (Vi.part s a.toNat (4 : Int).toNat).length = 3 ∨ (Vi.part s a.toNat (4 : Int).toNat).length = 4 from by omega) with e | e | e | e | e <;> rw [e] <;> decide
    have h4 : (256 : Int) ^ 4 = 4294967296 := by decide
    omega
  · omega
/-- A word. -/
def wdV (s : ByteArray) (z : St) : Int := numV s 4 0 4294967295 0 z
def wdSt (s : ByteArray) (z : St) : St := numSt s 4 0 4294967295 0 z
theorem wdV_in (s : ByteArray) (z : St) : 0 ≤ wdV s z ∧ wdV s z ≤ 4294967295 := by
  have h := getN_four s z.a
  unfold wdV numV okN
  split
  · exact h
  · omega
theorem word_st (g : Nat) (s : ByteArray) (z : St) (w : World) (h : RdS w g s z) (hs : s.size ≤ 140737488355328) : Calls Tryd.prog 48 #[.pointer (some ⟨g, 0, none⟩)] w (StGives g s w (.int .u32 (wdV s z)) (wdSt s z)) := by
  have hv : 0 ≤ okN (numE s z.a z.e 4 0 4294967295 0) (Vi.getN s z.a 4) ∧ okN (numE s z.a z.e 4 0 4294967295 0) (Vi.getN s z.a 4) ≤ 4294967295 := wdV_in s z
  refine (word_rd g s z.a z.e w h.1 hs (by have := h.2; omega) (by rw [IntKind.wrap_u32]; exact Int.emod_eq_of_lt hv.1 (by omega))).mono ?_
  rintro x w' ⟨rfl, h1, h2⟩
  refine ⟨rfl, ?_, h2⟩
  unfold RdS wdSt numSt
  by_cases hX : numE s z.a z.e 4 0 4294967295 0 = 0
  · rw [okA_yes hX] at h1
    have := okB_le (numE_ok hX)
    show RdAt _ _ _ ((if numE s z.a z.e ((4 : Nat) : Int) 0 4294967295 0 = 0 then z.a + 4 else z.a : Nat) : Int) _ ∧ _
    rw [if_pos (show numE s z.a z.e ((4 : Nat) : Int) 0 4294967295 0 = 0 from hX)]
    exact ⟨h1, by show z.a + 4 ≤ s.size; omega⟩
  · rw [okA_no hX] at h1
    show RdAt _ _ _ ((if numE s z.a z.e ((4 : Nat) : Int) 0 4294967295 0 = 0 then z.a + 4 else z.a : Nat) : Int) _ ∧ _
    rw [if_neg (show ¬ numE s z.a z.e ((4 : Nat) : Int) 0 4294967295 0 = 0 from hX)]
    exact ⟨h1, h.2⟩

/-- An In, without its Witness. -/
def inA (s : ByteArray) (z : St) : St := bytSt s 32 z
def inB' (s : ByteArray) (z : St) : St := wdSt s (inA s z)
def inC (s : ByteArray) (z : St) : St := cntSt s 0 0 4 (inB' s z)
def inSt (s : ByteArray) (z : St) : St := wdSt s (inC s z)
def inV (s : ByteArray) (z : St) : InD := ⟨bytV s 32 z, wdV s (inA s z), wdV s (inC s z), []⟩
/-- The Ins. -/
def isN (s : ByteArray) (z : St) : Nat := (cntV s 1 256 6 z).toNat
def isV (s : ByteArray) (z : St) (j : Nat) : InD := inV s (iter (inSt s) j (cntSt s 1 256 6 z))
def isSt (s : ByteArray) (z : St) : St := iter (inSt s) (isN s z) (cntSt s 1 256 6 z)

def mkI (n : Nat) : Array Value := madeCells (Value.agg #[.string ⟨#[]⟩, .int .u32 0, .int .u32 0, .slice none 0 0]).cells (n * 4)
theorem make_ins (n : Nat) (hn : n ≤ 512) (W : World) : (Instr.makeSlice 23 (.int .i64 (n : Int)) (.int .i64 (n : Int))).run Tryd.prog W = .ok (.slice (some ⟨W.heap.size, 0, none⟩) n n) (W.alloc (.cells (mkI n) 47)) := by
  obtain ⟨i0, hi, hz0, hz1, hz2⟩ := info_parts info43
  have hr := run_make (P := Tryd.prog) W 23 47 i0 _ Tryd.underlying23 hi hz0 .i64 .i64 (n : Int) (n : Int) (by omega) (Int.le_refl _) (by rw [hz2]; omega) (by omega)
  rw [hz1] at hr
  simpa [mkI] using hr

/-- The four cells of an input without a Witness. -/
def inF (x : InD) (r : Nat) : Value := if r = 0 then .string x.id else if r = 1 then .int .u32 x.ix else if r = 2 then .int .u32 x.sq else .slice none 0 0
/-- What a row of inputs holds behind k of them. -/
def isF (s : ByteArray) (z : St) (k : Nat) : Nat → Value := fun i => inF (if i / 4 < k then isV s z (i / 4) else ⟨⟨#[]⟩, 0, 0, []⟩) (i % 4)
theorem mkI_row (w : World) (n : Nat) (s : ByteArray) (z : St) : (w.alloc (.cells (mkI n) 47)).rowIs w.heap.size 47 (n * 4) (isF s z 0) := by
  have hsz : (mkI n).size = n * 4 := size_madeCells _ _
  have h := World.rowIs_alloc w (mkI n) 47 (isF s z 0) (fun i hi => by
    rw [hsz] at hi
    unfold isF
    rw [if_neg (show ¬ i / 4 < 0 by omega)]
    unfold inF
    rcases (show i % 4 = 0 ∨ i % 4 = 1 ∨ i % 4 = 2 ∨ i % 4 = 3 from by omega) with e | e | e | e <;> rw [e] <;> simp [mkI, madeCells, Value.cells, hi, e])
  rw [hsz] at h
  exact h
/-- A row whose input k is being read: its first r cells are. -/
def isG (s : ByteArray) (z : St) (k r : Nat) : Nat → Value := fun i => if i / 4 = k ∧ i % 4 < r then inF (isV s z k) (i % 4) else isF s z k i
theorem isG_zero (s : ByteArray) (z : St) (k i : Nat) : isG s z k 0 i = isF s z k i := by unfold isG; rw [if_neg (by omega)]
theorem is_cell {w : World} {b n : Nat} {s : ByteArray} {z : St} {k r : Nat} (hr : r < 3) (h : w.rowIs b 47 n (isG s z k r)) : (w.setCell ⟨b, k * 4 + r, none⟩ (inF (isV s z k) r)).rowIs b 47 n (isG s z k (r + 1)) := by
  refine (h.set (k * 4 + r) _).congr fun i _ => ?_
  by_cases e : i = k * 4 + r
  · subst e
    unfold isG
    rw [if_pos rfl, if_pos (by omega), show (k * 4 + r) % 4 = r from by omega]
  · rw [if_neg e]
    unfold isG
    by_cases hc : i / 4 = k ∧ i % 4 < r
    · rw [if_pos hc, if_pos (by omega)]
    · rw [if_neg hc, if_neg (by omega)]
theorem is_done {w : World} {b n : Nat} {s : ByteArray} {z : St} {k : Nat} (h : w.rowIs b 47 n (isG s z k 3)) : w.rowIs b 47 n (isF s z (k + 1)) := by
  refine h.congr fun i _ => ?_
  unfold isG
  by_cases hc : i / 4 = k ∧ i % 4 < 3
  · rw [if_pos hc]
    unfold isF
    rw [if_pos (by omega), hc.1]
  · rw [if_neg hc]
    unfold isF
    by_cases hl : i / 4 < k
    · rw [if_pos hl, if_pos (by omega)]
    · by_cases hk : i / 4 = k
      · have h3 : i % 4 = 3 := by omega
        rw [if_neg hl, if_pos (by omega), h3]
        rfl
      · rw [if_neg hl, if_neg (by omega)]

set_option maxHeartbeats 2000000 in
set_option maxRecDepth 100000 in
theorem ins_rd (g : Nat) (s : ByteArray) (z : St) (w : World) (h : RdS w g s z) (hs : s.size ≤ 140737488355328) :
    Calls Tryd.prog 50 #[.pointer (some ⟨g, 0, none⟩)] w fun x w' => ∃ b, x = .returned (.slice (some ⟨b, 0, none⟩) (isN s z) (isN s z)) ∧ w.heap.size ≤ b ∧ w'.rowIs b 47 (isN s z * 4) (isF s z (isN s z)) ∧ RdS w' g s (isSt s z) ∧ Only g w w' := by
  have hv := cntV_in (s := s) (z := z) (lo := 1) (hi := 256) (out := 6) (by omega) (by omega) (by omega)
  obtain ⟨n, hn⟩ : ∃ n, isN s z = n := ⟨_, rfl⟩
  have hn4 : n ≤ 256 := by rw [← hn]; unfold isN; omega
  have EN := Lib.hid hn
  have C0 := Lib.hid (cnt_st g s z 1 256 6 w h hs (by omega) (by omega) (by omega))
  have hcv : cntV s 1 256 6 z = (n : Int) := by rw [← hn]; unfold isN; omega
  rw [hcv] at C0
  have hg := h.1.lt
  have hmk := make_ins n (by omega)
  have HSZ := Lib.hid hs
  rw [hn]
  clear h hv hn hcv hs
  go_enter Tryd.func50, Tryd.ntmps50
  go_wp2_with fail
  refine C0.out.mono ?_
  rintro x w1 ⟨rfl, h1, o1⟩
  obtain ⟨w2, hw2⟩ : ∃ w2, w2 = w1.alloc (.cells (mkI n) 47) := ⟨_, rfl⟩
  have hb2 : Below w1.heap.size w1 w2 := by rw [hw2]; exact (Below.refl _ _).alloc (Nat.le_refl _) _
  have H2 := Lib.hid (h1.below hb2)
  have O2 := Lib.hid (o1.trans (Only.of_below hb2))
  have R2 := Lib.hid (show w2.rowIs w1.heap.size 47 (n * 4) (isF s z 0) from by rw [hw2]; exact mkI_row w1 n s z)
  have hne : g ≠ w1.heap.size := by have := o1.size; omega
  have hle : w.heap.size ≤ w1.heap.size := o1.size
  have HW2 := Lib.hid hw2
  clear h1 o1 hb2 hw2
  go_upto_region 2 with (fail)
  rw [show World.alloc w1 _ = w2 from HW2.out.symm]
  clear hmk
  go_wp2_with fail
  go_loopg [4, 11] n (fun gg _ c wr => ∃ k : Nat, k ≤ n ∧ n - k ≤ gg ∧ c = .int .i64 k ∧ Hid (wr.rowIs w1.heap.size 47 (n * 4) (isF s z k)) ∧ Hid (RdS wr g s (iter (inSt s) k (cntSt s 1 256 6 z))) ∧ Hid (Only g w wr))
  case atStart => exact ⟨0, Nat.zero_le _, by omega, rfl, R2, H2, O2⟩
  case round =>
    clear R2 H2 O2
    obtain ⟨k, hk, hgk, rfl, RK, HK, OK⟩ := hrel
    by_cases hlt : k < n
    · have k1 : (k : Int) < (n : Int) := by omega
      have k2 : decide (k < n) = true := decide_eq_true hlt
      obtain ⟨y, hy⟩ : ∃ y, iter (inSt s) k (cntSt s 1 256 6 z) = y := ⟨_, rfl⟩
      have EY := Lib.hid (show isV s z k = inV s y ∧ iter (inSt s) (k + 1) (cntSt s 1 256 6 z) = inSt s y from ⟨by unfold isV; rw [hy], by show inSt s (iter _ _ _) = _; rw [hy]⟩)
      rw [hy] at HK
      have RG := Lib.hid (show wr.rowIs w1.heap.size 47 (n * 4) (isG s z k 0) from RK.out.congr fun i _ => (isG_zero s z k i).symm)
      have b0 : k * 4 < n * 4 := by omega
      have b1 : k * 4 + 1 < n * 4 := by omega
      have b2 : k * 4 + 2 < n * 4 := by omega
      have Y1 := Lib.hid (show Calls Tryd.prog 74 #[.pointer (some ⟨g, 0, none⟩), .int .i64 32] wr (StGives g s wr (.string (bytV s 32 y)) (inA s y)) from byt_st g s y 32 wr HK.out HSZ.out (by omega))
      obtain ⟨v1, hv1⟩ : ∃ v, bytV s 32 y = v := ⟨_, rfl⟩
      obtain ⟨v2, hv2⟩ : ∃ v, wdV s (inA s y) = v := ⟨_, rfl⟩
      obtain ⟨v3, hv3⟩ : ∃ v, wdV s (inC s y) = v := ⟨_, rfl⟩
      have EV := Lib.hid (show isV s z k = ⟨v1, v2, v3, []⟩ from by rw [EY.out.1]; unfold inV; rw [hv1, hv2, hv3])
      rw [hv1] at Y1
      have Y2 := Lib.hid (fun (W : World) (hW : RdS W g s (inA s y)) => (show Calls Tryd.prog 48 #[.pointer (some ⟨g, 0, none⟩)] W (StGives g s W (.int .u32 v2) (inB' s y)) from by rw [← hv2]; exact word_st g s (inA s y) W hW HSZ.out))
      have Y3 := Lib.hid (fun (W : World) (hW : RdS W g s (inB' s y)) => (show Calls Tryd.prog 73 #[.pointer (some ⟨g, 0, none⟩), .agg #[.int .u64 0, .int .u64 0, .int .i64 4]] W (StGives g s W (.int .i64 (cntV s 0 0 4 (inB' s y))) (inC s y)) from cnt_st g s (inB' s y) 0 0 4 W hW HSZ.out (by omega) (by omega) (by omega)))
      have Y4 := Lib.hid (fun (W : World) (hW : RdS W g s (inC s y)) => (show Calls Tryd.prog 48 #[.pointer (some ⟨g, 0, none⟩)] W (StGives g s W (.int .u32 v3) (inSt s y)) from by rw [← hv3]; exact word_st g s (inC s y) W hW HSZ.out))
      generalize cntV s 0 0 4 (inB' s y) = cv at Y3
      clear hy hv1 hv2 hv3
      go_wp2_with fail
      refine Y1.out.mono ?_
      rintro x w3 ⟨rfl, h3, o3⟩
      have H3 := Lib.hid h3
      have O3 := Lib.hid (OK.out.trans o3)
      have R3 := Lib.hid (RG.out.of_block (o3.block _ RG.out.lt (Ne.symm hne)))
      clear h3 o3
      obtain ⟨u3, c3⟩ : ∃ u, w3.cell? ⟨w1.heap.size, k * 4, none⟩ = some u := ⟨_, R3.out.cell b0⟩
      have f3 := R3.out.frozen (k * 4)
      obtain ⟨w4, hw4⟩ : ∃ w4, w4 = w3.setCell ⟨w1.heap.size, k * 4, none⟩ (.string v1) := ⟨_, rfl⟩
      have H4 := Lib.hid (show RdS w4 g s (inA s y) from by rw [hw4]; exact H3.out.new hne _)
      have O4 := Lib.hid (show Only g w w4 from by rw [hw4]; exact O3.out.new hle _)
      have R4 := Lib.hid (show w4.rowIs w1.heap.size 47 (n * 4) (isG s z k 1) from by
        have h := is_cell (by omega) R3.out
        rw [EV.out] at h
        rw [hw4]
        exact h)
      go_upto_region 6 with (fail)
      rw [← hw4]
      clear hw4 c3 f3 u3
      go_wp2_with fail
      refine (Y2.out w4 H4.out).mono ?_
      rintro x w5 ⟨rfl, h5, o5⟩
      have H5 := Lib.hid h5
      have O5 := Lib.hid (O4.out.trans o5)
      have R5 := Lib.hid (R4.out.of_block (o5.block _ R4.out.lt (Ne.symm hne)))
      clear h5 o5
      obtain ⟨u5, c5⟩ : ∃ u, w5.cell? ⟨w1.heap.size, k * 4 + 1, none⟩ = some u := ⟨_, R5.out.cell b1⟩
      have f5 := R5.out.frozen (k * 4 + 1)
      obtain ⟨w6, hw6⟩ : ∃ w6, w6 = w5.setCell ⟨w1.heap.size, k * 4 + 1, none⟩ (.int .u32 v2) := ⟨_, rfl⟩
      have H6 := Lib.hid (show RdS w6 g s (inB' s y) from by rw [hw6]; exact H5.out.new hne _)
      have O6 := Lib.hid (show Only g w w6 from by rw [hw6]; exact O5.out.new hle _)
      have R6 := Lib.hid (show w6.rowIs w1.heap.size 47 (n * 4) (isG s z k 2) from by
        have h := is_cell (by omega) R5.out
        rw [EV.out] at h
        rw [hw6]
        exact h)
      go_upto_region 7 with (fail)
      rw [← hw6]
      clear hw6 c5 f5 u5
      go_wp2_with fail
      refine (Y3.out w6 H6.out).mono ?_
      rintro x w7 ⟨rfl, h7, o7⟩
      have H7 := Lib.hid h7
      have O7 := Lib.hid (O6.out.trans o7)
      have R7 := Lib.hid (R6.out.of_block (o7.block _ R6.out.lt (Ne.symm hne)))
      clear h7 o7
      go_wp2_with fail
      refine (Y4.out w7 H7.out).mono ?_
      rintro x w8 ⟨rfl, h8, o8⟩
      have H8 := Lib.hid h8
      have O8 := Lib.hid (O7.out.trans o8)
      have R8 := Lib.hid (R7.out.of_block (o8.block _ R7.out.lt (Ne.symm hne)))
      clear h8 o8
      obtain ⟨u8, c8⟩ : ∃ u, w8.cell? ⟨w1.heap.size, k * 4 + 2, none⟩ = some u := ⟨_, R8.out.cell b2⟩
      have f8 := R8.out.frozen (k * 4 + 2)
      go_wp2_with fail
      go_roundg (n - (k + 1))
      case measure => omega
      case rel =>
        refine ⟨k + 1, by omega, by omega, by go_num, (show Hid _ from is_done ?_), (show Hid _ from ?_), O8.out.new hle _⟩
        · have h := is_cell (by omega) R8.out
          rw [EV.out] at h
          exact h
        · rw [EY.out.2]
          exact H8.out.new hne _
    · have k1 : ¬ (k : Int) < (n : Int) := by omega
      obtain rfl : k = n := by omega
      go_wp2_with fail
      go_ret
      exact ⟨_, rfl, hle, RK.out, by unfold isSt; rw [EN.out]; exact HK.out, OK.out⟩

end Go.Proofs.YtfobdefncbaooaaDoor

namespace Go.Proofs.YtfobdefncbaooaaDoor
open Go.RowKit

/-- All but the blocks g and b is as it was. -/
structure Only2 (g b : Nat) (w w' : World) : Prop where
  os : w'.os = w.os
  tape : w'.tape = w.tape
  output : w'.output = w.output
  size : w.heap.size ≤ w'.heap.size
  block : ∀ c, c < w.heap.size → c ≠ g → c ≠ b → w'.heap[c]? = w.heap[c]?
theorem Only2.refl (g b : Nat) (w : World) : Only2 g b w w := ⟨rfl, rfl, rfl, Nat.le_refl _, fun _ _ _ _ => rfl⟩
theorem Only2.then {g b : Nat} {u v w : World} (h : Only2 g b u v) (k : Only g v w) : Only2 g b u w :=
  ⟨k.os.trans h.os, k.tape.trans h.tape, k.output.trans h.output, Nat.le_trans h.size k.size, fun c hc hg hb => (k.block c (Nat.lt_of_lt_of_le hc h.size) hg).trans (h.block c hc hg hb)⟩
theorem Only2.set {g b o : Nat} {u v : World} (h : Only2 g b u v) (x : Value) : Only2 g b u (v.setCell ⟨b, o, none⟩ x) := by
  have hB := (Below.refl 0 v).setCell (p := ⟨b, o, none⟩) (Nat.zero_le _) x
  exact ⟨hB.os.trans h.os, hB.tape.trans h.tape, hB.output.trans h.output, Nat.le_trans h.size hB.size, fun c hc hg hb => (Below.heap_setCell _ _ _ _ hb).trans (h.block c hc hg hb)⟩
theorem Only2.setg {g b o : Nat} {u v : World} (h : Only2 g b u v) (x : Value) : Only2 g b u (v.setCell ⟨g, o, none⟩ x) := by
  have hB := (Below.refl 0 v).setCell (p := ⟨g, o, none⟩) (Nat.zero_le _) x
  exact ⟨hB.os.trans h.os, hB.tape.trans h.tape, hB.output.trans h.output, Nat.le_trans h.size hB.size, fun c hc hg hb => (Below.heap_setCell _ _ _ _ hg).trans (h.block c hc hg hb)⟩

/-- The state ahead of Witness j; how many texts it has; all of the first k together. -/
def wsAt (s : ByteArray) (z : St) (j : Nat) : St := iter (wiSt s) j z
def wsN (s : ByteArray) (z : St) (j : Nat) : Nat := wiN s (wsAt s z j)
def wsT (s : ByteArray) (z : St) : Nat → Nat
  | 0 => 0
  | k + 1 => wsT s z k + wsN s z k
/-- Behind them all: a marker that none of them needs is wrong, at the first one's place. -/
def wsSt (s : ByteArray) (z : St) (n : Nat) : St := if wsT s z n = 0 ∧ (wsAt s z n).e = 0 then ⟨z.a, 4⟩ else wsAt s z n

theorem wiN_le (s : ByteArray) (z : St) : wiN s z ≤ 4 := by
  have h := cntV_in (s := s) (z := z) (lo := 0) (hi := 4) (out := 6) (by omega) (by omega) (by omega)
  unfold wiN
  omega
theorem wsT_le (s : ByteArray) (z : St) (k : Nat) : wsT s z k ≤ 4 * k := by
  induction k with
  | zero => exact Nat.le_refl _
  | succ k ih =>
    have h := wiN_le s (wsAt s z k)
    show wsT s z k + wiN s (wsAt s z k) ≤ 4 * (k + 1)
    omega

/-- A row of inputs with k Witnesses put in, in the blocks c. -/
def wsF (s : ByteArray) (z : St) (F : Nat → Value) (c : Nat → Nat) (k : Nat) : Nat → Value := fun i => if i % 4 = 3 ∧ i / 4 < k then .slice (some ⟨c (i / 4), 0, none⟩) (wsN s z (i / 4)) (wsN s z (i / 4)) else F i
/-- Where the loop stands behind k of them. -/
structure WsS (w : World) (g b n : Nat) (s : ByteArray) (z : St) (F : Nat → Value) (c : Nat → Nat) (k : Nat) (wr : World) : Prop where
  row : wr.rowIs b 47 (n * 4) (wsF s z F c k)
  wit : ∀ j, j < k → w.heap.size ≤ c j ∧ wr.rowIs (c j) 9 (wsN s z j) (wiF s (wsAt s z j) (wsN s z j))
  rd : RdS wr g s (wsAt s z k)
  only : Only2 g b w wr

theorem ws_step {w wr w3 : World} {g b n q : Nat} {s : ByteArray} {z : St} {F : Nat → Value} {c : Nat → Nat} {k : Nat} (h : WsS w g b n s z F c k wr) (hgb : g ≠ b) (hg : g < w.heap.size) (hb : b < w.heap.size) (hq : wr.heap.size ≤ q)
    (hrow : w3.rowIs q 9 (wsN s z k) (wiF s (wsAt s z k) (wsN s z k))) (hrd : RdS w3 g s (wsAt s z (k + 1))) (ho : Only g wr w3) :
    WsS w g b n s z F (fun j => if j = k then q else c j) (k + 1) (w3.setCell ⟨b, k * 4 + 3, none⟩ (.slice (some ⟨q, 0, none⟩) (wsN s z k) (wsN s z k))) := by
  have hz := h.only.size
  have hr3 := h.row.of_block (ho.block b h.row.lt (Ne.symm hgb))
  refine ⟨?_, ?_, hrd.new hgb _, (h.only.then ho).set _⟩
  · refine (hr3.set (k * 4 + 3) _).congr fun i _ => ?_
    by_cases e : i = k * 4 + 3
    · subst e
      rw [if_pos rfl]
      unfold wsF
      rw [if_pos (by omega)]
      simp [show (k * 4 + 3) / 4 = k from by omega]
    · rw [if_neg e]
      unfold wsF
      by_cases hc : i % 4 = 3 ∧ i / 4 < k
      · rw [if_pos hc, if_pos (by omega)]
        show _ = Value.slice (some ⟨if i / 4 = k then q else c (i / 4), 0, none⟩) _ _
        rw [if_neg (by omega)]
      · rw [if_neg hc, if_neg (by omega)]
  · intro j hj
    by_cases e : j = k
    · subst e
      rw [if_pos rfl]
      exact ⟨by omega, hrow.setOther (by show q ≠ b; omega) _⟩
    · rw [if_neg e]
      obtain ⟨h1, h2⟩ := h.wit j (by omega)
      exact ⟨h1, (h2.of_block (ho.block _ h2.lt (by omega))).setOther (by show c j ≠ b; omega) _⟩

set_option maxHeartbeats 4000000 in
set_option maxRecDepth 100000 in
theorem witnesses_rd (g b n : Nat) (s : ByteArray) (z : St) (F : Nat → Value) (w : World) (h : RdS w g s z) (hs : s.size ≤ 140737488355328) (hn : n ≤ 256) (hrow : w.rowIs b 47 (n * 4) F) (hgb : g ≠ b) :
    Calls Tryd.prog 52 #[.pointer (some ⟨g, 0, none⟩), .slice (some ⟨b, 0, none⟩) n n] w fun x w' => x = .returned (.tuple #[]) ∧ ∃ c : Nat → Nat, w'.rowIs b 47 (n * 4) (wsF s z F c n) ∧ (∀ j, j < n → w.heap.size ≤ c j ∧ w'.rowIs (c j) 9 (wsN s z j) (wiF s (wsAt s z j) (wsN s z j))) ∧ RdS w' g s (wsSt s z n) ∧ Only2 g b w w' := by
  have hg := h.1.lt
  have hb := hrow.lt
  have W0 := Lib.hid (show WsS w g b n s z F (fun _ => 0) 0 w from ⟨hrow.congr fun i _ => by unfold wsF; rw [if_neg (by omega)], fun j hj => absurd hj (Nat.not_lt_zero _), h, Only2.refl _ _ _⟩)
  obtain ⟨c0, c1, c2, f1, f2⟩ := h.1.cells
  have HSZ := Lib.hid hs
  have ZA := Lib.hid h.2
  clear h hrow hs
  go_enter Tryd.func52, Tryd.ntmps52
  go_wp2_with fail
  go_loopg [5, 6, 13] n (fun gg t _ i wr => ∃ (k : Nat) (c : Nat → Nat), k ≤ n ∧ n - k ≤ gg ∧ i = .int .i64 k ∧ t = .int .i64 (wsT s z k : Nat) ∧ Hid (WsS w g b n s z F c k wr))
  case atStart => exact ⟨0, _, Nat.zero_le _, by omega, rfl, rfl, W0⟩
  case round =>
    clear W0 c0 c1 c2 f1 f2
    obtain ⟨k, c, hk, hgk, rfl, rfl, HW⟩ := hrel
    by_cases hlt : k < n
    · have k1 : (k : Int) < (n : Int) := by omega
      have k2 : decide (k < n) = true := decide_eq_true hlt
      have hb3 : k * 4 + 3 < n * 4 := by omega
      obtain ⟨m, hm⟩ : ∃ m, wsN s z k = m := ⟨_, rfl⟩
      have hm4 : m ≤ 4 := by rw [← hm]; exact wiN_le _ _
      have WI := Lib.hid (witness_rd g s (wsAt s z k) wr HW.out.rd HSZ.out)
      rw [show wiN s (wsAt s z k) = m from hm] at WI
      obtain ⟨tk, htk⟩ : ∃ tk, wsT s z k = tk := ⟨_, rfl⟩
      have htl : tk ≤ 4 * k := by rw [← htk]; exact wsT_le _ _ _
      obtain ⟨t2, ht2⟩ : ∃ t2 : Nat, t2 = tk + m := ⟨_, rfl⟩
      have ET := Lib.hid (show wsT s z (k + 1) = t2 from by show wsT s z k + wsN s z k = t2; rw [htk, hm, ht2])
      have vt : IntKind.i64.wrap ((tk : Int) + (m : Int)) = (t2 : Int) := by rw [IntWalk.i64_in _ (by omega)]; omega
      rw [htk]
      have EM := Lib.hid hm
      clear hm htk
      go_wp2_with fail
      refine WI.out.mono ?_
      rintro x w3 ⟨q, rfl, hq, hr3, hd3, o3⟩
      have R3 := Lib.hid (HW.out.row.of_block (o3.block b HW.out.row.lt (Ne.symm hgb)))
      have ST := Lib.hid (ws_step (q := q) HW.out hgb hg hb hq (by rw [EM.out]; exact hr3) hd3 o3)
      rw [EM.out] at ST
      clear hr3 hd3 o3
      obtain ⟨u3, c3⟩ : ∃ u, w3.cell? ⟨b, k * 4 + 3, none⟩ = some u := ⟨_, R3.out.cell hb3⟩
      have f3 := R3.out.frozen (k * 4 + 3)
      obtain ⟨w4, hw4⟩ : ∃ w4, w4 = w3.setCell ⟨b, k * 4 + 3, none⟩ (.slice (some ⟨q, 0, none⟩) m m) := ⟨_, rfl⟩
      rw [← hw4] at ST
      go_upto_region 5 with (fail)
      rw [← hw4]
      have c4 : w4.cell? ⟨b, k * 4 + 3, none⟩ = some (.slice (some ⟨q, 0, none⟩) m m) := by rw [hw4]; exact World.cell?_setCell_same _ _ _ c3
      clear hw4 c3 f3 u3
      go_wp2_with fail
      go_roundg (n - (k + 1))
      case measure => omega
      case rel => exact ⟨k + 1, _, by omega, by omega, by go_num, by rw [ET.out, ht2, Int.natCast_add], ST⟩
    · have k1 : ¬ (k : Int) < (n : Int) := by omega
      obtain rfl : k = n := by omega
      obtain ⟨tk, htk⟩ : ∃ tk, wsT s z k = tk := ⟨_, rfl⟩
      rw [htk]
      obtain ⟨y, hy⟩ : ∃ y, wsAt s z k = y := ⟨_, rfl⟩
      have hrd := HW.out.rd
      rw [hy] at hrd
      obtain ⟨c0, c1, c2, f1, f2⟩ := hrd.1.cells
      have HR := Lib.hid hrd
      have EW := Lib.hid (show wsSt s z k = if tk = 0 ∧ y.e = 0 then ⟨z.a, 4⟩ else y from by unfold wsSt; rw [htk, hy])
      clear htk hy hrd
      by_cases h0 : tk = 0
      · have e0 : ((tk : Int) == 0) = true := by simp [h0]
        by_cases h1 : y.e = 0
        · have e1 : (y.e == 0) = true := by simpa using h1
          have EE := Lib.hid (show wsSt s z k = ⟨z.a, 4⟩ from by rw [EW.out, if_pos ⟨h0, h1⟩])
          clear h0 h1
          go_wp2_with fail
          go_end0
          refine ⟨rfl, c, ?_, ?_, ?_, (HW.out.only.setg _).setg _⟩
          · exact (HW.out.row.setOther (Ne.symm hgb) _).setOther (Ne.symm hgb) _
          · intro j hj
            obtain ⟨h1, h2⟩ := HW.out.wit j hj
            exact ⟨h1, (h2.setOther (by show c j ≠ g; omega) _).setOther (by show c j ≠ g; omega) _⟩
          · rw [EE.out]
            exact ⟨(HR.out.1.setAt z.a).setErr 4, ZA.out⟩
        · have e1 : (y.e == 0) = false := by simpa using h1
          have EE := Lib.hid (show wsSt s z k = y from by rw [EW.out, if_neg (fun hh => h1 hh.2)])
          clear h0 h1
          go_wp2_with fail
          go_end0
          exact ⟨rfl, c, HW.out.row, HW.out.wit, by rw [EE.out]; exact HR.out, HW.out.only⟩
      · have e0 : ((tk : Int) == 0) = false := by rw [beq_eq_false_iff_ne]; omega
        have EE := Lib.hid (show wsSt s z k = y from by rw [EW.out, if_neg (fun hh => h0 hh.1)])
        clear h0
        go_wp2_with fail
        go_end0
        exact ⟨rfl, c, HW.out.row, HW.out.wit, by rw [EE.out]; exact HR.out, HW.out.only⟩

end Go.Proofs.YtfobdefncbaooaaDoor

namespace Go.Proofs.YtfobdefncbaooaaDoor
open Go.RowKit

/-- Behind the marker. -/
def mkSt (s : ByteArray) (z : St) : St := ⟨(mkA s z.a z.e).toNat, mkE s z.a z.e⟩
def mkV (s : ByteArray) (z : St) : Bool := mkB s z.a z.e
theorem mkA_in {s : ByteArray} {z : St} (h : z.a ≤ s.size) : 0 ≤ mkA s z.a z.e ∧ mkA s z.a z.e ≤ s.size := by
  unfold mkA
  by_cases hb : mkB s z.a z.e = true
  · rw [if_pos hb]
    have h1 : Vi.okB s z.a 1 = true := by
      unfold mkB at hb
      simp only [Bool.and_eq_true] at hb
      exact hb.1.1
    have h2 := okB_le h1
    by_cases hX : numE s (z.a + 1) z.e 1 1 1 4 = 0
    · rw [okA_yes hX]
      have := okB_le (numE_ok hX)
      omega
    · rw [okA_no hX]
      omega
  · rw [if_neg hb]
    omega
theorem mark_st (g : Nat) (s : ByteArray) (z : St) (w : World) (h : RdS w g s z) (hs : s.size ≤ 140737488355328) : Calls Tryd.prog 49 #[.pointer (some ⟨g, 0, none⟩)] w (StGives g s w (.bool (mkV s z)) (mkSt s z)) := by
  have hm := mkA_in (z := z) h.2
  refine (marked_rd g s z.a z.e w h.1 hs (by have := h.2; omega)).mono ?_
  rintro x w' ⟨rfl, h1, h2⟩
  refine ⟨rfl, ⟨?_, ?_⟩, h2⟩
  · show RdAt w' g s ((mkA s z.a z.e).toNat : Int) _
    rw [Int.toNat_of_nonneg hm.1]
    exact h1
  · show (mkA s z.a z.e).toNat ≤ s.size
    omega

/-- The states of a transaction's reading. -/
def t1 (s : ByteArray) (z : St) : St := wdSt s z
def t2 (s : ByteArray) (z : St) : St := mkSt s (t1 s z)
def t3 (s : ByteArray) (z : St) : St := isSt s (t2 s z)
def t4 (s : ByteArray) (z : St) : St := osSt s (t3 s z)
def tM (s : ByteArray) (z : St) : Bool := mkV s (t1 s z)
def tN (s : ByteArray) (z : St) : Nat := isN s (t2 s z)
def t5 (s : ByteArray) (z : St) : St := if tM s z = true then wsSt s (t4 s z) (tN s z) else t4 s z
def t6 (s : ByteArray) (z : St) : St := wdSt s (t5 s z)
def t7 (s : ByteArray) (z : St) : St := endSt s (t6 s z)
/-- The transaction that is read. -/
def trIn (s : ByteArray) (z : St) (j : Nat) : InD :=
  ⟨(isV s (t2 s z) j).id, (isV s (t2 s z) j).ix, (isV s (t2 s z) j).sq, if tM s z = true then (List.range (wsN s (t4 s z) j)).map (wiV s (wsAt s (t4 s z) j)) else []⟩
def trD (s : ByteArray) (z : St) : TxD := ⟨wdV s z, (List.range (tN s z)).map (trIn s z), (List.range (osN s (t3 s z))).map (osV s (t3 s z)), wdV s (t5 s z)⟩

theorem range_get {α : Type} {n j : Nat} {f : Nat → α} {x : α} (h : ((List.range n).map f)[j]? = some x) : j < n ∧ x = f j := by
  have hj : j < n := by simpa using (List.getElem?_eq_some_iff.1 h).1
  simp [hj] at h
  exact ⟨hj, h.symm⟩
/-- A row of outputs, read. -/
theorem outs_row {w : World} {b n : Nat} {s : ByteArray} {z : St} (lo : Nat) (hb : lo ≤ b) (h : w.rowIs b 50 (n * 2) (osF s z n)) : Outs w lo w.heap.size (.slice (some ⟨b, 0, none⟩) n n) ((List.range n).map (osV s z)) := by
  refine ⟨_, n, by simp, by simp, .inr ⟨b, 0, rfl, hb, h.lt, fun k x hx => ?_⟩⟩
  obtain ⟨hk, rfl⟩ := range_get hx
  have c0 := h.cell (i := k * 2) (by omega)
  have c1 := h.cell (i := k * 2 + 1) (by omega)
  unfold osF at c0 c1
  rw [if_pos (by omega), show k * 2 / 2 = k from by omega, if_pos hk] at c0
  rw [if_neg (by omega), show (k * 2 + 1) / 2 = k from by omega, if_pos hk] at c1
  rw [Nat.zero_add]
  exact ⟨c0, c1⟩
theorem strs_row {w : World} {b n : Nat} {s : ByteArray} {z : St} (lo : Nat) (hb : lo ≤ b) (h : w.rowIs b 9 n (wiF s z n)) : Strs w lo w.heap.size (.slice (some ⟨b, 0, none⟩) n n) ((List.range n).map (wiV s z)) := by
  refine ⟨_, n, by simp, by simp, .inr ⟨b, 0, rfl, hb, h.lt, fun k x hx => ?_⟩⟩
  obtain ⟨hk, rfl⟩ := range_get hx
  have c0 := h.cell hk
  unfold wiF at c0
  rw [if_pos hk] at c0
  rw [Nat.zero_add]
  exact c0
/-- A row of inputs, read; without Witnesses, or with them. -/
theorem ins_row {w : World} {b n : Nat} {s : ByteArray} {z : St} (lo : Nat) (hb : lo ≤ b) (f : Nat → InD) (V : Nat → Value) (h : w.rowIs b 47 (n * 4) (fun i => if i % 4 = 3 then V (i / 4) else isF s z n i)) (hf : ∀ j, j < n → (f j).id = (isV s z j).id ∧ (f j).ix = (isV s z j).ix ∧ (f j).sq = (isV s z j).sq ∧ Strs w lo w.heap.size (V j) (f j).wit) :
    Ins w lo w.heap.size (.slice (some ⟨b, 0, none⟩) n n) ((List.range n).map f) := by
  refine ⟨_, n, by simp, by simp, .inr ⟨b, 0, rfl, hb, h.lt, fun k x hx => ?_⟩⟩
  obtain ⟨hk, rfl⟩ := range_get hx
  obtain ⟨f0, f1, f2, f3⟩ := hf k hk
  have c0 := h.cell (i := k * 4) (by omega)
  have c1 := h.cell (i := k * 4 + 1) (by omega)
  have c2 := h.cell (i := k * 4 + 2) (by omega)
  have c3 := h.cell (i := k * 4 + 3) (by omega)
  simp only [show k * 4 % 4 = 0 from by omega, show (k * 4 + 1) % 4 = 1 from by omega, show (k * 4 + 2) % 4 = 2 from by omega, show (k * 4 + 3) % 4 = 3 from by omega, show (k * 4 + 3) / 4 = k from by omega, if_true] at c0 c1 c2 c3
  unfold isF at c0 c1 c2
  rw [if_neg (by omega), show k * 4 / 4 = k from by omega, if_pos hk, show k * 4 % 4 = 0 from by omega] at c0
  rw [if_neg (by omega), show (k * 4 + 1) / 4 = k from by omega, if_pos hk, show (k * 4 + 1) % 4 = 1 from by omega] at c1
  rw [if_neg (by omega), show (k * 4 + 2) / 4 = k from by omega, if_pos hk, show (k * 4 + 2) % 4 = 2 from by omega] at c2
  rw [Nat.zero_add]
  exact ⟨by rw [f0]; exact c0, by rw [f1]; exact c1, by rw [f2]; exact c2, V k, c3, f3⟩

end Go.Proofs.YtfobdefncbaooaaDoor
