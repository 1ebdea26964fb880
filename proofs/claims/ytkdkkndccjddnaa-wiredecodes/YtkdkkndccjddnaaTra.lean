/-
  The reader takes a transaction, walked.
-/
import Derived.Test.YtkdkkndccjddnaaRdn
namespace Go.Proofs.Ytkdkkndccjddnaa
open Go.RowKit

theorem Only.kept {g lo : Nat} {u v : World} (h : Only g u v) (hg : g < lo) : Kept lo u.heap.size u v := fun b h1 h2 => h.block b h2 (by omega)
theorem Only2.kept {g b lo : Nat} {u v : World} (h : Only2 g b u v) (hg : g < lo) (hb : b < lo) : Kept lo u.heap.size u v := fun c h1 h2 => h.block c h2 (by omega) (by omega)

/-- Where the reading of a transaction stands. -/
structure TrS (w : World) (g : Nat) (s : ByteArray) (z : St) (v0 v1 v2 v3 : Value) (wr : World) : Prop where
  bt : Open wr (w.heap.size + 1) v0 v1 v2 v3
  br : Open wr w.heap.size (.int .u32 0) (.slice none 0 0) (.slice none 0 0) (.int .u32 0)
  rd : RdS wr g s z
  only : Only g w wr
  lt : w.heap.size + 2 ≤ wr.heap.size
theorem TrS.step {w : World} {g : Nat} {s : ByteArray} {z z' : St} {v0 v1 v2 v3 : Value} {wr wx : World} (h : TrS w g s z v0 v1 v2 v3 wr) (hg : g < w.heap.size) (ho : Only g wr wx) (hr : RdS wx g s z') : TrS w g s z' v0 v1 v2 v3 wx := by
  have hl := h.lt
  exact ⟨h.bt.keep (ho.block _ (by omega) (by omega)), h.br.keep (ho.block _ (by omega) (by omega)), hr, h.only.trans ho, Nat.le_trans hl ho.size⟩
theorem TrS.two {w : World} {g b : Nat} {s : ByteArray} {z z' : St} {v0 v1 v2 v3 : Value} {wr wx : World} (h : TrS w g s z v0 v1 v2 v3 wr) (hg : g < w.heap.size) (hb : w.heap.size + 2 ≤ b) (ho : Only2 g b wr wx) (hr : RdS wx g s z') : TrS w g s z' v0 v1 v2 v3 wx := by
  have hl := h.lt
  have h0 := h.only
  exact ⟨h.bt.keep (ho.block _ (by omega) (by omega) (by omega)), h.br.keep (ho.block _ (by omega) (by omega) (by omega)), hr, ⟨ho.os.trans h0.os, ho.tape.trans h0.tape, ho.output.trans h0.output, Nat.le_trans h0.size ho.size, fun c hc h1 => (ho.block c (by omega) h1 (by omega)).trans (h0.block c hc h1)⟩, Nat.le_trans hl ho.size⟩
theorem TrS.set {w : World} {g : Nat} {s : ByteArray} {z : St} {v0 v1 v2 v3 u0 u1 u2 u3 : Value} {wr : World} (h : TrS w g s z v0 v1 v2 v3 wr) (hg : g < w.heap.size) {o : Nat} {x : Value} (hb : Open (wr.setCell ⟨w.heap.size + 1, o, none⟩ x) (w.heap.size + 1) u0 u1 u2 u3) : TrS w g s z u0 u1 u2 u3 (wr.setCell ⟨w.heap.size + 1, o, none⟩ x) :=
  ⟨hb, h.br.keep (Below.heap_setCell _ _ _ _ (by show w.heap.size ≠ w.heap.size + 1; omega)), h.rd.new (by omega) _, h.only.new (by omega) _, by rw [World.size_setCell]; exact h.lt⟩
theorem keepSet {w wr : World} {o lo hi : Nat} (x : Value) (hlo : w.heap.size + 2 ≤ lo) : Kept lo hi wr (wr.setCell ⟨w.heap.size + 1, o, none⟩ x) := Kept.setCell (.inl (by show w.heap.size + 1 < lo; omega)) x

/-- The Ins, read, with their Witnesses. -/
def InsDone (w : World) (s : ByteArray) (z : St) (b : Nat) (wx : World) : Prop :=
  ∃ V : Nat → Value, wx.rowIs b 47 (tN s z * 4) (fun i => if i % 4 = 3 then V (i / 4) else isF s (t2 s z) (tN s z) i) ∧ ∀ j, j < tN s z → Strs wx (w.heap.size + 2) wx.heap.size (V j) (trIn s z j).wit
theorem InsDone.keep {w : World} {s : ByteArray} {z : St} {b : Nat} {wx wy : World} (h : InsDone w s z b wx) (hb : w.heap.size + 2 ≤ b) (hk : Kept (w.heap.size + 2) wx.heap.size wx wy) (hs : wx.heap.size ≤ wy.heap.size) : InsDone w s z b wy := by
  obtain ⟨V, h1, h2⟩ := h
  exact ⟨V, h1.of_block (hk b hb h1.lt), fun j hj => ((h2 j hj).keep hk).wide (Nat.le_refl _) hs⟩
theorem InsDone.ins {w : World} {s : ByteArray} {z : St} {b : Nat} {wx : World} (h : InsDone w s z b wx) (hb : w.heap.size + 2 ≤ b) : Ins wx (w.heap.size + 2) wx.heap.size (.slice (some ⟨b, 0, none⟩) (tN s z) (tN s z)) (trD s z).ins := by
  obtain ⟨V, h1, h2⟩ := h
  exact ins_row _ hb (trIn s z) V h1 (fun j hj => ⟨rfl, rfl, rfl, h2 j hj⟩)
theorem done_none {w wx : World} {s : ByteArray} {z : St} {b : Nat} (hm : tM s z = false) (h : wx.rowIs b 47 (tN s z * 4) (isF s (t2 s z) (tN s z))) : InsDone w s z b wx := by
  refine ⟨fun _ => .slice none 0 0, h.congr fun i _ => ?_, fun j _ => ?_⟩
  · by_cases e : i % 4 = 3
    · rw [if_pos e]
      unfold isF
      rw [e]
      rfl
    · rw [if_neg e]
  · have e : (trIn s z j).wit = [] := by unfold trIn; rw [hm]; rfl
    rw [e]
    exact Strs.nil _ _ _
theorem done_some {w wr wx : World} {s : ByteArray} {z : St} {b : Nat} {c : Nat → Nat} (hm : tM s z = true) (hz : w.heap.size + 2 ≤ wr.heap.size) (h : wx.rowIs b 47 (tN s z * 4) (wsF s (t4 s z) (isF s (t2 s z) (tN s z)) c (tN s z))) (hc : ∀ j, j < tN s z → wr.heap.size ≤ c j ∧ wx.rowIs (c j) 9 (wsN s (t4 s z) j) (wiF s (wsAt s (t4 s z) j) (wsN s (t4 s z) j))) : InsDone w s z b wx := by
  refine ⟨fun j => .slice (some ⟨c j, 0, none⟩) (wsN s (t4 s z) j) (wsN s (t4 s z) j), h.congr fun i hi => ?_, fun j hj => ?_⟩
  · unfold wsF
    by_cases e : i % 4 = 3
    · rw [if_pos e, if_pos ⟨e, by omega⟩]
    · rw [if_neg e, if_neg (fun hh => e hh.1)]
  · obtain ⟨h1, h2⟩ := hc j hj
    have e : (trIn s z j).wit = (List.range (wsN s (t4 s z) j)).map (wiV s (wsAt s (t4 s z) j)) := by unfold trIn; rw [hm]; rfl
    rw [e]
    exact strs_row _ (by omega) h2

set_option maxHeartbeats 4000000 in
set_option maxRecDepth 100000 in
theorem transaction_rd (g : Nat) (s : ByteArray) (z : St) (w : World) (h : RdS w g s z) (hs : s.size ≤ 140737488355328) :
    Calls Try.prog 29 #[.pointer (some ⟨g, 0, none⟩)] w fun x w' => ∃ (b1 b2 : Nat), x = .returned (.agg #[.int .u32 (trD s z).ver, .slice (some ⟨b1, 0, none⟩) (trD s z).ins.length (trD s z).ins.length, .slice (some ⟨b2, 0, none⟩) (trD s z).outs.length (trD s z).outs.length, .int .u32 (trD s z).lock]) ∧
      TxAt w' w.heap.size w'.heap.size (.slice (some ⟨b1, 0, none⟩) (trD s z).ins.length (trD s z).ins.length) (.slice (some ⟨b2, 0, none⟩) (trD s z).outs.length (trD s z).outs.length) (trD s z) ∧ RdS w' g s (t7 s z) ∧ Only g w w' := by
  have hg := h.1.lt
  have HSZ := Lib.hid hs
  obtain ⟨w0, hw0⟩ : ∃ w0, w0 = (w.alloc (.cells #[.int .u32 0, .slice none 0 0, .slice none 0 0, .int .u32 0] 26)).alloc (.cells #[.int .u32 0, .slice none 0 0, .slice none 0 0, .int .u32 0] 26) := ⟨_, rfl⟩
  have hb0 : Below w.heap.size w w0 := by rw [hw0]; exact ((Below.refl _ _).alloc (Nat.le_refl _) _).alloc (by simp) _
  have T0 := Lib.hid (show TrS w g s z (.int .u32 0) (.slice none 0 0) (.slice none 0 0) (.int .u32 0) w0 from by
    refine ⟨?_, ?_, h.below hb0, Only.of_below hb0, by rw [hw0]; simp⟩
    · have q := Open.new (w.alloc (.cells #[.int .u32 0, .slice none 0 0, .slice none 0 0, .int .u32 0] 26)) (.int .u32 0) (.slice none 0 0) (.slice none 0 0) (.int .u32 0) 26
      rw [World.size_alloc] at q
      rw [hw0]
      exact q
    · rw [hw0]
      exact (Open.new w _ _ _ _ 26).keep (Below.heap_alloc _ _ _ (by simp)))
  have HW0 := Lib.hid hw0
  clear h hs hb0 hw0
  go_enter Try.func29, Try.ntmps29
  go_upto_region 2 with (fail)
  rw [show World.alloc (World.alloc w _) _ = w0 from HW0.out.symm]
  go_wp2_with fail
  refine (word_st g s z w0 T0.out.rd HSZ.out).mono ?_
  rintro x w1 ⟨rfl, h1, o1⟩
  have T1 := Lib.hid (T0.out.step hg o1 h1)
  clear h1 o1 T0
  obtain ⟨⟨a0, a1, a2, a3⟩, fz⟩ := T1.out.bt
  have f0 := fz 0
  obtain ⟨v, hv⟩ : ∃ v, wdV s z = v := ⟨_, rfl⟩
  rw [hv]
  have EV := Lib.hid hv
  obtain ⟨w2, hw2⟩ : ∃ w2, w2 = w1.setCell ⟨w.heap.size + 1, 0, none⟩ (.int .u32 v) := ⟨_, rfl⟩
  have T2 := Lib.hid (show TrS w g s (t1 s z) (.int .u32 v) (.slice none 0 0) (.slice none 0 0) (.int .u32 0) w2 from by rw [hw2]; exact T1.out.set hg (T1.out.bt.set0 _))
  go_upto_region 3 with (fail)
  rw [← hw2]
  clear hv hw2 a0 a1 a2 a3 fz f0 T1
  go_wp2_with fail
  refine (mark_st g s (t1 s z) w2 T2.out.rd HSZ.out).mono ?_
  rintro x w3 ⟨rfl, h3, o3⟩
  have T3 := Lib.hid (show TrS w g s (t2 s z) (.int .u32 v) (.slice none 0 0) (.slice none 0 0) (.int .u32 0) w3 from T2.out.step hg o3 h3)
  clear h3 o3 T2
  obtain ⟨mk, hmk⟩ : ∃ mk, mkV s (t1 s z) = mk := ⟨_, rfl⟩
  rw [hmk]
  have EM := Lib.hid (show tM s z = mk from hmk)
  clear hmk
  go_wp2_with fail
  refine (ins_rd g s (t2 s z) w3 T3.out.rd HSZ.out).mono ?_
  rintro x w4 ⟨b1, rfl, hb1, r4, h4, o4⟩
  have T4 := Lib.hid (show TrS w g s (t3 s z) (.int .u32 v) (.slice none 0 0) (.slice none 0 0) (.int .u32 0) w4 from T3.out.step hg o4 h4)
  have hl3 := T3.out.lt
  have hb1' : w.heap.size + 2 ≤ b1 := by omega
  obtain ⟨n, hn⟩ : ∃ n, isN s (t2 s z) = n := ⟨_, rfl⟩
  have EN := Lib.hid (show tN s z = n from hn)
  rw [hn] at r4
  rw [hn]
  have hn256 : n ≤ 256 := by
    have q := cntV_in (s := s) (z := t2 s z) (lo := 1) (hi := 256) (out := 6) (by omega) (by omega) (by omega)
    rw [← hn]; unfold isN; omega
  have R4 := Lib.hid r4
  clear hn h4 o4 r4 T3 hl3 hb1
  obtain ⟨⟨a0, a1, a2, a3⟩, fz⟩ := T4.out.bt
  have f1 := fz 1
  obtain ⟨w5, hw5⟩ : ∃ w5, w5 = w4.setCell ⟨w.heap.size + 1, 1, none⟩ (.slice (some ⟨b1, 0, none⟩) n n) := ⟨_, rfl⟩
  have T5 := Lib.hid (show TrS w g s (t3 s z) (.int .u32 v) (.slice (some ⟨b1, 0, none⟩) n n) (.slice none 0 0) (.int .u32 0) w5 from by rw [hw5]; exact T4.out.set hg (T4.out.bt.set1 _))
  have R5 := Lib.hid (show w5.rowIs b1 47 (n * 4) (isF s (t2 s z) n) from by rw [hw5]; exact R4.out.setOther (by show b1 ≠ w.heap.size + 1; omega) _)
  go_upto_region 5 with (fail)
  rw [← hw5]
  clear hw5 a0 a1 a2 a3 fz f1 T4 R4
  go_wp2_with fail
  refine (outs_rd g s (t3 s z) w5 T5.out.rd HSZ.out).mono ?_
  rintro x w6 ⟨b2, rfl, hb2, r6, h6, o6⟩
  have T6 := Lib.hid (show TrS w g s (t4 s z) (.int .u32 v) (.slice (some ⟨b1, 0, none⟩) n n) (.slice none 0 0) (.int .u32 0) w6 from T5.out.step hg o6 h6)
  have RI6 := Lib.hid (R5.out.of_block (o6.block _ R5.out.lt (by omega)))
  have hl5 := T5.out.lt
  have hb2' : w.heap.size + 2 ≤ b2 := by omega
  obtain ⟨m, hm⟩ : ∃ m, osN s (t3 s z) = m := ⟨_, rfl⟩
  rw [hm] at r6
  rw [hm]
  have EO := Lib.hid hm
  have RO6 := Lib.hid r6
  have hne12 : b2 ≠ b1 := by have := R5.out.lt; omega
  clear hm h6 o6 r6 T5 R5 hl5 hb2
  obtain ⟨⟨a0, a1, a2, a3⟩, fz⟩ := T6.out.bt
  have f2 := fz 2
  obtain ⟨w7, hw7⟩ : ∃ w7, w7 = w6.setCell ⟨w.heap.size + 1, 2, none⟩ (.slice (some ⟨b2, 0, none⟩) m m) := ⟨_, rfl⟩
  have T7 := Lib.hid (show TrS w g s (t4 s z) (.int .u32 v) (.slice (some ⟨b1, 0, none⟩) n n) (.slice (some ⟨b2, 0, none⟩) m m) (.int .u32 0) w7 from by rw [hw7]; exact T6.out.set hg (T6.out.bt.set2 _))
  have RI7 := Lib.hid (show w7.rowIs b1 47 (n * 4) (isF s (t2 s z) n) from by rw [hw7]; exact RI6.out.setOther (by show b1 ≠ w.heap.size + 1; omega) _)
  have RO7 := Lib.hid (show w7.rowIs b2 51 (m * 2) (osF s (t3 s z) m) from by rw [hw7]; exact RO6.out.setOther (by show b2 ≠ w.heap.size + 1; omega) _)
  go_upto_region 6 with (fail)
  rw [← hw7]
  clear hw7 a0 a1 a2 a3 fz f2 T6 RI6 RO6
  go_upto_if 16 with (fail)
  go_cut [] (fun wx => Hid (InsDone w s z b1 wx ∧ wx.rowIs b2 51 (m * 2) (osF s (t3 s z) m) ∧ TrS w g s (t5 s z) (.int .u32 v) (.slice (some ⟨b1, 0, none⟩) n n) (.slice (some ⟨b2, 0, none⟩) m m) (.int .u32 0) wx))
  case first =>
    cases mk
    · go_wp2_with fail
      go_meet
      refine Lib.hid ⟨done_none EM.out ?_, RO7.out, ?_⟩
      · rw [EN.out]; exact RI7.out
      · unfold t5
        rw [EM.out, if_neg (by decide)]
        exact T7.out
    · obtain ⟨⟨a0, a1, a2, a3⟩, fz⟩ := T7.out.bt
      go_wp2_with fail
      refine (witnesses_rd g b1 n s (t4 s z) _ w7 T7.out.rd HSZ.out hn256 RI7.out (by omega)).mono ?_
      rintro x w8 ⟨rfl, c, r8, hc8, h8, o8⟩
      go_wp2_with fail
      go_meet
      have hl7 := T7.out.lt
      refine Lib.hid ⟨done_some (wr := w7) (c := c) EM.out hl7 ?_ ?_, RO7.out.of_block (o8.block _ RO7.out.lt (by omega) hne12), ?_⟩
      · rw [EN.out]; exact r8
      · rw [EN.out]; exact hc8
      · unfold t5
        rw [EM.out, if_pos rfl, EN.out]
        exact T7.out.two hg hb1' o8 h8
  case rest =>
    obtain ⟨D8', R8', T8'⟩ := hcut.out
    have D8 := Lib.hid D8'
    have R8 := Lib.hid R8'
    have T8 := Lib.hid T8'
    clear hcut D8' R8' T8' T7 RI7 RO7
    go_wp2_with fail
    refine (word_st g s (t5 s z) wc T8.out.rd HSZ.out).mono ?_
    rintro x w9 ⟨rfl, h9, o9⟩
    have T9 := Lib.hid (show TrS w g s (t6 s z) (.int .u32 v) (.slice (some ⟨b1, 0, none⟩) n n) (.slice (some ⟨b2, 0, none⟩) m m) (.int .u32 0) w9 from T8.out.step hg o9 h9)
    have D9 := Lib.hid (D8.out.keep hb1' (o9.kept (by omega)) o9.size)
    have R9 := Lib.hid (R8.out.of_block (o9.block _ R8.out.lt (by omega)))
    clear h9 o9 T8 D8 R8
    obtain ⟨⟨a0, a1, a2, a3⟩, fz⟩ := T9.out.bt
    have f3 := fz 3
    obtain ⟨lk, hlk⟩ : ∃ lk, wdV s (t5 s z) = lk := ⟨_, rfl⟩
    rw [hlk]
    have EL := Lib.hid hlk
    obtain ⟨wk, hwk⟩ : ∃ wk, wk = w9.setCell ⟨w.heap.size + 1, 3, none⟩ (.int .u32 lk) := ⟨_, rfl⟩
    have TK := Lib.hid (show TrS w g s (t6 s z) (.int .u32 v) (.slice (some ⟨b1, 0, none⟩) n n) (.slice (some ⟨b2, 0, none⟩) m m) (.int .u32 lk) wk from by rw [hwk]; exact T9.out.set hg (T9.out.bt.set3 _))
    have DK := Lib.hid (show InsDone w s z b1 wk from by rw [hwk]; exact D9.out.keep hb1' (keepSet _ (Nat.le_refl _)) (by rw [World.size_setCell]; exact Nat.le_refl _))
    have RK := Lib.hid (show wk.rowIs b2 51 (m * 2) (osF s (t3 s z) m) from by rw [hwk]; exact R9.out.setOther (by show b2 ≠ w.heap.size + 1; omega) _)
    go_upto_region 9 with (fail)
    rw [← hwk]
    clear hlk hwk a0 a1 a2 a3 fz f3 T9 D9 R9
    go_wp2_with fail
    refine (end_st g s (t6 s z) wk TK.out.rd).mono ?_
    rintro x wl ⟨rfl, hl, ol⟩
    have TL := Lib.hid (show TrS w g s (t7 s z) (.int .u32 v) (.slice (some ⟨b1, 0, none⟩) n n) (.slice (some ⟨b2, 0, none⟩) m m) (.int .u32 lk) wl from TK.out.step hg ol hl)
    have DL := Lib.hid (DK.out.keep hb1' (ol.kept (by omega)) ol.size)
    have RL := Lib.hid (RK.out.of_block (ol.block _ RK.out.lt (by omega)))
    clear hl ol TK DK RK
    obtain ⟨⟨a0, a1, a2, a3⟩, fz⟩ := TL.out.bt
    obtain ⟨⟨e0, e1, e2, e3⟩, fe⟩ := TL.out.br
    have f0 := fe 0
    have f1 := fe 1
    have f2 := fe 2
    have f3 := fe 3
    have en : (trD s z).ins.length = n := by show ((List.range (tN s z)).map (trIn s z)).length = n; rw [List.length_map, List.length_range]; exact EN.out
    have em : (trD s z).outs.length = m := by show ((List.range (osN s (t3 s z))).map (osV s (t3 s z))).length = m; rw [List.length_map, List.length_range]; exact EO.out
    have HT := Lib.hid (show TxAt wl (w.heap.size + 2) wl.heap.size (.slice (some ⟨b1, 0, none⟩) n n) (.slice (some ⟨b2, 0, none⟩) m m) (trD s z) from by
      have q1 := DL.out.ins hb1'
      have q2 := outs_row (w.heap.size + 2) hb2' RL.out
      rw [EN.out] at q1
      refine ⟨q1, ?_⟩
      show Outs wl _ _ _ ((List.range (osN s (t3 s z))).map (osV s (t3 s z)))
      rw [EO.out]
      exact q2)
    have HV := Lib.hid (show (trD s z).ver = v ∧ (trD s z).lock = lk from ⟨EV.out, EL.out⟩)
    have HN := Lib.hid (show (trD s z).ins.length = n ∧ (trD s z).outs.length = m from ⟨en, em⟩)
    clear en em
    go_wp2_with fail
    refine bodyPost_ret (v := .agg #[.int .u32 v, .slice (some ⟨b1, 0, none⟩) n n, .slice (some ⟨b2, 0, none⟩) m m, .int .u32 lk]) (by simp [results, Try.results29, go_sem, e0, e1, e2, e3]) rfl ?_
    rw [HV.out.1, HV.out.2, HN.out.1, HN.out.2]
    refine ⟨b1, b2, rfl, ?_, (((TL.out.rd.new (by omega) _).new (by omega) _).new (by omega) _).new (by omega) _, (((TL.out.only.new (Nat.le_refl _) _).new (Nat.le_refl _) _).new (Nat.le_refl _) _).new (Nat.le_refl _) _⟩
    exact (HT.out.put4 (g := w.heap.size) (.inl (by omega)) (.int .u32 v) (.slice (some ⟨b1, 0, none⟩) n n) (.slice (some ⟨b2, 0, none⟩) m m) (.int .u32 lk)).wide (by omega) (Nat.le_of_eq (put4_size _ _ _ _ _ _).symm)

end Go.Proofs.Ytkdkkndccjddnaa
