/-
  The document's Decode, walked.
-/
import Derived.Test.YtkdkkndccjddnaaRdec
import Derived.Deep.CutBlock
import Derived.BigRegion
import Derived.Test.YtkdkkndccjddnaaAwalk
import Derived.Deep.RegionHeld3
import Derived.Test.YtkdkkndccjddnaaPlawd
namespace Go.Proofs.Ytkdkkndccjddnaa
open Go.RowKit

theorem drB_new (w : World) : DrB w z0 (.int .u32 0) (.slice none 0 0) (.slice none 0 0) (.int .u32 0) (((w.alloc (.cells #[.int .u32 0, .slice none 0 0, .slice none 0 0, .int .u32 0] 26)).alloc (.cells #[.int .i64 0, .int .i64 0] 69)).alloc (.cells #[.int .u32 0, .slice none 0 0, .slice none 0 0, .int .u32 0] 26)) := by
  have s1 : (w.alloc (.cells #[.int .u32 0, .slice none 0 0, .slice none 0 0, .int .u32 0] 26)).heap.size = w.heap.size + 1 := by simp
  have s2 : ((w.alloc (.cells #[.int .u32 0, .slice none 0 0, .slice none 0 0, .int .u32 0] 26)).alloc (.cells #[.int .i64 0, .int .i64 0] 69)).heap.size = w.heap.size + 2 := by simp
  refine ⟨?_, ?_, ?_, by simp, (((Below.refl _ _).alloc (Nat.le_refl _) _).alloc (by simp) _).alloc (by simp; omega) _⟩
  · exact ((Open.new w _ _ _ _ 26).keep (Below.heap_alloc _ _ _ (by simp))).keep (Below.heap_alloc _ _ _ (by simp; omega))
  · have q := Two2.new (w.alloc (.cells #[.int .u32 0, .slice none 0 0, .slice none 0 0, .int .u32 0] 26)) (.int .i64 0) (.int .i64 0) 69
    rw [s1] at q
    exact q.keep (Below.heap_alloc _ _ _ (by omega))
  · have q := Open.new ((w.alloc (.cells #[.int .u32 0, .slice none 0 0, .slice none 0 0, .int .u32 0] 26)).alloc (.cells #[.int .i64 0, .int .i64 0] 69)) (.int .u32 0) (.slice none 0 0) (.slice none 0 0) (.int .u32 0) 26
    rw [s2] at q
    exact q

theorem take_at {P : Program} {ops : Array Oper} {Q : Exit → Act → World → Prop} {md : Region.Mode} {S : World → Prop} {i d : Nat} {oi : Oper} {v : Value} {fuel : Nat} {listed : Array Bool} {a : Act} {w : World}
    (hi : ops[i]? = some oi) (hd : oi.dst = some d) (hs : Region.noSelect ops = true) (hf : Region.free md ops listed i = true) (hr : (Region.ready md ops listed).contains i = true)
    (hQ : ∀ c a w, Q (.panic c) (a.put (some d) v) w → Q (.panic c) a w) (hy : YieldsIf P ops S oi v a) (hS : S w)
    (h : wpAnyH P md ops Q S fuel (listed.setIfInBounds i true) (a.put (some d) v) w) : wpAnyH P md ops Q S (fuel + 1) listed a w :=
  wpAnyH_take (oi := oi) (v := v) hi hs hf hr (by rw [hd]; exact hQ) hy hS (by rw [hd]; exact h)
theorem WtS.far {w wr wA w1 : World} {v0 : Value} {g n cap : Nat} {Ao : Option Addr} {co : Nat} {F : Nat → InD} {os : List OutD} {T0 T : Nat} {W : Nat → List ByteArray} {i : Nat} {ps : List ByteArray} {z : St} {u : Value} (h : WtS w v0 g n cap Ao co F os T0 T W i ps z wr) (hu : wr.cell? ⟨g, i * 4 + 3, none⟩ = some u) (hus : wr.ownsRow T 9 1 u ps.length (ps.map Value.string)) (hA : Below wr.heap.size wr wA) (hgrow : wA.grownBy w1 u.ownBlock) :
    w1.cell? ⟨w.heap.size + 2, 1, none⟩ = some (.slice (some ⟨g, 0, none⟩) n cap) ∧ w1.cell? ⟨g, i * 4 + 3, none⟩ = some u ∧ w1.frozen? ⟨g, i * 4 + 3, none⟩ = false := by
  obtain ⟨l1, l2, l3, l4⟩ := h.lt
  have hB : Below T wr w1 := (hA.mono l4).grown hgrow (by have := hA.size; omega) (own_block hus)
  obtain ⟨cu, hcu⟩ := h.blk
  exact ⟨(hB.cell (p := ⟨w.heap.size + 2, 1, none⟩) (by show w.heap.size + 2 < T; omega)).trans h.b.tb.1.2.1, (hB.cell (p := ⟨g, i * 4 + 3, none⟩) (by show g < T; omega)).trans hu, Lib.frozen_of_heap ((hB.block g (by omega)).trans hcu) _⟩
theorem news1 {w : World} {B : Nat} {p : ByteArray} (hb : w.heap[B]? = some (.cells #[.string p] 9 (0, 0))) : ∀ j u, [Value.string p][j]? = some u → w.cell? ((⟨B, 0, none⟩ : Addr).add j) = some u := World.news_of_block hb
theorem InsNil.ins {w : World} {base top : Nat} {v : Value} {ys : List InD} (h : InsNil w base top v ys) (hw : ∀ x ∈ ys, x.wit = []) : Ins w base top v ys := by
  obtain ⟨cells, ⟨hown, ht⟩, hall⟩ := h
  rcases hown.2 with ⟨rfl, h0⟩ | ⟨g, cap, cur, rfl, hb, hg, hn, hm, hs, htk⟩
  · have : ys = [] := List.eq_nil_of_length_eq_zero h0
    subst this
    exact Ins.nil _ _ _
  · refine ⟨_, cap, rfl, hn, .inr ⟨g, 0, rfl, hb, ht g rfl, fun k x hk => ?_⟩⟩
    obtain ⟨c0, c1, c2, c3⟩ := hall k x hk
    have hc := hown.cells (g := g) rfl
    have a0 := hc _ _ c0
    have a1 := hc _ _ c1
    have a2 := hc _ _ c2
    have a3 := hc _ _ c3
    simp only [Addr.add_lit, Nat.zero_add] at a0 a1 a2 a3
    rw [Nat.zero_add]
    exact ⟨a0, a1, a2, _, a3, by rw [hw x (List.mem_of_getElem? hk)]; exact Strs.nil _ _ _⟩
theorem dc_bad {s : ByteArray} {a : Nat} (h : t5 s z0 = ⟨a, 4⟩) : dcA s = a ∧ dcE s = 4 ∧ dcT s = ⟨0, [], [], 0⟩ := by
  have h6 : t6 s z0 = ⟨a, 4⟩ := by unfold t6; rw [h]; exact wdSt_old (by show ¬ (4 : Int) = 0; decide)
  have h7 : t7 s z0 = ⟨a, 4⟩ := by
    unfold t7
    rw [h6]
    show St.mk a (endE s a 4) = _
    unfold endE
    split <;> rfl
  have hE : dcE s = 4 := by unfold dcE; rw [h7]; rfl
  exact ⟨by unfold dcA; rw [h7], hE, by unfold dcT; rw [hE]; rfl⟩
/-- The state behind the Witnesses, as the document's loop leaves it. -/
def wEnd (s : ByteArray) : St := if tM s z0 = true then wsAt s (t4 s z0) (tN s z0) else t4 s z0
/-- The transaction, but for its LockTime. -/
def trL (s : ByteArray) : TxD := ⟨(trD s z0).ver, (trD s z0).ins, (trD s z0).outs, 0⟩
def AfterL (w : World) (s : ByteArray) (v : Int) (vi vo : Value) (b : Bool) (wx : World) : Prop :=
  DrB w (wEnd s) (.int .u32 v) vi vo (.int .u32 0) wx ∧ ((wEnd s).e = 0 → TxAt wx (w.heap.size + 3) wx.heap.size vi vo (trL s) ∧ (tM s z0 = true → b = decide (0 < wsT s (t4 s z0) (tN s z0))))

set_option maxHeartbeats 4000000 in
set_option maxRecDepth 100000 in
theorem rdecode_any (s : ByteArray) (w : World) (hs : s.size ≤ 140737488355328) :
    Calls Try.prog 16 #[.string s] w fun x w' => ∃ (vi vo : Value), x = .returned (.tuple #[.agg #[.int .u32 (dcT s).ver, vi, vo, .int .u32 (dcT s).lock], .int .i64 (dcA s), .int .i64 (dcE s)]) ∧
      TxAt w' w.heap.size w'.heap.size vi vo (dcT s) ∧ Below w.heap.size w w' := by
  have HSZ := Lib.hid hs
  obtain ⟨W, hW⟩ : ∃ W, W = (((w.alloc (.cells #[.int .u32 0, .slice none 0 0, .slice none 0 0, .int .u32 0] 26)).alloc (.cells #[.int .i64 0, .int .i64 0] 69)).alloc (.cells #[.int .u32 0, .slice none 0 0, .slice none 0 0, .int .u32 0] 26)) := ⟨_, rfl⟩
  have S0 := Lib.hid (drB_new w)
  rw [← hW] at S0
  have HW := Lib.hid hW
  obtain ⟨p1, p2, p3, p4, p5, p6⟩ := places s
  have P := Lib.hid (places s)
  have C31 := Lib.hid (show Calls Try.prog 31 #[.string s, .agg #[.int .i64 0, .int .i64 0], .int .i64 4, .int .u64 4294967295, .int .i64 3] W (DcGives W (.int .u64 (wdV s z0)) (t1 s z0)) from rword_st s z0 W hs (Nat.zero_le _))
  have hv := wdV_in s z0
  obtain ⟨v, hvv⟩ : ∃ v, wdV s z0 = v := ⟨_, rfl⟩
  obtain ⟨y1, hy1⟩ : ∃ y1, t1 s z0 = y1 := ⟨_, rfl⟩
  rw [hvv] at C31 hv
  rw [hy1] at C31 p1
  have EV := Lib.hid hvv
  have E1 := Lib.hid hy1
  have hwr : IntKind.u32.wrap v = v := by rw [IntKind.wrap_u32]; exact Int.emod_eq_of_lt hv.1 (by omega)
  clear hW hs hvv hy1 p2 p3 p4 p5 p6
  go_enter Try.func16, Try.ntmps16
  go_upto_region 3 with (fail)
  rw [show World.alloc (World.alloc (World.alloc w _) _) _ = W from HW.out.symm]
  obtain ⟨a0, a1, fa⟩ := S0.out.zb
  have a0' : W.cell? ⟨w.heap.size + 1, 0, none⟩ = some (.int .i64 0) := a0
  have a1' : W.cell? ⟨w.heap.size + 1, 1, none⟩ = some (.int .i64 0) := a1
  clear a0 a1
  go_wp2_with fail
  refine C31.out.mono ?_
  rintro x w1 ⟨rfl, hb1⟩
  have S1 := Lib.hid (S0.out.below hb1 S0.out.le)
  clear hb1 a0' a1' fa S0 C31 HW
  obtain ⟨d0, d1, fd⟩ := S1.out.zb
  have g0 := fd 0
  have g1 := fd 1
  obtain ⟨w2, hw2⟩ : ∃ w2, w2 = (w1.setCell ⟨w.heap.size + 1, 0, none⟩ (.int .i64 y1.a)).setCell ⟨w.heap.size + 1, 1, none⟩ (.int .i64 y1.e) := ⟨_, rfl⟩
  have S2 := Lib.hid (show DrB w y1 (.int .u32 0) (.slice none 0 0) (.slice none 0 0) (.int .u32 0) w2 from by rw [hw2]; exact S1.out.put y1)
  go_upto_region 4 with (fail)
  rw [← hw2]
  clear hw2 d0 d1 fd g0 g1 S1
  obtain ⟨⟨e0, e1, e2, e3⟩, fe⟩ := S2.out.tb
  have h0 := fe 0
  obtain ⟨w3, hw3⟩ : ∃ w3, w3 = w2.setCell ⟨w.heap.size + 2, 0, none⟩ (.int .u32 v) := ⟨_, rfl⟩
  have S3 := Lib.hid (show DrB w y1 (.int .u32 v) (.slice none 0 0) (.slice none 0 0) (.int .u32 0) w3 from by rw [hw3]; exact S2.out.set (S2.out.tb.set0 _))
  go_upto_region 5 with (fail)
  rw [← hw3]
  clear hw3 e0 e1 e2 e3 fe h0 S2
  have EM := Lib.hid (show tM s z0 = mkV s y1 from by unfold tM; rw [E1.out])
  obtain ⟨a0, a1, fa⟩ := S3.out.zb
  go_cut [8] (fun m wx => m = .bool (mkV s y1) ∧ wx = w3)
  case first => as_aux_lemma =>
    by_cases he : y1.e = 0
    · have q1 : (y1.e == 0) = true := by simpa using he
      by_cases ha : y1.a < s.size
      · have q2 : (y1.a : Int) < (s.size : Int) := by omega
        have q3 : decide (y1.a < s.size) = true := decide_eq_true ha
        have q4 := fun W => Vi.index_fst s y1.a ha W
        have EE := Lib.hid (mk_doc he ha)
        clear he ha
        go_wp2_with fail
        go_meet
        exact ⟨by rw [EE.out], rfl⟩
      · have q2 : ¬ (y1.a : Int) < (s.size : Int) := by omega
        have q3 : decide (y1.a < s.size) = false := decide_eq_false ha
        have EE := Lib.hid (mk_doc_end ha)
        clear he ha
        go_wp2_with fail
        go_meet
        exact ⟨by rw [EE.out], rfl⟩
    · have q1 : (y1.e == 0) = false := by simpa using he
      have EE := Lib.hid (mk_doc_err (s := s) he)
      clear he
      go_wp2_with fail
      go_meet
      exact ⟨by rw [EE.out], rfl⟩
  case rest =>
    obtain ⟨rfl, rfl⟩ := hcut
    obtain ⟨mk, hmk⟩ : ∃ mk, mkV s y1 = mk := ⟨_, rfl⟩
    rw [hmk]
    have EM2 := Lib.hid hmk
    clear a0 a1 fa
    have E2 := Lib.hid (show t2 s z0 = mkSt s y1 from by unfold t2; rw [E1.out])
    go_upto_if 42 with (fail)
    go_cut [7] (fun v7 wx => (∃ n, v7 = .int .u64 n) ∧ Hid (DrB w (t2 s z0) (.int .u32 v) (.slice none 0 0) (.slice none 0 0) (.int .u32 0) wx))
    case first => as_aux_lemma =>
      cases mk
      · have EE := Lib.hid (show t2 s z0 = y1 from by rw [E2.out, mkSt_eq, hmk]; rfl)
        clear hmk
        go_wp2_with fail
        go_meet
        rw [EE.out]
        exact ⟨⟨_, rfl⟩, S3⟩
      · obtain ⟨a, e⟩ := y1
        have hm' : (Vi.okB s a 1 && (Vi.getN s a 1 == 0) && (e == 0)) = true := hmk
        simp only [Bool.and_eq_true] at hm'
        have he : e = 0 := by simpa using hm'.2
        have hok := okB_le hm'.1.1
        subst he
        obtain ⟨b, hb⟩ : ∃ b : Nat, b = a + 1 := ⟨_, rfl⟩
        have vb : IntKind.i64.wrap ((a : Int) + 1) = (b : Int) := by have := HSZ.out; rw [IntWalk.i64_in _ (by omega)]; omega
        have vc : IntKind.i64.wrap (((b + 1 : Nat) : Int) - 1) = (b : Int) := by have := HSZ.out; rw [IntWalk.i64_in _ (by omega)]; omega
        have EE := Lib.hid (show t2 s z0 = numSt s 1 1 1 4 ⟨b, 0⟩ from by rw [E2.out, mkSt_eq, hmk, if_pos rfl, hb])
        have FD := Lib.hid (flag_doc (s := s) (a := b))
        have D31 := Lib.hid (fun W => show Calls Try.prog 31 #[.string s, .agg #[.int .i64 (b : Int), .int .i64 0], .int .i64 1, .int .u64 1, .int .i64 4] W (DcGives W (.int .u64 (numV s 1 0 1 4 ⟨b, 0⟩)) (numSt s 1 0 1 4 ⟨b, 0⟩)) from rnumber_st s ⟨b, 0⟩ 1 1 4 W HSZ.out (by show b ≤ s.size; omega) (by omega) (by omega) (by omega) (getN_pos _ _ _))
        obtain ⟨y2, hy2⟩ : ∃ y2, numSt s 1 0 1 4 ⟨b, 0⟩ = y2 := ⟨_, rfl⟩
        obtain ⟨v2, hv2⟩ : ∃ v2, numV s 1 0 1 4 ⟨b, 0⟩ = v2 := ⟨_, rfl⟩
        rw [hy2, hv2] at FD D31
        have HBS := Lib.hid (show b ≤ s.size from by omega)
        clear hm' hok hy2 hv2 hmk hb
        obtain ⟨a0, a1, fa⟩ := S3.out.zb
        have f0 := fa 0
        obtain ⟨w4, hw4⟩ : ∃ w4, w4 = wc.setCell ⟨w.heap.size + 1, 0, none⟩ (.int .i64 b) := ⟨_, rfl⟩
        have S4 := Lib.hid (show DrB w ⟨b, 0⟩ (.int .u32 v) (.slice none 0 0) (.slice none 0 0) (.int .u32 0) w4 from by rw [hw4]; exact S3.out.putA b)
        go_upto_region 8 with (fail)
        rw [← hw4]
        clear hw4 a0 a1 fa f0
        obtain ⟨a0, a1, fa⟩ := S4.out.zb
        go_wp2_with fail
        refine (D31.out w4).mono ?_
        rintro x w5 ⟨rfl, hb5⟩
        have S5 := Lib.hid (S4.out.below hb5 S4.out.le)
        clear hb5 a0 a1 fa S4
        obtain ⟨a0, a1, fa⟩ := S5.out.zb
        have f0 := fa 0
        have f1 := fa 1
        obtain ⟨w6, hw6⟩ : ∃ w6, w6 = (w5.setCell ⟨w.heap.size + 1, 0, none⟩ (.int .i64 y2.a)).setCell ⟨w.heap.size + 1, 1, none⟩ (.int .i64 y2.e) := ⟨_, rfl⟩
        have S6 := Lib.hid (show DrB w y2 (.int .u32 v) (.slice none 0 0) (.slice none 0 0) (.int .u32 0) w6 from by rw [hw6]; exact S5.out.put y2)
        go_upto_region 9 with (fail)
        rw [← hw6]
        clear hw6 a0 a1 fa f0 f1 S5
        obtain ⟨a0, a1, fa⟩ := S6.out.zb
        have f0 := fa 0
        have f1 := fa 1
        by_cases he : y2.e = 0
        · have q1 : (y2.e == 0) = true := by simpa using he
          by_cases hv2 : v2 = 0
          · have q2 : (v2 == 0) = true := by simpa using hv2
            have hya := FD.out.2 he
            have ER := Lib.hid (show numSt s 1 1 1 4 ⟨b, 0⟩ = ⟨b, 4⟩ from by rw [← FD.out.1, if_pos ⟨he, hv2⟩])
            have S8 := Lib.hid ((S6.out.putA b).putE 4)
            rw [hya] at a0
            have vd : wrap64 (b : Int) = (b : Int) := by have := HBS.out; have := HSZ.out; unfold wrap64; omega
            clear he hv2 hya
            go_wp2_with fail
            go_meet
            rw [EE.out, ER.out]
            exact ⟨⟨_, rfl⟩, S8⟩
          · have q2 : (v2 == 0) = false := by simpa using hv2
            have ER := Lib.hid (show numSt s 1 1 1 4 ⟨b, 0⟩ = y2 from by rw [← FD.out.1, if_neg (fun h => hv2 h.2)])
            clear he hv2
            go_wp2_with fail
            go_meet
            rw [EE.out, ER.out]
            exact ⟨⟨_, rfl⟩, S6⟩
        · have q1 : (y2.e == 0) = false := by simpa using he
          have ER := Lib.hid (show numSt s 1 1 1 4 ⟨b, 0⟩ = y2 from by rw [← FD.out.1, if_neg (fun h => he h.1)])
          clear he
          go_wp2_with fail
          go_meet
          rw [EE.out, ER.out]
          exact ⟨⟨_, rfl⟩, S6⟩
    case rest =>
      obtain ⟨⟨n7, rfl⟩, S4⟩ := hcut
      have p2 := P.out.2.1
      have p3 := P.out.2.2.1
      have p4 := P.out.2.2.2.1
      have C32 := Lib.hid (rinz_st s (t2 s z0) wc HSZ.out p2)
      obtain ⟨y2, hy2⟩ : ∃ y2, t2 s z0 = y2 := ⟨_, rfl⟩
      obtain ⟨y3, hy3⟩ : ∃ y3, isSt s y2 = y3 := ⟨_, rfl⟩
      obtain ⟨y4, hy4⟩ : ∃ y4, osSt s y3 = y4 := ⟨_, rfl⟩
      have Y3 := Lib.hid (show t3 s z0 = y3 from by rw [← hy3, ← hy2]; rfl)
      have Y4 := Lib.hid (show t4 s z0 = y4 from by rw [← hy4]; unfold t4; rw [Y3.out])
      have Y2 := Lib.hid hy2
      rw [Y3.out] at p3
      rw [Y4.out] at p4
      have C33 := Lib.hid (fun W => routs_st s y3 W HSZ.out p3)
      rw [hy2, hy3] at C32
      rw [hy4] at C33
      rw [hy2] at S4
      have P4 := Lib.hid p4
      clear hy2 hy3 hy4 p2 p3 p4 S3
      have hwz : w.heap.size + 3 ≤ wc.heap.size := S4.out.le
      obtain ⟨a0, a1, fa⟩ := S4.out.zb
      go_wp2_with fail
      refine C32.out.mono ?_
      rintro x w5 ⟨vi, k1, hk1, hk1e, rfl, hin, hb5⟩
      have z5 := hb5.size
      have S5 := Lib.hid (S4.out.below hb5 S4.out.le)
      clear a0 a1 fa S4 C32
      obtain ⟨a0, a1, fa⟩ := S5.out.zb
      have f0 := fa 0
      have f1 := fa 1
      obtain ⟨⟨e0, e1, e2, e3⟩, fe⟩ := S5.out.tb
      have g1 := fe 1
      obtain ⟨Ai, ci, hvi⟩ : ∃ A c, vi = .slice A k1 c := by
        obtain ⟨_, hh, _⟩ := hin
        have := own_form hh.1
        simpa using this
      obtain ⟨w6, hw6⟩ : ∃ w6, w6 = ((w5.setCell ⟨w.heap.size + 1, 0, none⟩ (.int .i64 y3.a)).setCell ⟨w.heap.size + 1, 1, none⟩ (.int .i64 y3.e)).setCell ⟨w.heap.size + 2, 1, none⟩ vi := ⟨_, rfl⟩
      have S6 := Lib.hid (show DrB w y3 (.int .u32 v) vi (.slice none 0 0) (.int .u32 0) w6 from by rw [hw6]; exact (S5.out.put y3).set ((S5.out.put y3).tb.set1 _))
      have st6 : ∀ e, StayE (w.heap.size + 3) w5.heap.size e w5 w6 := fun e => by rw [hw6]; exact ((StayE.setCell (.inl (by show w.heap.size + 1 < w.heap.size + 3; omega)) _).trans (StayE.setCell (.inl (by show w.heap.size + 1 < w.heap.size + 3; omega)) _)).trans (StayE.setCell (.inl (by show w.heap.size + 2 < w.heap.size + 3; omega)) _)
      have z6 : w6.heap.size = w5.heap.size := by rw [hw6]; simp only [World.size_setCell]
      have I6 := Lib.hid ((hin.base (base' := w.heap.size + 3) (by omega)).keep (st6 47) (Nat.le_of_eq z6.symm))
      clear hin hb5 st6
      subst hvi
      go_upto_region 13 with (fail)
      rw [← hw6]
      clear hw6 a0 a1 fa f0 f1 e0 e1 e2 e3 fe g1 S5
      obtain ⟨a0, a1, fa⟩ := S6.out.zb
      go_wp2_with fail
      refine (C33.out w6).mono ?_
      rintro x w7 ⟨vo, k2, hk2, hk2e, rfl, hou, hb7⟩
      have z7 := hb7.size
      have S7 := Lib.hid (S6.out.below hb7 S6.out.le)
      clear a0 a1 fa S6 C33
      obtain ⟨a0, a1, fa⟩ := S7.out.zb
      have f0 := fa 0
      have f1 := fa 1
      obtain ⟨⟨e0, e1, e2, e3⟩, fe⟩ := S7.out.tb
      have g2 := fe 2
      obtain ⟨Ao, co, hvo⟩ : ∃ A c, vo = .slice A k2 c := by
        obtain ⟨_, hh, _⟩ := hou
        have := own_form hh.1
        simpa using this
      obtain ⟨w8, hw8⟩ : ∃ w8, w8 = ((w7.setCell ⟨w.heap.size + 1, 0, none⟩ (.int .i64 y4.a)).setCell ⟨w.heap.size + 1, 1, none⟩ (.int .i64 y4.e)).setCell ⟨w.heap.size + 2, 2, none⟩ vo := ⟨_, rfl⟩
      have S8 := Lib.hid (show DrB w y4 (.int .u32 v) (.slice Ai k1 ci) vo (.int .u32 0) w8 from by rw [hw8]; exact (S7.out.put y4).set ((S7.out.put y4).tb.set2 _))
      have st8 : ∀ e, StayE (w.heap.size + 3) w7.heap.size e w7 w8 := fun e => by rw [hw8]; exact ((StayE.setCell (.inl (by show w.heap.size + 1 < w.heap.size + 3; omega)) _).trans (StayE.setCell (.inl (by show w.heap.size + 1 < w.heap.size + 3; omega)) _)).trans (StayE.setCell (.inl (by show w.heap.size + 2 < w.heap.size + 3; omega)) _)
      have z8 : w8.heap.size = w7.heap.size := by rw [hw8]; simp only [World.size_setCell]
      have O8 := Lib.hid ((hou.base (base' := w.heap.size + 3) (by omega)).keep (st8 51) (Nat.le_of_eq z8.symm))
      have I8 := Lib.hid ((I6.out.keep (top' := w7.heap.size) (StayE.of_below hb7 (Nat.le_refl _)) z7).keep (st8 47) (Nat.le_of_eq z8.symm))
      clear hou hb7 st8 I6
      subst hvo
      go_upto_region 14 with (fail)
      rw [← hw8]
      clear hw8 a0 a1 fa f0 f1 e0 e1 e2 e3 fe g2 S7
      obtain ⟨a0, a1, fa⟩ := S8.out.zb
      go_upto_block 0 with (fail)
      have PT := Lib.hid (show (y4.e = 0 → k1 = tN s z0 ∧ k2 = osN s y3 ∧ 1 ≤ tN s z0) ∧ tN s z0 ≤ 256 ∧ osN s y3 ≤ 256 from by
        refine ⟨fun he => ?_, ?_, ?_⟩
        · have e4 : (osSt s (t3 s z0)).e = 0 := by rw [show osSt s (t3 s z0) = t4 s z0 from rfl, Y4.out]; exact he
          have e3 : (t3 s z0).e = 0 := (os_at P.out.2.2.1 e4).1
          have e3' : (isSt s (t2 s z0)).e = 0 := e3
          have hall := iter_zero (fun z h => inSt_in h) (fun z h he => (in_at h he).1) (isN s (t2 s z0)) (cntSt s 1 256 6 (t2 s z0)) (cntSt_in _ _ _ P.out.2.1) e3'
          have hc0 : cntE s (t2 s z0).a (t2 s z0).e 1 256 6 = 0 := hall 0 (Nat.zero_le _)
          have h1 := spanE_in (by omega) hc0
          have hN : 1 ≤ tN s z0 := by
            show 1 ≤ (cntV s 1 256 6 (t2 s z0)).toNat
            unfold cntV
            rw [okN_yes hc0]
            omega
          refine ⟨?_, ?_, hN⟩
          · have := hk1e (by rw [← Y3.out]; exact e3)
            rw [this]
            show isN s y2 = isN s (t2 s z0)
            rw [Y2.out]
          · exact hk2e he
        · have := cntV_in (s := s) (z := t2 s z0) (lo := 1) (hi := 256) (out := 6) (by omega) (by omega) (by omega)
          show (cntV s 1 256 6 (t2 s z0)).toNat ≤ 256
          omega
        · have := cntV_in (s := s) (z := y3) (lo := 1) (hi := 256) (out := 6) (by omega) (by omega) (by omega)
          show (cntV s 1 256 6 y3).toNat ≤ 256
          omega)
      clear hk1 hk1e hk2 hk2e
      go_cut [10] (fun any wx => ∃ b, any = .bool b ∧ Hid (AfterL w s v (.slice Ai k1 ci) (.slice Ao k2 co) b wx))
      case first => as_aux_lemma =>
        by_cases hA : mk = true ∧ y4.e = 0
        · obtain ⟨rfl, hy4e⟩ := hA
          obtain ⟨hn, hk2, hn1⟩ := PT.out.1 hy4e
          have hn256 := PT.out.2.1
          have ho256 := PT.out.2.2
          obtain ⟨os, hos⟩ : ∃ os, (List.range (osN s y3)).map (osV s y3) = os := ⟨_, rfl⟩
          have hol : k2 = os.length := by rw [← hos, List.length_map, List.length_range]; exact hk2
          have EN := Lib.hid hn.symm
          rw [← hn] at hn1 hn256
          rw [← hk2] at ho256
          rw [show (List.range k2).map (osV s y3) = os from by rw [hk2, hos]] at O8
          have hk1' : isN s y2 = k1 := by rw [hn]; show isN s y2 = isN s (t2 s z0); rw [Y2.out]
          clear hk2 hn
          subst hol
          have EOS := Lib.hid hos
          have ETM := Lib.hid (show tM s z0 = true from by rw [EM.out, EM2.out])
          obtain ⟨g, cap, Ao', co', hvi, hcap, hvo, hco, hW0⟩ := wtS_new (W := fun j => wiL s (wsAt s y4 j)) S8.out I8.out O8.out hn1
          injection hvi with hA1 _ hA2
          injection hvo with hB1 _ hB2
          subst hA1 hA2 hB1 hB2
          have WT0 := Lib.hid hW0
          clear hos hW0 S8 I8 O8 a0 a1 fa hk1'
          clear hy4e
          have P4I := fun k => ws_in (s := s) (z := y4) P4.out k
          obtain ⟨i9, hi9, x0, x1, x2⟩ := info_parts info9
          go_wp2_with fail
          go_loopg [10, 11] k1 (fun gg b i wr => ∃ (k : Nat) (bb : Bool), k ≤ k1 ∧ k1 - k ≤ gg ∧ i = .int .i64 k ∧ b = .bool bb ∧ Hid (DrB w (wsAt s y4 k) (.int .u32 v) (.slice (some ⟨g, 0, none⟩) k1 ci) (.slice Ao os.length co) (.int .u32 0) wr ∧ ((wsAt s y4 k).e = 0 → bb = decide (0 < wsT s y4 k) ∧ ∃ T, WtS w (.int .u32 v) g k1 ci Ao co (isV s y2) os w8.heap.size T (fun j => wiL s (wsAt s y4 j)) k [] (wsAt s y4 k) wr)))
          case atStart => exact ⟨0, false, Nat.zero_le _, by omega, rfl, rfl, Lib.hid ⟨WT0.out.b, fun _ => ⟨by simp [wsT], _, WT0.out⟩⟩⟩
          case round => as_aux_lemma =>
            clear WT0
            obtain ⟨k, bb, hk, hgk, rfl, rfl, HR⟩ := hrel
            obtain ⟨y, hy⟩ : ∃ y, wsAt s y4 k = y := ⟨_, rfl⟩
            rw [hy] at HR
            have EY := Lib.hid hy
            have hya := P4I k
            rw [hy] at hya
            clear hy
            obtain ⟨a0, a1, fa⟩ := HR.out.1.zb
            obtain ⟨⟨e0, e1, e2, e3⟩, fe⟩ := HR.out.1.tb
            by_cases he : y.e = 0
            · have he1 : (y.e == 0) = true := by simpa using he
              obtain ⟨hbb, T, hWT⟩ := HR.out.2 he
              have HWT := Lib.hid hWT
              have HBB := Lib.hid hbb
              clear hWT HR hbb
              by_cases hkn : k < k1
              · have kk1 : (k : Int) < (k1 : Int) := by omega
                have k2 : decide (k < k1) = true := decide_eq_true hkn
                have C34 := Lib.hid (rcount_st s y 0 4 6 wr HSZ.out hya (by omega) (by omega) (by omega))
                obtain ⟨c, hc⟩ : ∃ c, cntSt s 0 4 6 y = c := ⟨_, rfl⟩
                have hcv := cntV_in (s := s) (z := y) (lo := 0) (hi := 4) (out := 6) (by omega) (by omega) (by omega)
                obtain ⟨m, hm⟩ : ∃ m : Nat, wiN s y = m := ⟨_, rfl⟩
                have hcm : cntV s 0 4 6 y = (m : Int) := by rw [← hm]; unfold wiN; omega
                have hm4 : m ≤ 4 := by omega
                have hca : c.a ≤ s.size := by rw [← hc]; exact cntSt_in _ _ _ hya
                rw [hcm, hc] at C34
                have EC := Lib.hid hc
                have EMW := Lib.hid hm
                have BB := Lib.hid (show (bb || decide (0 < m)) = decide (0 < wsT s y4 (k + 1)) from by
                  have : wsT s y4 (k + 1) = wsT s y4 k + wsN s y4 k := rfl
                  rw [this, HBB.out, show wsN s y4 k = m from by unfold wsN; rw [EY.out, hm]]
                  by_cases h1 : 0 < wsT s y4 k <;> by_cases h2 : 0 < m <;> simp [h1, h2] <;> omega)
                clear hc hm hcm hcv he
                go_wp2_with fail
                refine C34.out.mono ?_
                rintro x w9 ⟨rfl, hb9⟩
                have WT9 := Lib.hid (HWT.out.below hb9)
                clear hb9 a0 a1 fa e0 e1 e2 e3 fe HWT C34
                obtain ⟨a0, a1, fa⟩ := WT9.out.b.zb
                have f0 := fa 0
                have f1 := fa 1
                obtain ⟨w10, hw10⟩ : ∃ w10, w10 = (w9.setCell ⟨w.heap.size + 1, 0, none⟩ (.int .i64 c.a)).setCell ⟨w.heap.size + 1, 1, none⟩ (.int .i64 c.e) := ⟨_, rfl⟩
                have WT10 := Lib.hid (show WtS w (.int .u32 v) g k1 ci Ao co (isV s y2) os w8.heap.size T (fun j => wiL s (wsAt s y4 j)) k [] c w10 from by rw [hw10]; exact WT9.out.put c)
                go_upto_region 21 with (fail)
                rw [← hw10]
                clear hw10 a0 a1 fa f0 f1 WT9
                go_cut [10] (fun any wx => any = .bool (bb || decide (0 < m)) ∧ wx = w10)
                case first => as_aux_lemma =>
                  by_cases h2 : 0 < m
                  · have m1 : (0 : Int) < (m : Int) := by omega
                    have m2 : decide (0 < m) = true := decide_eq_true h2
                    cases bb
                    · go_wp2_with fail
                      go_meet
                      exact ⟨by rw [m2]; rfl, rfl⟩
                    · go_wp2_with fail
                      go_meet
                      exact ⟨rfl, rfl⟩
                  · have m1 : ¬ (0 : Int) < (m : Int) := by omega
                    have m2 : decide (0 < m) = false := decide_eq_false h2
                    cases bb
                    · go_wp2_with fail
                      go_meet
                      exact ⟨by rw [m2]; rfl, rfl⟩
                    · go_wp2_with fail
                      go_meet
                      exact ⟨rfl, rfl⟩
                case rest =>
                  obtain ⟨rfl, rfl⟩ := hcut
                  rw [BB.out]
                  obtain ⟨b2, hb2⟩ : ∃ b2, decide (0 < wsT s y4 (k + 1)) = b2 := ⟨_, rfl⟩
                  rw [hb2]
                  have EB := Lib.hid hb2
                  clear hb2 BB
                  have CIN := fun l => iter_in (s := s) (z := c) (f := itSt s) (fun _ hy => it_in hy) hca l
                  have EN1 := Lib.hid (show wsAt s y4 (k + 1) = iter (itSt s) m c from by
                    show wiSt s (wsAt s y4 k) = _
                    rw [EY.out]
                    unfold wiSt
                    rw [EMW.out, EC.out])
                  go_wp2_with fail
                  go_loopg [13] m (fun gg j wr => ∃ (l : Nat), l ≤ m ∧ m - l ≤ gg ∧ j = .int .i64 l ∧ Hid (DrB w (iter (itSt s) l c) (.int .u32 v) (.slice (some ⟨g, 0, none⟩) k1 ci) (.slice Ao os.length co) (.int .u32 0) wr ∧ ((iter (itSt s) l c).e = 0 → WtS w (.int .u32 v) g k1 ci Ao co (isV s y2) os w8.heap.size T (fun j => wiL s (wsAt s y4 j)) k ((List.range l).map (wiV s y)) (iter (itSt s) l c) wr)))
                  case atStart => exact ⟨0, Nat.zero_le _, by omega, rfl, Lib.hid ⟨WT10.out.b, fun _ => WT10.out⟩⟩
                  case round => as_aux_lemma =>
                    clear WT10
                    obtain ⟨l, hl, hgl, rfl, HI⟩ := hrel
                    obtain ⟨yl, hyl⟩ : ∃ yl, iter (itSt s) l c = yl := ⟨_, rfl⟩
                    rw [hyl] at HI
                    have EYL := Lib.hid hyl
                    have hyla := CIN l
                    rw [hyl] at hyla
                    clear hyl
                    obtain ⟨a0, a1, fa⟩ := HI.out.1.zb
                    by_cases hel : yl.e = 0
                    · have he2 : (yl.e == 0) = true := by simpa using hel
                      have HWI := Lib.hid (HI.out.2 hel)
                      clear HI hel
                      by_cases hlm : l < m
                      · have l1 : (l : Int) < (m : Int) := by omega
                        have l2 : decide (l < m) = true := decide_eq_true hlm
                        have C34 := Lib.hid (rcount_st s yl 0 80 20 wr HSZ.out hyla (by omega) (by omega) (by omega))
                        obtain ⟨yA, hyA⟩ : ∃ yA, cntSt s 0 80 20 yl = yA := ⟨_, rfl⟩
                        have hcv := cntV_in (s := s) (z := yl) (lo := 0) (hi := 80) (out := 20) (by omega) (by omega) (by omega)
                        obtain ⟨q, hq⟩ : ∃ q : Nat, itN s yl = q := ⟨_, rfl⟩
                        have hcq : cntV s 0 80 20 yl = (q : Int) := by rw [← hq]; unfold itN; omega
                        have hq80 : q ≤ 80 := by omega
                        have hAa : yA.a ≤ s.size := by rw [← hyA]; exact cntSt_in _ _ _ hyla
                        rw [hcq, hyA] at C34
                        have C35 := Lib.hid (fun W => rtext_st s yA q W HSZ.out hAa (by omega))
                        obtain ⟨yB, hyB⟩ : ∃ yB, bytSt s q yA = yB := ⟨_, rfl⟩
                        obtain ⟨p, hp⟩ : ∃ p, bytV s q yA = p := ⟨_, rfl⟩
                        rw [hyB, hp] at C35
                        have EIT := Lib.hid (show iter (itSt s) (l + 1) c = yB ∧ wiV s y l = p from by
                          have h1 : itSt s yl = yB := by unfold itSt; rw [hq, hyA, hyB]
                          have h2 : itV s yl = p := by unfold itV; rw [hq, hyA, hp]
                          refine ⟨?_, ?_⟩
                          · show itSt s (iter (itSt s) l c) = yB
                            rw [EYL.out, h1]
                          · unfold wiV
                            rw [EC.out, EYL.out, h2])
                        clear hq hyA hyB hp hcq hcv
                        go_wp2_with fail
                        refine C34.out.mono ?_
                        rintro x w11 ⟨rfl, hb11⟩
                        have WT11 := Lib.hid (HWI.out.below hb11)
                        clear hb11 a0 a1 fa HWI C34
                        obtain ⟨a0, a1, fa⟩ := WT11.out.b.zb
                        have f0 := fa 0
                        have f1 := fa 1
                        obtain ⟨w12, hw12⟩ : ∃ w12, w12 = (w11.setCell ⟨w.heap.size + 1, 0, none⟩ (.int .i64 yA.a)).setCell ⟨w.heap.size + 1, 1, none⟩ (.int .i64 yA.e) := ⟨_, rfl⟩
                        have WT12 := Lib.hid (show WtS w (.int .u32 v) g k1 ci Ao co (isV s y2) os w8.heap.size T (fun j => wiL s (wsAt s y4 j)) k ((List.range l).map (wiV s y)) yA w12 from by rw [hw12]; exact WT11.out.put yA)
                        go_upto_region 28 with (fail)
                        rw [← hw12]
                        clear hw12 a0 a1 fa f0 f1 WT11
                        obtain ⟨a0, a1, fa⟩ := WT12.out.b.zb
                        go_wp2_with fail
                        refine (C35.out w12).mono ?_
                        rintro x w13 ⟨rfl, hb13⟩
                        have WT13 := Lib.hid (WT12.out.below hb13)
                        clear hb13 a0 a1 fa WT12 C35
                        obtain ⟨a0, a1, fa⟩ := WT13.out.b.zb
                        have f0 := fa 0
                        have f1 := fa 1
                        obtain ⟨w14, hw14⟩ : ∃ w14, w14 = (w13.setCell ⟨w.heap.size + 1, 0, none⟩ (.int .i64 yB.a)).setCell ⟨w.heap.size + 1, 1, none⟩ (.int .i64 yB.e) := ⟨_, rfl⟩
                        have WT14 := Lib.hid (show WtS w (.int .u32 v) g k1 ci Ao co (isV s y2) os w8.heap.size T (fun j => wiL s (wsAt s y4 j)) k ((List.range l).map (wiV s y)) yB w14 from by rw [hw14]; exact WT13.out.put yB)
                        go_upto_region 29 with (fail)
                        rw [← hw14]
                        clear hw14 a0 a1 fa f0 f1 WT13
                        obtain ⟨u, hu, hus⟩ := WT14.out.cur hkn
                        have hpl : ((List.range l).map (wiV s y)).length = l := by rw [List.length_map, List.length_range]
                        have HU := Lib.hid hu
                        have HUS := Lib.hid hus
                        have hus' := hus
                        rw [hpl] at hus'
                        obtain ⟨Au, cu, rfl⟩ := own_form hus'
                        obtain ⟨xs, hxs⟩ : ∃ xs, ((List.range l).map (wiV s y)).map Value.string = xs := ⟨_, rfl⟩
                        rw [hxs] at hus'
                        have HUO := Lib.hid hus'
                        have XS := Lib.hid hxs
                        have HPL := Lib.hid hpl
                        obtain ⟨q1, q2, q3, q4⟩ := WT14.out.lt
                        obtain ⟨⟨e0, e1, e2, e3⟩, fe⟩ := WT14.out.b.tb
                        obtain ⟨cg, hcg⟩ := WT14.out.blk
                        have f3 := Lib.frozen_of_heap hcg (k * 4 + 3)
                        have hgz : g < w14.heap.size := by omega
                        have htz : w.heap.size + 2 < w14.heap.size := by omega
                        have htz' : w.heap.size + 1 + 1 < w14.heap.size := by omega
                        have FAR := Lib.hid (fun wA w1 hA hg => WT14.out.far (wA := wA) (w1 := w1) HU.out HUS.out hA hg)
                        have BR := Lib.hid (Below.refl w14.heap.size w14)
                        clear hus hus' hxs hpl hcg cg e0 e2 e3 fe
                        have APP := Lib.hid (fun wA w1 v' hA hg ho => WT14.out.app (wA := wA) (w1 := w1) (v' := v') (p := p) HU.out HUS.out hA hg ho)
                        have hne2 : ¬ g = w.heap.size + 1 + 1 := by omega
                        have hne3 : ¬ w.heap.size + 1 + 1 = g := by omega
                        have HBA := Lib.hid (show Below w14.heap.size w14 (w14.alloc (.cells #[.string p] 9)).drew from ((Below.refl _ _).alloc (Nat.le_refl _) _).drew)
                        have HOA := Lib.hid (show (w14.alloc (.cells #[.string p] 9)).drew.ownsRow T 9 1 (.slice Au l cu) l xs from own_below HUO.out HBA.out)
                        have NEWS := Lib.hid (show ∀ j u, [Value.string p][j]? = some u → (w14.alloc (.cells #[.string p] 9)).drew.cell? ((⟨w14.heap.size, 0, none⟩ : Addr).add j) = some u from news1 (heap_alloc_new w14 _))
                        have ONE := Lib.hid (show ∀ u ∈ [Value.string p], u.oneCell' = true from by intro u hu; simp at hu; subst hu; rfl)
                        have HB1 := Lib.hid (show l + 1 ≤ maxLen from by unfold maxLen; omega)
                        have HB2 := Lib.hid (show (l + 1) * 16 ≤ 140737488355328 from by omega)
                        have HB3 := Lib.hid (show T ≤ (w14.alloc (.cells #[.string p] 9)).drew.heap.size from Nat.le_trans q4 HBA.out.size)
                        refine wp_region_held_drew (S := (fun w' => w'.cell? ⟨w.heap.size + 1 + 1, 1, none⟩ = some (.slice (some ⟨g, 0, none⟩) k1 ci))) (by kernel_rfl) ?_ (fun hHeld => ?_)
                        · exact e1
                        refine take_at (i := 0) (d := 130) (v := ?vq1) rfl rfl (by kernel_rfl) (by kernel_rfl) (by kernel_rfl) (fun _ _ _ h => h) (Or.inl ⟨by rfl, ?yq1⟩) hHeld ?rq1
                        case yq1 => (intro w hSw; (try dsimp only at hSw); go_simp; try with_reducible rfl)
                        simp only [Act.put, List.setIfInBounds_toArray, List.set_cons_zero, List.set_cons_succ]
                        refine take_at (i := 1) (d := 131) (v := ?vq2) rfl rfl (by kernel_rfl) (by kernel_rfl) (by kernel_rfl) (fun _ _ _ h => h) (Or.inl ⟨by rfl, ?yq2⟩) hHeld ?rq2
                        case yq2 => (intro w hSw; (try dsimp only at hSw); go_simp; try with_reducible rfl)
                        simp only [Act.put, List.setIfInBounds_toArray, List.set_cons_zero, List.set_cons_succ]
                        refine take_at (i := 2) (d := 132) (v := ?vq3) rfl rfl (by kernel_rfl) (by kernel_rfl) (by kernel_rfl) (fun _ _ _ h => h) (Or.inl ⟨by rfl, ?yq3⟩) hHeld ?rq3
                        case yq3 => (intro w hSw; (try dsimp only at hSw); go_simp; try with_reducible rfl)
                        simp only [Act.put, List.setIfInBounds_toArray, List.set_cons_zero, List.set_cons_succ]
                        refine take_at (i := 3) (d := 133) (v := ?vq4) rfl rfl (by kernel_rfl) (by kernel_rfl) (by kernel_rfl) (fun _ _ _ h => h) (Or.inl ⟨by rfl, ?yq4⟩) hHeld ?rq4
                        case yq4 => (intro w hSw; (try dsimp only at hSw); go_simp; try with_reducible rfl)
                        simp only [Act.put, List.setIfInBounds_toArray, List.set_cons_zero, List.set_cons_succ]
                        refine take_at (i := 4) (d := 134) (v := ?vq5) rfl rfl (by kernel_rfl) (by kernel_rfl) (by kernel_rfl) (fun _ _ _ h => h) (Or.inl ⟨by rfl, ?yq5⟩) hHeld ?rq5
                        case yq5 => (intro w hSw; (try dsimp only at hSw); go_simp; try with_reducible rfl)
                        simp only [Act.put, List.setIfInBounds_toArray, List.set_cons_zero, List.set_cons_succ]
                        refine take_at (i := 5) (d := 135) (v := ?vq6) rfl rfl (by kernel_rfl) (by kernel_rfl) (by kernel_rfl) (fun _ _ _ h => h) (Or.inl ⟨by rfl, ?yq6⟩) hHeld ?rq6
                        case yq6 => (intro w hSw; (try dsimp only at hSw); go_simp; try with_reducible rfl)
                        simp only [Act.put, List.setIfInBounds_toArray, List.set_cons_zero, List.set_cons_succ]
                        refine take_at (i := 6) (d := 136) (v := ?vq7) rfl rfl (by kernel_rfl) (by kernel_rfl) (by kernel_rfl) (fun _ _ _ h => h) (Or.inl ⟨by rfl, ?yq7⟩) hHeld ?rq7
                        case yq7 => (intro w hSw; (try dsimp only at hSw); go_simp; try with_reducible rfl)
                        simp only [Act.put, List.setIfInBounds_toArray, List.set_cons_zero, List.set_cons_succ]
                        refine take_at (i := 7) (d := 137) (v := ?vq8) rfl rfl (by kernel_rfl) (by kernel_rfl) (by kernel_rfl) (fun _ _ _ h => h) (Or.inl ⟨by rfl, ?yq8⟩) hHeld ?rq8
                        case yq8 => (intro w hSw; (try dsimp only at hSw); go_simp; try with_reducible rfl)
                        simp only [Act.put, List.setIfInBounds_toArray, List.set_cons_zero, List.set_cons_succ]
                        refine take_at (i := 9) (d := 139) (v := ?vq9) rfl rfl (by kernel_rfl) (by kernel_rfl) (by kernel_rfl) (fun _ _ _ h => h) (Or.inl ⟨by rfl, ?yq9⟩) hHeld ?rq9
                        case yq9 => (intro w hSw; (try dsimp only at hSw); go_simp; try with_reducible rfl)
                        simp only [Act.put, List.setIfInBounds_toArray, List.set_cons_zero, List.set_cons_succ]
                        refine wpAnyH_ready (rs := [8, 10]) (by kernel_rfl) (by simp) ?_
                        refine AllReadyH.cons (o := { dst := some 138, op := Op.load 45 (Operand.tmp 137), type := 45, pos := "ref.go:165", after := #[{ on := 7, ground := Ground.data }], guard := none }) rfl (fun K hK => ?_) ?_
                        · go_simp
                          refine hK.out _ _ ?_ (fun hHeld => ?_)
                          · first | exact e1 | exact hHeld | go_keep
                          clear hK K
                          try simp only [Act.put, List.setIfInBounds_toArray, List.set_cons_zero, List.set_cons_succ]
                          refine wpAnyH_ready (rs := [10]) (by kernel_rfl) (by simp) ?_
                          refine AllReadyH.cons (o := { dst := some 140, op := Op.buildSlice 45 1 #[(0, Operand.tmp 139)], type := 45, pos := "ref.go:165", after := #[{ on := 9, ground := Ground.data }], guard := none }) rfl (fun K hK => ?_) ?_
                          · go_simp
                            refine hK.out _ _ ?_ (fun hHeld => ?_)
                            · first | exact e1 | exact hHeld | go_keep
                            clear hK K
                            try simp only [Act.put, List.setIfInBounds_toArray, List.set_cons_zero, List.set_cons_succ]
                            refine wpAnyH_ready (rs := [11]) (by kernel_rfl) (by simp) ?_
                            refine AllReadyH.cons (o := { dst := some 141, op := Op.call { callee := Callee.builtin Builtin.append, args := #[Operand.tmp 138, Operand.tmp 140], argTypes := #[45, 45] }, type := 45, pos := "ref.go:165", after := #[{ on := 8, ground := Ground.data }, { on := 10, ground := Ground.data }], guard := none }) rfl (fun K hK => ?_) ?_
                            · refine step_append_lies (w14.alloc (.cells #[.string p] 9)).drew rfl (.tmp 138) (.tmp 140) 45 rfl T 9 i9 _ 1 16 Try.underlying45 hi9 x0 x1 x2 rfl (by decide) (.slice Au l cu) l xs (by rfl) HOA.out ⟨w14.heap.size, 0, none⟩ 1 1 [.string p] (by rfl) rfl NEWS.out ONE.out Nat.one_pos HB1.out HB2.out HB3.out _ rfl ?_
                              intro gn cap2 wz hown1 hgrow hat hlt
                              have HFA := FAR.out _ _ HBA.out hgrow
                              obtain ⟨r1, r2, r3⟩ := HFA
                              have HOWN1 := Lib.hid hown1
                              have HGR := Lib.hid hgrow
                              clear hown1 hgrow hat hlt
                              refine hK.out _ _ ?_ (fun hHeld => ?_)
                              · exact r1
                              clear hK K
                              try simp only [Act.put, List.setIfInBounds_toArray, List.set_cons_zero, List.set_cons_succ]
                              refine take_at (i := 12) (d := 142) (v := ?vq10) rfl rfl (by kernel_rfl) (by kernel_rfl) (by kernel_rfl) (fun _ _ _ h => h) (Or.inl ⟨by rfl, ?yq10⟩) hHeld ?rq10
                              case yq10 => (intro w hSw; (try dsimp only at hSw); go_simp; try with_reducible rfl)
                              simp only [Act.put, List.setIfInBounds_toArray, List.set_cons_zero, List.set_cons_succ]
                              refine take_at (i := 13) (d := 143) (v := ?vq11) rfl rfl (by kernel_rfl) (by kernel_rfl) (by kernel_rfl) (fun _ _ _ h => h) (Or.inl ⟨by rfl, ?yq11⟩) hHeld ?rq11
                              case yq11 => (intro w hSw; (try dsimp only at hSw); go_simp; try with_reducible rfl)
                              simp only [Act.put, List.setIfInBounds_toArray, List.set_cons_zero, List.set_cons_succ]
                              refine wpAnyH_ready (rs := [14]) (by kernel_rfl) (by simp) ?_
                              refine AllReadyH.cons (o := { dst := none, op := Op.store 45 (Operand.tmp 143) (Operand.tmp 141), type := 0, pos := "ref.go:165", after := #[{ on := 13, ground := Ground.data }, { on := 11, ground := Ground.data }, { on := 11, ground := Ground.chain }, { on := 0, ground := Ground.phase }, { on := 1, ground := Ground.phase }, { on := 2, ground := Ground.phase }, { on := 3, ground := Ground.phase }, { on := 4, ground := Ground.phase }, { on := 5, ground := Ground.phase }, { on := 6, ground := Ground.phase }, { on := 7, ground := Ground.phase }, { on := 8, ground := Ground.phase }, { on := 9, ground := Ground.phase }, { on := 10, ground := Ground.phase }, { on := 11, ground := Ground.phase }], guard := none }) rfl (fun K hK => ?_) ?_
                              · go_simp
                                refine hK.out _ _ ?_ (fun hHeld => ?_)
                                · first | exact e1 | exact hHeld | go_keep
                                clear hK K
                                try simp only [Act.put, List.setIfInBounds_toArray, List.set_cons_zero, List.set_cons_succ]
                                refine wpAnyH_done (by kernel_rfl) ?_ _
                                go_wp2_with fail
                                go_roundg (m - (l + 1))
                                case measure => omega
                                case rel =>
                                  have WN := APP.out _ _ _ HBA.out HGR.out (by rw [HPL.out, XS.out]; exact HOWN1.out)
                                  refine ⟨l + 1, by omega, by omega, by go_num, Lib.hid ⟨?_, fun _ => ?_⟩⟩
                                  · rw [EIT.out.1]; exact WN.b
                                  · rw [EIT.out.1, List.range_succ, List.map_append, List.map_cons, List.map_nil, EIT.out.2]
                                    exact WN
                              exact AllReadyH.nil
                            exact AllReadyH.nil
                          exact AllReadyH.nil
                        refine AllReadyH.cons (o := { dst := some 140, op := Op.buildSlice 45 1 #[(0, Operand.tmp 139)], type := 45, pos := "ref.go:165", after := #[{ on := 9, ground := Ground.data }], guard := none }) rfl (fun K hK => ?_) ?_
                        · go_simp
                          refine hK.out _ _ ?_ (fun hHeld => ?_)
                          · first | exact e1 | exact hHeld | go_keep
                          clear hK K
                          try simp only [Act.put, List.setIfInBounds_toArray, List.set_cons_zero, List.set_cons_succ]
                          refine wpAnyH_ready (rs := [8]) (by kernel_rfl) (by simp) ?_
                          refine AllReadyH.cons (o := { dst := some 138, op := Op.load 45 (Operand.tmp 137), type := 45, pos := "ref.go:165", after := #[{ on := 7, ground := Ground.data }], guard := none }) rfl (fun K hK => ?_) ?_
                          · go_simp
                            refine hK.out _ _ ?_ (fun hHeld => ?_)
                            · first | exact e1 | exact hHeld | go_keep
                            clear hK K
                            try simp only [Act.put, List.setIfInBounds_toArray, List.set_cons_zero, List.set_cons_succ]
                            refine wpAnyH_ready (rs := [11]) (by kernel_rfl) (by simp) ?_
                            refine AllReadyH.cons (o := { dst := some 141, op := Op.call { callee := Callee.builtin Builtin.append, args := #[Operand.tmp 138, Operand.tmp 140], argTypes := #[45, 45] }, type := 45, pos := "ref.go:165", after := #[{ on := 8, ground := Ground.data }, { on := 10, ground := Ground.data }], guard := none }) rfl (fun K hK => ?_) ?_
                            · refine step_append_lies (w14.alloc (.cells #[.string p] 9)).drew rfl (.tmp 138) (.tmp 140) 45 rfl T 9 i9 _ 1 16 Try.underlying45 hi9 x0 x1 x2 rfl (by decide) (.slice Au l cu) l xs (by rfl) HOA.out ⟨w14.heap.size, 0, none⟩ 1 1 [.string p] (by rfl) rfl NEWS.out ONE.out Nat.one_pos HB1.out HB2.out HB3.out _ rfl ?_
                              intro gn cap2 wz hown1 hgrow hat hlt
                              have HFA := FAR.out _ _ HBA.out hgrow
                              obtain ⟨r1, r2, r3⟩ := HFA
                              have HOWN1 := Lib.hid hown1
                              have HGR := Lib.hid hgrow
                              clear hown1 hgrow hat hlt
                              refine hK.out _ _ ?_ (fun hHeld => ?_)
                              · exact r1
                              clear hK K
                              try simp only [Act.put, List.setIfInBounds_toArray, List.set_cons_zero, List.set_cons_succ]
                              refine take_at (i := 12) (d := 142) (v := ?vq12) rfl rfl (by kernel_rfl) (by kernel_rfl) (by kernel_rfl) (fun _ _ _ h => h) (Or.inl ⟨by rfl, ?yq12⟩) hHeld ?rq12
                              case yq12 => (intro w hSw; (try dsimp only at hSw); go_simp; try with_reducible rfl)
                              simp only [Act.put, List.setIfInBounds_toArray, List.set_cons_zero, List.set_cons_succ]
                              refine take_at (i := 13) (d := 143) (v := ?vq13) rfl rfl (by kernel_rfl) (by kernel_rfl) (by kernel_rfl) (fun _ _ _ h => h) (Or.inl ⟨by rfl, ?yq13⟩) hHeld ?rq13
                              case yq13 => (intro w hSw; (try dsimp only at hSw); go_simp; try with_reducible rfl)
                              simp only [Act.put, List.setIfInBounds_toArray, List.set_cons_zero, List.set_cons_succ]
                              refine wpAnyH_ready (rs := [14]) (by kernel_rfl) (by simp) ?_
                              refine AllReadyH.cons (o := { dst := none, op := Op.store 45 (Operand.tmp 143) (Operand.tmp 141), type := 0, pos := "ref.go:165", after := #[{ on := 13, ground := Ground.data }, { on := 11, ground := Ground.data }, { on := 11, ground := Ground.chain }, { on := 0, ground := Ground.phase }, { on := 1, ground := Ground.phase }, { on := 2, ground := Ground.phase }, { on := 3, ground := Ground.phase }, { on := 4, ground := Ground.phase }, { on := 5, ground := Ground.phase }, { on := 6, ground := Ground.phase }, { on := 7, ground := Ground.phase }, { on := 8, ground := Ground.phase }, { on := 9, ground := Ground.phase }, { on := 10, ground := Ground.phase }, { on := 11, ground := Ground.phase }], guard := none }) rfl (fun K hK => ?_) ?_
                              · go_simp
                                refine hK.out _ _ ?_ (fun hHeld => ?_)
                                · first | exact e1 | exact hHeld | go_keep
                                clear hK K
                                try simp only [Act.put, List.setIfInBounds_toArray, List.set_cons_zero, List.set_cons_succ]
                                refine wpAnyH_done (by kernel_rfl) ?_ _
                                go_wp2_with fail
                                go_roundg (m - (l + 1))
                                case measure => omega
                                case rel =>
                                  have WN := APP.out _ _ _ HBA.out HGR.out (by rw [HPL.out, XS.out]; exact HOWN1.out)
                                  refine ⟨l + 1, by omega, by omega, by go_num, Lib.hid ⟨?_, fun _ => ?_⟩⟩
                                  · rw [EIT.out.1]; exact WN.b
                                  · rw [EIT.out.1, List.range_succ, List.map_append, List.map_cons, List.map_nil, EIT.out.2]
                                    exact WN
                              exact AllReadyH.nil
                            exact AllReadyH.nil
                          exact AllReadyH.nil
                        exact AllReadyH.nil
                      · have l1 : ¬ (l : Int) < (m : Int) := by omega
                        obtain rfl : l = m := by omega
                        have WN := Lib.hid (HWI.out.next (show wiL s (wsAt s y4 k) = (List.range l).map (wiV s y) from by unfold wiL; rw [EY.out, EMW.out]))
                        have EE := Lib.hid (show wsAt s y4 (k + 1) = yl from by rw [EN1.out, EYL.out])
                        go_wp2_with fail
                        go_roundg (k1 - (k + 1))
                        case measure => omega
                        case rel =>
                          refine ⟨k + 1, b2, by omega, by omega, by go_num, rfl, Lib.hid ?_⟩
                          rw [EE.out]
                          exact ⟨WN.out.b, fun _ => ⟨EB.out.symm, _, WN.out⟩⟩
                    · have he2 : (yl.e == 0) = false := by simpa using hel
                      have EE := Lib.hid (show wsAt s y4 (k + 1) = yl from by
                        obtain ⟨d, hd⟩ : ∃ d, m = l + d := ⟨m - l, by omega⟩
                        rw [EN1.out, hd]
                        clear hd
                        induction d with
                        | zero => exact EYL.out
                        | succ d ih =>
                          show itSt s (iter (itSt s) (l + d) c) = yl
                          rw [ih, it_old hel])
                      have HE := Lib.hid hel
                      have HD := Lib.hid HI.out.1
                      clear hel HI
                      by_cases hlm : l < m
                      · have l1 : (l : Int) < (m : Int) := by omega
                        have l2 : decide (l < m) = true := decide_eq_true hlm
                        go_wp2_with fail
                        go_roundg (k1 - (k + 1))
                        case measure => omega
                        case rel =>
                          refine ⟨k + 1, b2, by omega, by omega, by go_num, rfl, Lib.hid ?_⟩
                          rw [EE.out]
                          exact ⟨HD.out, fun h => absurd h HE.out⟩
                      · have l1 : ¬ (l : Int) < (m : Int) := by omega
                        go_wp2_with fail
                        go_roundg (k1 - (k + 1))
                        case measure => omega
                        case rel =>
                          refine ⟨k + 1, b2, by omega, by omega, by go_num, rfl, Lib.hid ?_⟩
                          rw [EE.out]
                          exact ⟨HD.out, fun h => absurd h HE.out⟩
              · have kk1 : ¬ (k : Int) < (k1 : Int) := by omega
                obtain rfl : k = k1 := by omega
                have AL := Lib.hid (show AfterL w s v (.slice (some ⟨g, 0, none⟩) k ci) (.slice Ao os.length co) bb wr from by
                  have ew : wEnd s = y := by unfold wEnd; rw [ETM.out, if_pos rfl, Y4.out, EN.out, EY.out]
                  refine ⟨by rw [ew]; exact HWT.out.b, fun _ => ⟨?_, fun _ => ?_⟩⟩
                  · have q := HWT.out.tx (Nat.le_refl _) hcap hco (trD s z0).ver 0
                    have eT : trL s = ⟨(trD s z0).ver, (List.range k).map (fun j => ⟨(isV s y2 j).id, (isV s y2 j).ix, (isV s y2 j).sq, wiL s (wsAt s y4 j)⟩), os, 0⟩ := by
                      unfold trL
                      have i1 : (trD s z0).ins = (List.range k).map (fun j => (⟨(isV s y2 j).id, (isV s y2 j).ix, (isV s y2 j).sq, wiL s (wsAt s y4 j)⟩ : InD)) := by
                        show (List.range (tN s z0)).map (trIn s z0) = _
                        rw [EN.out]
                        refine List.map_congr_left fun j _ => ?_
                        unfold trIn
                        rw [ETM.out, Y2.out, Y4.out]
                        rfl
                      have i2 : (trD s z0).outs = os := by
                        show (List.range (osN s (t3 s z0))).map (osV s (t3 s z0)) = os
                        rw [Y3.out, EOS.out]
                      rw [i1, i2]
                    rw [eT]
                    exact q
                  · rw [Y4.out, EN.out, HBB.out])
                go_wp2_with fail
                go_meet
                exact ⟨bb, rfl, AL⟩
            · have he1 : (y.e == 0) = false := by simpa using he
              have AL := Lib.hid (show AfterL w s v (.slice (some ⟨g, 0, none⟩) k1 ci) (.slice Ao os.length co) bb wr from by
                have ew : wEnd s = y := by
                  unfold wEnd
                  rw [ETM.out, if_pos rfl, Y4.out, EN.out]
                  obtain ⟨d, hd⟩ : ∃ d, k1 = k + d := ⟨k1 - k, by omega⟩
                  rw [hd]
                  clear hd
                  induction d with
                  | zero => exact EY.out
                  | succ d ih =>
                    show wiSt s (wsAt s y4 (k + d)) = y
                    rw [ih, wi_old he]
                refine ⟨by rw [ew]; exact HR.out.1, fun h => absurd h (by rw [ew]; exact he)⟩)
              clear he HR
              by_cases hkn : k < k1
              · have kk1 : (k : Int) < (k1 : Int) := by omega
                have k2 : decide (k < k1) = true := decide_eq_true hkn
                go_wp2_with fail
                go_meet
                exact ⟨bb, rfl, AL⟩
              · have kk1 : ¬ (k : Int) < (k1 : Int) := by omega
                go_wp2_with fail
                go_meet
                exact ⟨bb, rfl, AL⟩
        · have ETM := Lib.hid (show tM s z0 = mk from by rw [EM.out, EM2.out])
          have AL := Lib.hid (show AfterL w s v (.slice Ai k1 ci) (.slice Ao k2 co) false w8 from by
            cases mk
            · have ew : wEnd s = y4 := by unfold wEnd; rw [ETM.out, if_neg (by decide), Y4.out]
              refine ⟨by rw [ew]; exact S8.out, fun h => ⟨?_, fun h2 => by rw [ETM.out] at h2; cases h2⟩⟩
              rw [ew] at h
              obtain ⟨r1, r2, _⟩ := PT.out.1 h
              have eI : (trL s).ins = (List.range k1).map (isV s y2) := by
                show (List.range (tN s z0)).map (trIn s z0) = _
                rw [← r1]
                refine List.map_congr_left fun j _ => ?_
                unfold trIn
                rw [ETM.out, Y2.out]
                rfl
              have eO : (trL s).outs = (List.range k2).map (osV s y3) := by
                show (List.range (osN s (t3 s z0))).map (osV s (t3 s z0)) = _
                rw [Y3.out, r2]
              refine ⟨?_, ?_⟩
              · rw [eI]
                refine I8.out.ins fun x hx => ?_
                obtain ⟨j, _, rfl⟩ := List.mem_map.1 hx
                rfl
              · rw [eO]
                exact O8.out.outs
            · have he : ¬ y4.e = 0 := fun h => hA ⟨rfl, h⟩
              have ew : wEnd s = y4 := by unfold wEnd; rw [ETM.out, if_pos rfl, Y4.out]; exact iter_stay (fun y hy => wi_old hy) he _
              exact ⟨by rw [ew]; exact S8.out, fun h => absurd h (by rw [ew]; exact he)⟩)
          have HA := Lib.hid hA
          clear hA
          obtain ⟨⟨e0, e1, e2, e3⟩, fe⟩ := S8.out.tb
          go_wp2_with fail
          go_loopg [10, 11] 0 (fun gg b i wr => b = .bool false ∧ i = .int .i64 0 ∧ wr = w8)
          case atStart => exact ⟨rfl, rfl, rfl⟩
          case round =>
            obtain ⟨rfl, rfl, rfl⟩ := hrel
            cases mk
            · go_wp2_with fail
              go_meet
              exact ⟨false, rfl, AL⟩
            · have he1 : (y4.e == 0) = false := by simpa using fun h => HA.out ⟨rfl, h⟩
              by_cases hk : 0 < k1
              · have kk1 : (0 : Int) < (k1 : Int) := by omega
                have kk2 : decide (0 < k1) = true := decide_eq_true hk
                go_wp2_with fail
                go_meet
                exact ⟨false, rfl, AL⟩
              · have kk1 : ¬ (0 : Int) < (k1 : Int) := by omega
                have kk2 : decide (0 < k1) = false := decide_eq_false hk
                go_wp2_with fail
                go_meet
                exact ⟨false, rfl, AL⟩
      case rest =>
        obtain ⟨b, rfl, AL⟩ := hcut
        have ETM := Lib.hid (show tM s z0 = mk from by rw [EM.out, EM2.out])
        obtain ⟨yE, hyE⟩ : ∃ yE, wEnd s = yE := ⟨_, rfl⟩
        have hal := AL.out
        unfold AfterL at hal
        rw [hyE] at hal
        have S9 := Lib.hid hal.1
        have T9 := Lib.hid hal.2
        have EYE := Lib.hid hyE
        clear hal AL hyE S8 I8 O8 a0 a1 fa PT
        obtain ⟨a0, a1, fa⟩ := S9.out.zb
        have E5 := Lib.hid (show (yE.e = 0 ∧ mk = true ∧ b = false → t5 s z0 = ⟨y4.a, 4⟩) ∧ (¬ (yE.e = 0 ∧ mk = true ∧ b = false) → t5 s z0 = yE) from by
          have ew := EYE.out
          unfold wEnd at ew
          rw [ETM.out, Y4.out] at ew
          refine ⟨fun ⟨h1, h2, h3⟩ => ?_, fun h => ?_⟩
          · subst h2 h3
            rw [if_pos rfl] at ew
            have hb := (T9.out h1).2 ETM.out
            rw [Y4.out] at hb
            have hT : wsT s y4 (tN s z0) = 0 := by
              have := of_decide_eq_false hb.symm
              omega
            unfold t5 wsSt
            rw [ETM.out, if_pos rfl, Y4.out, if_pos ⟨hT, by rw [ew]; exact h1⟩]
          · unfold t5
            rw [ETM.out, Y4.out]
            cases mk
            · rw [if_neg (by decide)]
              rw [if_neg (by decide)] at ew
              exact ew
            · rw [if_pos rfl]
              rw [if_pos rfl] at ew
              unfold wsSt
              rw [if_neg, ew]
              rintro ⟨h1, h2⟩
              rw [ew] at h2
              refine h ⟨h2, rfl, ?_⟩
              have hb := (T9.out h2).2 ETM.out
              rw [Y4.out] at hb
              rw [hb]
              exact decide_eq_false (by omega))
        obtain ⟨w9, rfl⟩ : ∃ w9, w9 = wc := ⟨_, rfl⟩
        go_upto_region 30 with (fail)
        go_cut [153] (fun c wx => c = .bool (decide (yE.e = 0 ∧ mk = true ∧ b = false)) ∧ wx = w9)
        case first => as_aux_lemma =>
          by_cases h1 : yE.e = 0
          · have q1 : (yE.e == 0) = true := by simpa using h1
            have H1 := Lib.hid h1
            clear h1
            cases mk
            · go_wp2_with fail
              go_meet
              exact ⟨by simp, rfl⟩
            · cases b
              · go_wp2_with fail
                go_meet
                exact ⟨by simp [H1.out], rfl⟩
              · go_wp2_with fail
                go_meet
                exact ⟨by simp, rfl⟩
          · have q1 : (yE.e == 0) = false := by simpa using h1
            have H1 := Lib.hid h1
            clear h1
            go_wp2_with fail
            go_meet
            exact ⟨by simp [H1.out], rfl⟩
        case rest => as_aux_lemma =>
          obtain ⟨rfl, rfl⟩ := hcut
          by_cases hX : yE.e = 0 ∧ mk = true ∧ b = false
          · have d1 : decide (yE.e = 0 ∧ mk = true ∧ b = false) = true := decide_eq_true hX
            rw [d1]
            have DC := Lib.hid (dc_bad (E5.out.1 hX))
            clear d1 hX E5
            obtain ⟨⟨r0, r1, r2, r3⟩, fr⟩ := S9.out.rb
            have f0 := fr 0
            have f1 := fr 1
            have f2 := fr 2
            have f3 := fr 3
            have P2 := Lib.hid (put4_below S9.out.bel (Nat.le_refl _) (.int .u32 0) (.slice none 0 0) (.slice none 0 0) (.int .u32 0))
            go_wp2_with fail
            refine bodyPost_ret (v := .tuple #[.agg #[.int .u32 0, .slice none 0 0, .slice none 0 0, .int .u32 0], .int .i64 y4.a, .int .i64 4]) (by simp [results, Try.results16, go_sem, r0, r1, r2, r3]) rfl ?_
            rw [DC.out.1, DC.out.2.1, DC.out.2.2]
            exact ⟨_, _, rfl, ⟨Ins.nil _ _ _, Outs.nil _ _ _⟩, P2.out⟩
          · have d1 : decide (yE.e = 0 ∧ mk = true ∧ b = false) = false := decide_eq_false hX
            rw [d1]
            have ET5 := Lib.hid (E5.out.2 hX)
            clear d1 hX E5
            have p5 := P.out.2.2.2.2.1
            rw [ET5.out] at p5
            have hlk := wdV_in s yE
            have C31 := Lib.hid (rword_st s yE wc HSZ.out p5)
            obtain ⟨lk, hlkk⟩ : ∃ lk, wdV s yE = lk := ⟨_, rfl⟩
            obtain ⟨y6, hy6⟩ : ∃ y6, wdSt s yE = y6 := ⟨_, rfl⟩
            rw [hlkk] at C31 hlk
            rw [hy6] at C31
            have ELK := Lib.hid (show (trD s z0).lock = lk from by show wdV s (t5 s z0) = lk; rw [ET5.out, hlkk])
            have E6 := Lib.hid (show t6 s z0 = y6 from by unfold t6; rw [ET5.out, hy6])
            have Z6 := Lib.hid (show y6.e = 0 → yE.e = 0 from fun h => (num_at (s := s) (k := 4) (z := yE) (by decide) (show (wdSt s yE).e = 0 by rw [hy6]; exact h)).1)
            have lwr : IntKind.u32.wrap lk = lk := by rw [IntKind.wrap_u32]; exact Int.emod_eq_of_lt hlk.1 (by omega)
            have hi9 := S9.out.le
            clear hlkk hy6 p5
            go_wp2_with fail
            refine C31.out.mono ?_
            rintro x wa ⟨rfl, hba⟩
            have za := hba.size
            have SA := Lib.hid (S9.out.below hba S9.out.le)
            have TA := Lib.hid (fun h : yE.e = 0 => (T9.out h).1.keep (Kept.of_below hba (Nat.le_refl _)))
            obtain ⟨hz, hhz⟩ : ∃ hz, wc.heap.size = hz := ⟨_, rfl⟩
            rw [hhz] at TA za
            clear hba a0 a1 fa S9 T9 C31 hhz
            obtain ⟨a0, a1, fa⟩ := SA.out.zb
            have f0 := fa 0
            have f1 := fa 1
            obtain ⟨wb, hwb⟩ : ∃ wb, wb = (wa.setCell ⟨w.heap.size + 1, 0, none⟩ (.int .i64 y6.a)).setCell ⟨w.heap.size + 1, 1, none⟩ (.int .i64 y6.e) := ⟨_, rfl⟩
            have SB := Lib.hid (show DrB w y6 (.int .u32 v) (.slice Ai k1 ci) (.slice Ao k2 co) (.int .u32 0) wb from by rw [hwb]; exact SA.out.put y6)
            have TB := Lib.hid (fun h : yE.e = 0 => show TxAt wb (w.heap.size + 3) hz (.slice Ai k1 ci) (.slice Ao k2 co) (trL s) from by rw [hwb]; exact ((TA.out h).keep (Kept.setCell (.inl (by show w.heap.size + 1 < w.heap.size + 3; omega)) _)).keep (Kept.setCell (.inl (by show w.heap.size + 1 < w.heap.size + 3; omega)) _))
            go_upto_region 33 with (fail)
            rw [← hwb]
            have zb : hz ≤ wb.heap.size := by rw [hwb]; simp only [World.size_setCell]; exact za
            clear hwb a0 a1 fa f0 f1 SA TA za
            obtain ⟨⟨e0, e1, e2, e3⟩, fe⟩ := SB.out.tb
            have g3 := fe 3
            obtain ⟨wd, hwd⟩ : ∃ wd, wd = wb.setCell ⟨w.heap.size + 2, 3, none⟩ (.int .u32 lk) := ⟨_, rfl⟩
            have SD := Lib.hid (show DrB w y6 (.int .u32 v) (.slice Ai k1 ci) (.slice Ao k2 co) (.int .u32 lk) wd from by rw [hwd]; exact SB.out.set (SB.out.tb.set3 _))
            have TD := Lib.hid (fun h : yE.e = 0 => show TxAt wd (w.heap.size + 3) hz (.slice Ai k1 ci) (.slice Ao k2 co) (trL s) from by rw [hwd]; exact (TB.out h).keep (Kept.setCell (.inl (by show w.heap.size + 2 < w.heap.size + 3; omega)) _))
            go_upto_region 34 with (fail)
            rw [← hwd]
            have zd : hz ≤ wd.heap.size := by rw [hwd, World.size_setCell]; exact zb
            clear hwd e0 e1 e2 e3 fe g3 SB TB zb
            obtain ⟨a0, a1, fa⟩ := SD.out.zb
            have f1 := fa 1
            go_cut [174] (fun c wx => c = .bool (decide (y6.e = 0 ∧ y6.a < s.size)) ∧ wx = wd)
            case first => as_aux_lemma =>
              by_cases h1 : y6.e = 0
              · have q1 : (y6.e == 0) = true := by simpa using h1
                by_cases h2 : y6.a < s.size
                · have q2 : (y6.a : Int) < (s.size : Int) := by omega
                  have q3 : decide (y6.a < s.size) = true := decide_eq_true h2
                  have DD := Lib.hid (decide_eq_true (p := y6.e = 0 ∧ y6.a < s.size) ⟨h1, h2⟩)
                  clear h1 h2
                  go_wp2_with fail
                  go_meet
                  exact ⟨by rw [DD.out], rfl⟩
                · have q2 : ¬ (y6.a : Int) < (s.size : Int) := by omega
                  have q3 : decide (y6.a < s.size) = false := decide_eq_false h2
                  have DD := Lib.hid (decide_eq_false (p := y6.e = 0 ∧ y6.a < s.size) (fun h => h2 h.2))
                  clear h1 h2
                  go_wp2_with fail
                  go_meet
                  exact ⟨by rw [DD.out], rfl⟩
              · have q1 : (y6.e == 0) = false := by simpa using h1
                have DD := Lib.hid (decide_eq_false (p := y6.e = 0 ∧ y6.a < s.size) (fun h => h1 h.1))
                clear h1
                go_wp2_with fail
                go_meet
                exact ⟨by rw [DD.out], rfl⟩
            case rest =>
              obtain ⟨rfl, rfl⟩ := hcut
              obtain ⟨we, rfl⟩ : ∃ we, we = wc := ⟨_, rfl⟩
              have E7 := Lib.hid (show t7 s z0 = endSt s y6 from by unfold t7; rw [E6.out])
              go_upto_if 174 with (fail)
              go_cut [] (fun wx => Hid (DrB w (endSt s y6) (.int .u32 v) (.slice Ai k1 ci) (.slice Ao k2 co) (.int .u32 lk) wx ∧ (yE.e = 0 → TxAt wx (w.heap.size + 3) hz (.slice Ai k1 ci) (.slice Ao k2 co) (trL s)) ∧ hz ≤ wx.heap.size))
              case first => as_aux_lemma =>
                by_cases h1 : y6.e = 0 ∧ y6.a < s.size
                · have d1 : decide (y6.e = 0 ∧ y6.a < s.size) = true := decide_eq_true h1
                  rw [d1]
                  have EE := Lib.hid (show endSt s y6 = ⟨y6.a, 4⟩ from by unfold endSt endE; rw [if_pos (by omega), h1.1]; rfl)
                  have R1 := Lib.hid (SD.out.putE 4)
                  have R2 := Lib.hid (fun h : yE.e = 0 => (TD.out h).keep (Kept.setCell (p := ⟨w.heap.size + 1, 1, none⟩) (.inl (by show w.heap.size + 1 < w.heap.size + 3; omega)) (.int .i64 4)))
                  clear h1 d1
                  go_wp2_with fail
                  go_meet
                  rw [EE.out]
                  exact Lib.hid ⟨R1.out, R2.out, by rw [World.size_setCell]; exact zd⟩
                · have d1 : decide (y6.e = 0 ∧ y6.a < s.size) = false := decide_eq_false h1
                  rw [d1]
                  have EE := Lib.hid (show endSt s y6 = y6 from by
                    unfold endSt endE
                    by_cases h2 : (y6.a : Int) < (s.size : Int)
                    · have h3 : ¬ y6.e = 0 := fun h => h1 ⟨h, by omega⟩
                      rw [if_pos h2, refD_old h3]
                    · rw [if_neg h2])
                  clear h1 d1
                  go_wp2_with fail
                  go_meet
                  rw [EE.out]
                  exact Lib.hid ⟨SD.out, TD.out, zd⟩
              case rest => as_aux_lemma =>
                have S10 := Lib.hid hcut.out.1
                have T10 := Lib.hid hcut.out.2.1
                have z10 := hcut.out.2.2
                clear hcut SD TD a0 a1 fa f1
                obtain ⟨y7, hy7⟩ : ∃ y7, endSt s y6 = y7 := ⟨_, rfl⟩
                rw [hy7] at S10
                have EY7 := Lib.hid (show t7 s z0 = y7 from by rw [E7.out, hy7])
                have Z7 := Lib.hid (show y7.e = 0 → yE.e = 0 from fun h => Z6.out (by
                  rw [← hy7] at h
                  have h' : endE s y6.a y6.e = 0 := h
                  unfold endE at h'
                  split at h'
                  · exact absurd h' (refD_no (by omega))
                  · exact h'))
                clear hy7
                obtain ⟨wf, rfl⟩ : ∃ wf, wf = wc := ⟨_, rfl⟩
                obtain ⟨a0, a1, fa⟩ := S10.out.zb
                have f1 := fa 1
                obtain ⟨⟨e0, e1, e2, e3⟩, fe⟩ := S10.out.tb
                go_upto_if 178 with (fail)
                go_cut [] (fun wx => Hid (DrB w ⟨y7.a, dcE s⟩ (.int .u32 v) (.slice Ai k1 ci) (.slice Ao k2 co) (.int .u32 lk) wx ∧ (yE.e = 0 → TxAt wx (w.heap.size + 3) hz (.slice Ai k1 ci) (.slice Ao k2 co) (trL s)) ∧ hz ≤ wx.heap.size))
                case first => as_aux_lemma =>
                  by_cases h1 : y7.e = 0
                  · have q1 : (y7.e == 0) = true := by simpa using h1
                    have ECK := Lib.hid (show dcE s = checkD (trD s z0) from by unfold dcE; rw [EY7.out, if_pos h1])
                    have CK := Lib.hid (rcheck_any (trD s z0) _ _ wf (w.heap.size + 3) hz (T10.out (Z7.out h1)) z10 (trD_ok s z0))
                    rw [show (trD s z0).ver = v from EV.out, ELK.out] at CK
                    obtain ⟨ck, hck⟩ : ∃ ck, checkD (trD s z0) = ck := ⟨_, rfl⟩
                    rw [hck] at CK ECK
                    clear h1 hck
                    go_wp2_with fail
                    refine CK.out.mono ?_
                    rintro x wg ⟨rfl, hbg⟩
                    have zg := hbg.size
                    have SG := Lib.hid (S10.out.below hbg S10.out.le)
                    have TG := Lib.hid (fun h : yE.e = 0 => (T10.out h).keep (Kept.of_below hbg z10))
                    clear hbg a0 a1 fa f1 e0 e1 e2 e3 fe CK
                    obtain ⟨a0, a1, fa⟩ := SG.out.zb
                    have f1 := fa 1
                    have R1 := Lib.hid (SG.out.putE ck)
                    have R2 := Lib.hid (fun h : yE.e = 0 => (TG.out h).keep (Kept.setCell (p := ⟨w.heap.size + 1, 1, none⟩) (.inl (by show w.heap.size + 1 < w.heap.size + 3; omega)) (.int .i64 ck)))
                    go_wp2_with fail
                    go_meet
                    rw [ECK.out]
                    exact Lib.hid ⟨R1.out, R2.out, by rw [World.size_setCell]; omega⟩
                  · have q1 : (y7.e == 0) = false := by simpa using h1
                    have ECK := Lib.hid (show dcE s = y7.e from by unfold dcE; rw [EY7.out, if_neg h1])
                    clear h1
                    go_wp2_with fail
                    go_meet
                    rw [ECK.out]
                    exact Lib.hid ⟨S10.out, T10.out, z10⟩
                case rest =>
                  have S11 := Lib.hid hcut.out.1
                  have T11 := Lib.hid hcut.out.2.1
                  have z11 := hcut.out.2.2
                  clear hcut S10 T10 z10 a0 a1 fa f1 e0 e1 e2 e3 fe
                  obtain ⟨e, he⟩ : ∃ e, dcE s = e := ⟨_, rfl⟩
                  rw [he] at S11
                  have HE := Lib.hid he
                  have EA := Lib.hid (show dcA s = y7.a from by unfold dcA; rw [EY7.out])
                  obtain ⟨a0, a1, fa⟩ := S11.out.zb
                  obtain ⟨⟨r0, r1, r2, r3⟩, fr⟩ := S11.out.rb
                  have f0 := fr 0
                  have f1 := fr 1
                  have f2 := fr 2
                  have f3 := fr 3
                  obtain ⟨⟨e0, e1, e2, e3⟩, fe⟩ := S11.out.tb
                  by_cases hez : e = 0
                  · subst hez
                    have hEz := dec_again he
                    have ET := Lib.hid (show dcT s = trD s z0 from by unfold dcT; rw [if_pos he])
                    have hy : yE.e = 0 := Z7.out (by have := (dcE_zero he).1; rw [EY7.out] at this; exact this)
                    have P1 := Lib.hid ((T11.out hy).put4 (g := w.heap.size) (.inl (by omega)) (.int .u32 v) (.slice Ai k1 ci) (.slice Ao k2 co) (.int .u32 lk))
                    have P2 := Lib.hid (put4_below S11.out.bel (Nat.le_refl _) (.int .u32 v) (.slice Ai k1 ci) (.slice Ao k2 co) (.int .u32 lk))
                    have P3 := Lib.hid (put4_size wc w.heap.size (.int .u32 v) (.slice Ai k1 ci) (.slice Ao k2 co) (.int .u32 lk))
                    have EZ := Lib.hid hEz.1
                    clear hEz hy he
                    go_wp2_with fail
                    refine bodyPost_ret (v := .tuple #[.agg #[.int .u32 v, .slice Ai k1 ci, .slice Ao k2 co, .int .u32 lk], .int .i64 s.size, .int .i64 0]) (by simp [results, Try.results16, go_sem, r0, r1, r2, r3]) rfl ?_
                    rw [HE.out, EZ.out, ET.out, show (trD s z0).ver = v from EV.out, ELK.out]
                    exact ⟨_, _, rfl, (show TxAt _ _ _ _ _ (trD s z0) from P1.out).wide (by omega) (by show hz ≤ (put4 wc w.heap.size _ _ _ _).heap.size; rw [P3.out]; exact z11), P2.out⟩
                  · have hz1 : (e != 0) = true := by simpa using hez
                    have ET := Lib.hid (show dcT s = ⟨0, [], [], 0⟩ from by unfold dcT; rw [he, if_neg hez])
                    have P2 := Lib.hid (put4_below S11.out.bel (Nat.le_refl _) (.int .u32 0) (.slice none 0 0) (.slice none 0 0) (.int .u32 0))
                    clear hez he
                    go_upto_region 39 with (fail)
                    go_region
                    go_wp2_with fail
                    refine bodyPost_ret (v := .tuple #[.agg #[.int .u32 0, .slice none 0 0, .slice none 0 0, .int .u32 0], .int .i64 y7.a, .int .i64 e]) (by simp [results, Try.results16, go_sem, r0, r1, r2, r3]) rfl ?_
                    rw [HE.out, EA.out, ET.out]
                    exact ⟨_, _, rfl, ⟨Ins.nil _ _ _, Outs.nil _ _ _⟩, P2.out.drew⟩

end Go.Proofs.Ytkdkkndccjddnaa
