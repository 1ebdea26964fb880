/-
  What is read of bytes has these.
-/
import Derived.Test.YtkdkkndccjddnaaPlawb
namespace Go.Proofs.Ytkdkkndccjddnaa
open Go.RowKit

section
variable {s : ByteArray}
theorem it_in {z : St} (h : z.a ≤ s.size) : (itSt s z).a ≤ s.size := bytSt_in _ (cntSt_in _ _ _ h)
theorem wi_in {z : St} (h : z.a ≤ s.size) : (wiSt s z).a ≤ s.size := iter_in (f := itSt s) (fun _ hy => it_in hy) (cntSt_in _ _ _ h) _
theorem is_in {z : St} (h : z.a ≤ s.size) : (isSt s z).a ≤ s.size := iter_in (f := inSt s) (fun _ hy => inSt_in hy) (cntSt_in _ _ _ h) _
theorem os_in {z : St} (h : z.a ≤ s.size) : (osSt s z).a ≤ s.size := iter_in (f := ouSt s) (fun _ hy => ouSt_in hy) (cntSt_in _ _ _ h) _
theorem ws_in {z : St} (h : z.a ≤ s.size) (n : Nat) : (wsAt s z n).a ≤ s.size := iter_in (f := wiSt s) (fun _ hy => wi_in hy) h n
theorem mk_in {z : St} (h : z.a ≤ s.size) : (mkSt s z).a ≤ s.size := by
  have := mkA_in h
  show (mkA s z.a z.e).toNat ≤ s.size
  omega
theorem it_at {z : St} (hz : z.a ≤ s.size) (he : (itSt s z).e = 0) : z.e = 0 ∧ ∀ l, Left s (itSt s z).a l → Left s z.a (gIt (itV s z) ++ l) := by
  obtain ⟨b1, b2, b3, b4, b5⟩ := byt_at (s := s) (n := itN s z) (z := cntSt s 0 80 20 z) he
  obtain ⟨c1, c2, c3, c4, c5⟩ := cnt_at hz b1
  refine ⟨c1, fun l hl => ?_⟩
  have h1 := b5 l (by rw [← b2]; exact hl)
  have h2 := c5 _ h1
  have e : ((itV s z).size : Int) = cntV s 0 80 20 z := by
    have q : (itV s z).size = itN s z := b4
    rw [q]
    unfold itN
    omega
  rw [gIt, List.append_assoc, e]
  exact h2
theorem wi_at {z : St} (hz : z.a ≤ s.size) (he : (wiSt s z).e = 0) : z.e = 0 ∧ ∀ l, Left s (wiSt s z).a l → Left s z.a (gWi (wiL s z) ++ l) := by
  obtain ⟨b1, b2⟩ := iter_at (itSt s) gIt (itV s) (fun z h => it_in h) (fun z h he => it_at h he) (wiN s z) (cntSt s 0 4 6 z) (cntSt_in _ _ _ hz) he
  obtain ⟨c1, c2, c3, c4, c5⟩ := cnt_at hz b1
  refine ⟨c1, fun l hl => ?_⟩
  have h2 := c5 _ (b2 l hl)
  have e : ((wiL s z).length : Int) = cntV s 0 4 6 z := by
    unfold wiL
    rw [List.length_map, List.length_range]
    unfold wiN
    omega
  rw [gWi, List.append_assoc, e]
  exact h2
theorem in_at {z : St} (hz : z.a ≤ s.size) (he : (inSt s z).e = 0) : z.e = 0 ∧ ∀ l, Left s (inSt s z).a l → Left s z.a (gIn (inV s z) ++ l) := by
  have hA : (inA s z).a ≤ s.size := bytSt_in _ hz
  have hB : (inB' s z).a ≤ s.size := numSt_in _ _ _ _ hA
  obtain ⟨d1, d2, d3, d4⟩ := num_at (s := s) (k := 4) (z := inC s z) (by decide) he
  obtain ⟨c1, c2, c3, c4, c5⟩ := cnt_at (z := inB' s z) hB d1
  obtain ⟨b1, b2, b3, b4⟩ := num_at (s := s) (k := 4) (z := inA s z) (by decide) c1
  obtain ⟨a1, a2, a3, a4, a5⟩ := byt_at (s := s) (n := 32) (z := z) b1
  have cz : cntV s 0 0 4 (inB' s z) = 0 := by
    have := cntV_in (s := s) (z := inB' s z) (lo := 0) (hi := 0) (out := 4) (by omega) (by omega) (by omega)
    omega
  refine ⟨a1, fun l hl => ?_⟩
  have h1 := d4 l (by rw [← d2]; exact hl)
  have h2 := c5 _ h1
  have h3 := b4 _ (by rw [← b2]; exact h2)
  have h4 := a5 _ (by rw [← a2]; exact h3)
  rw [cz] at h4
  unfold gIn
  simp only [List.append_assoc]
  exact h4
theorem out_at {z : St} (hz : z.a ≤ s.size) (he : (ouSt s z).e = 0) : z.e = 0 ∧ ∀ l, Left s (ouSt s z).a l → Left s z.a (gOu (ouV s z) ++ l) := by
  have hA : (ouA s z).a ≤ s.size := numSt_in _ _ _ _ hz
  obtain ⟨b1, b2, b3, b4, b5⟩ := byt_at (s := s) (n := ouN s z) (z := cntSt s 0 40 20 (ouA s z)) he
  obtain ⟨c1, c2, c3, c4, c5⟩ := cnt_at hA b1
  obtain ⟨a1, a2, a3, a4⟩ := num_at (s := s) (k := 8) (z := z) (by decide) c1
  refine ⟨a1, fun l hl => ?_⟩
  have h1 := b5 l (by rw [← b2]; exact hl)
  have h2 := c5 _ h1
  have h3 := a4 _ (by rw [← a2]; exact h2)
  have e : ((ouV s z).scr.size : Int) = cntV s 0 40 20 (ouA s z) := by
    have q : (ouV s z).scr.size = ouN s z := b4
    rw [q]
    unfold ouN
    omega
  unfold gOu gIt
  rw [List.append_assoc, List.append_assoc, e]
  exact h3
theorem is_at {z : St} (hz : z.a ≤ s.size) (he : (isSt s z).e = 0) : z.e = 0 ∧ ∀ l, Left s (isSt s z).a l → Left s z.a (Vi.vlist (isN s z) ++ (((List.range (isN s z)).map (isV s z)).flatMap gIn ++ l)) := by
  obtain ⟨b1, b2⟩ := iter_at (inSt s) gIn (inV s) (fun z h => inSt_in h) (fun z h he => in_at h he) (isN s z) (cntSt s 1 256 6 z) (cntSt_in _ _ _ hz) he
  obtain ⟨c1, c2, c3, c4, c5⟩ := cnt_at hz b1
  refine ⟨c1, fun l hl => ?_⟩
  have h2 := c5 _ (b2 l hl)
  have e : (isN s z : Int) = cntV s 1 256 6 z := by unfold isN; omega
  rw [e]
  exact h2
theorem os_at {z : St} (hz : z.a ≤ s.size) (he : (osSt s z).e = 0) : z.e = 0 ∧ ∀ l, Left s (osSt s z).a l → Left s z.a (Vi.vlist (osN s z) ++ (((List.range (osN s z)).map (osV s z)).flatMap gOu ++ l)) := by
  obtain ⟨b1, b2⟩ := iter_at (ouSt s) gOu (ouV s) (fun z h => ouSt_in h) (fun z h he => out_at h he) (osN s z) (cntSt s 1 256 6 z) (cntSt_in _ _ _ hz) he
  obtain ⟨c1, c2, c3, c4, c5⟩ := cnt_at hz b1
  refine ⟨c1, fun l hl => ?_⟩
  have h2 := c5 _ (b2 l hl)
  have e : (osN s z : Int) = cntV s 1 256 6 z := by unfold osN; omega
  rw [e]
  exact h2
theorem mk_at {z : St} (he : (mkSt s z).e = 0) : z.e = 0 ∧ ∀ l, Left s (mkSt s z).a l → Left s z.a (gMk (mkV s z) ++ l) := by
  rw [mkSt_eq] at he ⊢
  by_cases hm : mkV s z = true
  · rw [if_pos hm] at he ⊢
    obtain ⟨a1, a2, a3, a4⟩ := num_at (s := s) (k := 1) (z := ⟨z.a + 1, z.e⟩) (by decide) he
    refine ⟨a1, fun l hl => ?_⟩
    have h1 := a4 l (by rw [← a2]; exact hl)
    have hE : numE s ((⟨z.a + 1, z.e⟩ : St).a : Int) z.e (1 : Nat) 1 1 4 = 0 := he
    have hv : numV s 1 1 1 4 ⟨z.a + 1, z.e⟩ = 1 := by
      have h2 := spanE_in (by omega) hE
      show okN (numE s ((⟨z.a + 1, z.e⟩ : St).a : Int) z.e (1 : Nat) 1 1 4) (Vi.getN s ((⟨z.a + 1, z.e⟩ : St).a : Int) (1 : Nat)) = 1
      rw [okN_yes hE]
      omega
    rw [hv] at h1
    have hm' : (Vi.okB s z.a 1 && (Vi.getN s z.a 1 == 0) && (z.e == 0)) = true := hm
    simp only [Bool.and_eq_true] at hm'
    have hle := okB_le hm'.1.1
    have hg : Vi.getN s z.a 1 = 0 := by simpa using hm'.1.2
    have hb := Left.back (s := s) (a := z.a) (k := 1) (by omega) h1
    rw [Vi.part_one s z.a (by omega), show Vi.fst s z.a = 0 from hg] at hb
    rw [hm]
    exact hb
  · rw [if_neg hm] at he ⊢
    refine ⟨he, fun l hl => ?_⟩
    have : mkV s z = false := by simpa using hm
    rw [this]
    exact hl
end

theorem dcE_zero {s : ByteArray} (h : dcE s = 0) : (t7 s z0).e = 0 ∧ checkD (trD s z0) = 0 := by
  unfold dcE at h
  split at h
  · rename_i h1; exact ⟨h1, h⟩
  · rename_i h1; exact absurd h h1
theorem places (s : ByteArray) : (t1 s z0).a ≤ s.size ∧ (t2 s z0).a ≤ s.size ∧ (t3 s z0).a ≤ s.size ∧ (t4 s z0).a ≤ s.size ∧ (t5 s z0).a ≤ s.size ∧ (t6 s z0).a ≤ s.size := by
  have h1 : (t1 s z0).a ≤ s.size := numSt_in _ _ _ _ (Nat.zero_le _)
  have h2 : (t2 s z0).a ≤ s.size := mk_in h1
  have h3 : (t3 s z0).a ≤ s.size := is_in h2
  have h4 : (t4 s z0).a ≤ s.size := os_in h3
  have h5 : (t5 s z0).a ≤ s.size := by
    unfold t5
    split
    · unfold wsSt
      split
      · exact h4
      · exact ws_in h4 _
    · exact h4
  exact ⟨h1, h2, h3, h4, h5, numSt_in _ _ _ _ h5⟩
theorem dcA_le (s : ByteArray) : dcA s ≤ s.size := (places s).2.2.2.2.2
theorem wire_at (s : ByteArray) (h : dcE s = 0) : checkD (trD s z0) = 0 ∧ dcA s = s.size ∧ tM s z0 = hasW (trD s z0) ∧ wireS (trD s z0) (tM s z0) = s := by
  obtain ⟨h7, hc⟩ := dcE_zero h
  obtain ⟨p1, p2, p3, p4, p5, p6⟩ := places s
  have h7' : endE s (t6 s z0).a (t6 s z0).e = 0 := h7
  have h6 : (t6 s z0).e = 0 ∧ (t6 s z0).a = s.size := by
    unfold endE at h7'
    split at h7'
    · exact absurd h7' (refD_no (by omega))
    · exact ⟨h7', by omega⟩
  have L6 : Left s (t6 s z0).a [] := by
    refine ⟨?_, p6⟩
    rw [h6.2]
    exact List.drop_eq_nil_of_le (by rw [Vi.nums_length]; exact Nat.le_refl _)
  obtain ⟨a1, a2, a3, a4⟩ := num_at (s := s) (k := 4) (z := t5 s z0) (by decide) h6.1
  have L5 := a4 [] (by rw [← a2]; exact L6)
  have h4 : (t4 s z0).e = 0 ∧ Left s (t4 s z0).a (gWs (tM s z0) (trD s z0).ins ++ (Vi.digs (wdV s (t5 s z0)) 4 ++ [])) ∧ tM s z0 = hasW (trD s z0) := by
    have ei : (trD s z0).ins = (List.range (tN s z0)).map (trIn s z0) := rfl
    by_cases hM : tM s z0 = true
    · have e5 : t5 s z0 = wsSt s (t4 s z0) (tN s z0) := by unfold t5; rw [if_pos hM]
      have hcond : ¬ (wsT s (t4 s z0) (tN s z0) = 0 ∧ (wsAt s (t4 s z0) (tN s z0)).e = 0) := by
        intro hh
        rw [e5] at a1
        unfold wsSt at a1
        rw [if_pos hh] at a1
        exact absurd a1 (by show ¬ (4 : Int) = 0; decide)
      have e5' : t5 s z0 = wsAt s (t4 s z0) (tN s z0) := by rw [e5]; unfold wsSt; rw [if_neg hcond]
      rw [e5'] at a1
      obtain ⟨w1, w2⟩ := iter_at (wiSt s) gWi (wiL s) (fun z h => wi_in h) (fun z h he => wi_at h he) (tN s z0) (t4 s z0) p4 a1
      have hwit : ∀ j, (trIn s z0 j).wit = wiL s (wsAt s (t4 s z0) j) := fun j => by unfold trIn; rw [hM]; rfl
      refine ⟨w1, ?_, ?_⟩
      · have h1 := w2 _ (by rw [e5'] at L5; exact L5)
        rw [hM, ei]
        show Left s (t4 s z0).a ((((List.range (tN s z0)).map (trIn s z0)).flatMap fun x => gWi x.wit) ++ _)
        rw [List.flatMap_map]
        rw [List.flatMap_map] at h1
        rw [show (fun a => gWi (trIn s z0 a).wit) = fun a => gWi (wiL s (iter (wiSt s) a (t4 s z0))) from funext fun j => by rw [hwit j]; rfl]
        rw [e5']
        exact h1
      · have hpos : 0 < wsT s (t4 s z0) (tN s z0) := by
          rcases Nat.eq_zero_or_pos (wsT s (t4 s z0) (tN s z0)) with h0 | h0
          · exact absurd ⟨h0, a1⟩ hcond
          · exact h0
        obtain ⟨j, hj, hn⟩ := wsT_some hpos
        rw [hM]
        symm
        unfold hasW
        rw [ei, List.any_eq_true]
        refine ⟨trIn s z0 j, List.mem_map.2 ⟨j, List.mem_range.2 hj, rfl⟩, ?_⟩
        rw [hwit j]
        unfold wiL
        rw [List.length_map, List.length_range]
        exact decide_eq_true hn
    · have hF : tM s z0 = false := by simpa using hM
      have e5 : t5 s z0 = t4 s z0 := by unfold t5; rw [if_neg hM]
      have hwit : ∀ j, (trIn s z0 j).wit = [] := fun j => by unfold trIn; rw [hF]; rfl
      refine ⟨by rw [← e5]; exact a1, ?_, ?_⟩
      · rw [hF]
        show Left s (t4 s z0).a (Vi.digs (wdV s (t5 s z0)) 4 ++ [])
        rw [← e5]
        exact L5
      · rw [hF]
        symm
        unfold hasW
        rw [ei, List.any_eq_false]
        intro x hx
        obtain ⟨j, _, rfl⟩ := List.mem_map.1 hx
        rw [hwit j]
        decide
  obtain ⟨e4, L4, hMW⟩ := h4
  obtain ⟨c1, c2⟩ := os_at p3 (show (osSt s (t3 s z0)).e = 0 from e4)
  have L3 := c2 _ L4
  obtain ⟨d1, d2⟩ := is_at p2 (show (isSt s (t2 s z0)).e = 0 from c1)
  have L2 := d2 _ L3
  obtain ⟨f1, f2⟩ := mk_at (s := s) (z := t1 s z0) d1
  have L1 := f2 _ L2
  obtain ⟨g1, g2, g3, g4⟩ := num_at (s := s) (k := 4) (z := z0) (by decide) f1
  have L0 := g4 _ (by rw [← g2]; exact L1)
  refine ⟨hc, h6.2, hMW, ?_⟩
  refine Vi.nums_inj ?_
  rw [nums_wire]
  have e0 : Vi.nums s = _ := L0.1
  rw [e0]
  have li : (trD s z0).ins.length = isN s (t2 s z0) := by show ((List.range (tN s z0)).map (trIn s z0)).length = _; rw [List.length_map, List.length_range]; rfl
  have lo : (trD s z0).outs.length = osN s (t3 s z0) := by show ((List.range (osN s (t3 s z0))).map (osV s (t3 s z0))).length = _; rw [List.length_map, List.length_range]
  have gi : (trD s z0).ins.flatMap gIn = ((List.range (isN s (t2 s z0))).map (isV s (t2 s z0))).flatMap gIn := by
    show ((List.range (tN s z0)).map (trIn s z0)).flatMap gIn = _
    rw [List.flatMap_map, List.flatMap_map]
    rfl
  rw [li, lo, gi, List.append_nil]
  rfl

end Go.Proofs.Ytkdkkndccjddnaa
