/-
  Decode.
-/
import Derived.Test.YtkdkkndccjddnaaTra
import Derived.Test.YtkdkkndccjddnaaCheck
import Derived.BigRegion
namespace Go.Proofs.Ytkdkkndccjddnaa
open Go.RowKit

theorem bytV_size (s : ByteArray) (n : Nat) (z : St) : (bytV s n z).size ≤ n := by
  unfold bytV bytS
  split
  · rw [ByteArray.size_extract]
    omega
  · exact Nat.zero_le _
theorem toNat_le {x : Int} {n : Nat} (h : 0 ≤ x ∧ x ≤ n) : x.toNat ≤ n := by omega
theorem wiV_size (s : ByteArray) (z : St) (j : Nat) : (wiV s z j).size ≤ 80 := by
  unfold wiV itV
  refine Nat.le_trans (bytV_size _ _ _) ?_
  exact toNat_le (n := 80) (cntV_in (by omega) (by omega) (by omega))
theorem osV_ok (s : ByteArray) (z : St) (j : Nat) : (osV s z j).Ok := by
  unfold osV ouV
  have h1 := numV_in (s := s) (k := 8) (lo := 0) (hi := 2100000000000000) (out := 3) (z := iter (ouSt s) j (cntSt s 1 256 6 z)) (by omega) (by omega) (by omega)
  refine ⟨by show _ ≤ numV _ _ _ _ _ _; omega, by show numV _ _ _ _ _ _ ≤ _; omega, ?_⟩
  refine Nat.le_trans (bytV_size _ _ _) ?_
  exact Nat.le_trans (toNat_le (n := 40) (cntV_in (by omega) (by omega) (by omega))) (by omega)
theorem trIn_ok (s : ByteArray) (z : St) (j : Nat) : (trIn s z j).Ok := by
  have h1 := wdV_in s (inA s (iter (inSt s) j (cntSt s 1 256 6 (t2 s z))))
  have h2 := wdV_in s (inC s (iter (inSt s) j (cntSt s 1 256 6 (t2 s z))))
  refine ⟨?_, h1.1, h1.2, h2.1, h2.2, ?_, ?_⟩
  · exact Nat.le_trans (bytV_size s 32 _) (by omega)
  · show (if tM s z = true then (List.range (wsN s (t4 s z) j)).map (wiV s (wsAt s (t4 s z) j)) else []).length ≤ 8
    split
    · rw [List.length_map, List.length_range]
      exact Nat.le_trans (wiN_le _ _) (by omega)
    · exact Nat.zero_le _
  · show ∀ x ∈ (if tM s z = true then (List.range (wsN s (t4 s z) j)).map (wiV s (wsAt s (t4 s z) j)) else []), x.size ≤ 128
    split
    · intro x hx
      obtain ⟨k, _, rfl⟩ := List.mem_map.1 hx
      exact Nat.le_trans (wiV_size _ _ _) (by omega)
    · intro x hx
      cases hx
theorem trD_ok (s : ByteArray) (z : St) : (trD s z).Ok := by
  have h1 := wdV_in s z
  have h2 := wdV_in s (t5 s z)
  refine ⟨?_, ?_, ?_, ?_, h1.1, h1.2, h2.1, h2.2⟩
  · show ((List.range _).map _).length ≤ 512
    rw [List.length_map, List.length_range]
    exact Nat.le_trans (toNat_le (n := 256) (cntV_in (by omega) (by omega) (by omega))) (by omega)
  · show ((List.range _).map _).length ≤ 512
    rw [List.length_map, List.length_range]
    exact Nat.le_trans (toNat_le (n := 256) (cntV_in (by omega) (by omega) (by omega))) (by omega)
  · intro x hx
    obtain ⟨k, _, rfl⟩ := List.mem_map.1 hx
    exact trIn_ok _ _ _
  · intro x hx
    obtain ⟨k, _, rfl⟩ := List.mem_map.1 hx
    exact osV_ok _ _ _

/-- Where a text's reading begins; the error, the place, the transaction of a text. -/
def z0 : St := ⟨0, 0⟩
def dcE (s : ByteArray) : Int := if (t7 s z0).e = 0 then checkD (trD s z0) else (t7 s z0).e
def dcA (s : ByteArray) : Nat := (t7 s z0).a
def dcT (s : ByteArray) : TxD := if dcE s = 0 then trD s z0 else ⟨0, [], [], 0⟩

/-- Where Decode stands behind its reading. -/
structure DcS (w : World) (s : ByteArray) (e : Int) (bt hi : Nat) (vi vo : Value) (wr : World) : Prop where
  tb : Open wr bt (.int .u32 (trD s z0).ver) vi vo (.int .u32 (trD s z0).lock)
  br : Open wr w.heap.size (.int .u32 0) (.slice none 0 0) (.slice none 0 0) (.int .u32 0)
  rd : RdAt wr (w.heap.size + 1) s (dcA s) e
  tx : TxAt wr (w.heap.size + 2) hi vi vo (trD s z0)
  hl : w.heap.size + 2 ≤ hi ∧ hi ≤ bt ∧ bt < wr.heap.size
  bel : Below w.heap.size w wr

theorem DcS.below {w : World} {s : ByteArray} {e : Int} {bt hi : Nat} {vi vo : Value} {wr wx : World} (h : DcS w s e bt hi vi vo wr) (hb : Below wr.heap.size wr wx) : DcS w s e bt hi vi vo wx := by
  have hl := h.hl
  exact ⟨h.tb.below hb (by omega), h.br.below hb (by omega), h.rd.below hb, h.tx.keep (Kept.of_below hb (by omega)), ⟨hl.1, hl.2.1, Nat.lt_of_lt_of_le hl.2.2 hb.size⟩, below_next h.bel (by omega) hb⟩
theorem DcS.err {w : World} {s : ByteArray} {e : Int} {bt hi : Nat} {vi vo : Value} {wr : World} (h : DcS w s e bt hi vi vo wr) (e' : Int) : DcS w s e' bt hi vi vo (wr.setCell ⟨w.heap.size + 1, 2, none⟩ (.int .i64 e')) := by
  have hl := h.hl
  exact ⟨h.tb.other (by show bt ≠ w.heap.size + 1; omega) _, h.br.other (by show w.heap.size ≠ w.heap.size + 1; omega) _, h.rd.setErr e', h.tx.keep (Kept.setCell (.inl (by show w.heap.size + 1 < w.heap.size + 2; omega)) _), ⟨hl.1, hl.2.1, by rw [World.size_setCell]; exact hl.2.2⟩, h.bel.setCell (by show w.heap.size ≤ w.heap.size + 1; omega) _⟩

set_option maxHeartbeats 4000000 in
set_option maxRecDepth 100000 in
theorem decode_any (s : ByteArray) (w : World) (hs : s.size ≤ 140737488355328) :
    Calls Try.prog 15 #[.string s] w fun x w' => ∃ (vi vo : Value), x = .returned (.tuple #[.agg #[.int .u32 (dcT s).ver, vi, vo, .int .u32 (dcT s).lock], .int .i64 (dcA s), .int .i64 (dcE s)]) ∧
      TxAt w' w.heap.size w'.heap.size vi vo (dcT s) ∧ Below w.heap.size w w' := by
  have HSZ := Lib.hid hs
  clear hs
  obtain ⟨w0, hw0⟩ : ∃ w0, w0 = w.alloc (.cells #[.int .u32 0, .slice none 0 0, .slice none 0 0, .int .u32 0] 26) := ⟨_, rfl⟩
  have sz0 : w0.heap.size = w.heap.size + 1 := by rw [hw0]; simp
  obtain ⟨w1, hw1⟩ : ∃ w1, w1 = w0.alloc (.cells #[.string s, .int .i64 0, .int .i64 0] 65) := ⟨_, rfl⟩
  have sz1 : w1.heap.size = w.heap.size + 2 := by rw [hw1]; simp; omega
  have HW0 := Lib.hid hw0
  have HW1 := Lib.hid hw1
  have B1 := Lib.hid (show Below w.heap.size w w1 from by rw [hw1, hw0]; exact ((Below.refl _ _).alloc (Nat.le_refl _) _).alloc (by simp) _)
  have R1 := Lib.hid (show RdS w1 (w.heap.size + 1) s z0 from by
    refine ⟨?_, Nat.zero_le _⟩
    show w1.heap[w.heap.size + 1]? = _
    rw [hw1, ← sz0]
    exact Array.getElem?_push_size)
  have O1 := Lib.hid (show Open w1 w.heap.size (.int .u32 0) (.slice none 0 0) (.slice none 0 0) (.int .u32 0) from by
    rw [hw1]
    refine Open.keep ?_ (Below.heap_alloc _ _ _ (by omega))
    rw [hw0]
    exact Open.new _ _ _ _ _ _)
  clear hw0 hw1
  go_enter Try.func15, Try.ntmps15
  go_upto_region 2 with (fail)
  rw [show World.alloc (World.alloc w _) _ = w1 from by rw [HW1.out, HW0.out]]
  go_wp2_with fail
  refine (transaction_rd (w.heap.size + 1) s z0 w1 R1.out HSZ.out).mono ?_
  rintro x w2 ⟨b1, b2, rfl, h2, r2, o2⟩
  obtain ⟨n, hn⟩ : ∃ n, (trD s z0).ins.length = n := ⟨_, rfl⟩
  obtain ⟨m, hm⟩ : ∃ m, (trD s z0).outs.length = m := ⟨_, rfl⟩
  obtain ⟨tv, htv⟩ : ∃ tv, (trD s z0).ver = tv := ⟨_, rfl⟩
  obtain ⟨tl, htl⟩ : ∃ tl, (trD s z0).lock = tl := ⟨_, rfl⟩
  rw [hn, hm] at h2
  rw [hn, hm, htv, htl]
  have EV := Lib.hid (show (trD s z0).ver = tv ∧ (trD s z0).lock = tl from ⟨htv, htl⟩)
  have zo := o2.size
  have hO2 : Open w2 w.heap.size (.int .u32 0) (.slice none 0 0) (.slice none 0 0) (.int .u32 0) := O1.out.keep (o2.block _ (by omega) (by omega))
  have hB2 : Below w.heap.size w w2 := ⟨o2.os.trans B1.out.os, o2.tape.trans B1.out.tape, o2.output.trans B1.out.output, Nat.le_trans B1.out.size o2.size, fun c hc => (o2.block c (by omega) (by omega)).trans (B1.out.block c hc)⟩
  obtain ⟨w3, hw3⟩ : ∃ w3, w3 = w2.alloc (.cells #[.int .u32 tv, .slice (some ⟨b1, 0, none⟩) n n, .slice (some ⟨b2, 0, none⟩) m m, .int .u32 tl] 26) := ⟨_, rfl⟩
  have S3 := Lib.hid (show DcS w s (t7 s z0).e w2.heap.size w2.heap.size (.slice (some ⟨b1, 0, none⟩) n n) (.slice (some ⟨b2, 0, none⟩) m m) w3 from by
    have hbl : Below w2.heap.size w2 w3 := by rw [hw3]; exact (Below.refl w2.heap.size w2).alloc (Nat.le_refl _) _
    refine ⟨?_, hO2.below hbl (by omega), r2.1.below hbl, ?_, ⟨by omega, Nat.le_refl _, ?_⟩, below_next hB2 (by omega) hbl⟩
    · rw [hw3, htv, htl]; exact Open.new _ _ _ _ _ _
    · exact (h2.wide (by omega) (Nat.le_refl _)).keep (Kept.of_below hbl (Nat.le_refl _))
    · rw [hw3]; simp)
  have HW3 := Lib.hid hw3
  clear hn hm htv htl h2 r2 o2 hO2 hB2 O1 B1 R1 hw3
  go_upto_region 3 with (fail)
  rw [show World.alloc w2 _ = w3 from HW3.out.symm]
  obtain ⟨bt, hbt⟩ : ∃ bt, bt = w2.heap.size := ⟨_, rfl⟩
  rw [← hbt] at S3 ⊢
  have hlt := S3.out.hl
  have CK := Lib.hid (check_any (trD s z0) _ _ w3 _ bt S3.out.tx (by omega) (trD_ok s z0))
  rw [EV.out.1, EV.out.2] at CK
  obtain ⟨ck, hck⟩ : ∃ ck, checkD (trD s z0) = ck := ⟨_, rfl⟩
  rw [hck] at CK
  obtain ⟨e7, he7⟩ : ∃ e7, (t7 s z0).e = e7 := ⟨_, rfl⟩
  rw [he7] at S3
  have EE := Lib.hid (show dcE s = if e7 = 0 then ck else e7 from by unfold dcE; rw [he7, hck])
  clear hbt hck he7 HW3 zo
  obtain ⟨_, c1, c2, fr1, fr2⟩ := S3.out.rd.cells
  go_upto_if 16 with (fail)
  go_cut [] (fun wx => Hid (DcS w s (dcE s) bt bt (.slice (some ⟨b1, 0, none⟩) n n) (.slice (some ⟨b2, 0, none⟩) m m) wx))
  case first =>
    by_cases hz : e7 = 0
    · have hz1 : (e7 == 0) = true := by simpa using hz
      obtain ⟨⟨a0, a1, a2, a3⟩, fz⟩ := S3.out.tb
      rw [EV.out.1] at a0
      rw [EV.out.2] at a3
      have EE' := Lib.hid (show dcE s = ck from by rw [EE.out, if_pos hz])
      clear hz
      go_wp2_with fail
      refine CK.out.mono ?_
      rintro x w4 ⟨rfl, hb4⟩
      have S4 := Lib.hid (S3.out.below hb4)
      obtain ⟨_, d1, d2, fd1, fd2⟩ := S4.out.rd.cells
      clear hb4
      go_wp2_with fail
      go_meet
      rw [EE'.out]
      exact Lib.hid (S4.out.err ck)
    · have hz1 : (e7 == 0) = false := by simpa using hz
      have EE' := Lib.hid (show dcE s = e7 from by rw [EE.out, if_neg hz])
      clear hz
      go_wp2_with fail
      go_meet
      rw [EE'.out]
      exact S3
  case rest =>
    clear S3 CK EE c1 c2 fr1 fr2 hlt
    obtain ⟨e, he⟩ : ∃ e, dcE s = e := ⟨_, rfl⟩
    rw [he] at hcut
    have HE := Lib.hid he
    obtain ⟨_, c1, c2, fr1, fr2⟩ := hcut.out.rd.cells
    obtain ⟨⟨r0, r1, r2, r3⟩, fz⟩ := hcut.out.br
    have f0 := fz 0
    have f1 := fz 1
    have f2 := fz 2
    have f3 := fz 3
    obtain ⟨⟨a0, a1, a2, a3⟩, fa⟩ := hcut.out.tb
    rw [EV.out.1] at a0
    rw [EV.out.2] at a3
    have hlt := hcut.out.hl
    by_cases hz : e = 0
    · have hz1 : (e != 0) = false := by simpa using hz
      have ET := Lib.hid (show dcT s = trD s z0 from by unfold dcT; rw [he, if_pos hz])
      have HZ := Lib.hid hz
      clear hz he
      have P1 := Lib.hid (hcut.out.tx.put4 (g := w.heap.size) (.inl (by omega)) (.int .u32 tv) (.slice (some ⟨b1, 0, none⟩) n n) (.slice (some ⟨b2, 0, none⟩) m m) (.int .u32 tl))
      have P2 := Lib.hid (put4_below hcut.out.bel (Nat.le_refl _) (.int .u32 tv) (.slice (some ⟨b1, 0, none⟩) n n) (.slice (some ⟨b2, 0, none⟩) m m) (.int .u32 tl))
      have P3 := Lib.hid (put4_size wc w.heap.size (.int .u32 tv) (.slice (some ⟨b1, 0, none⟩) n n) (.slice (some ⟨b2, 0, none⟩) m m) (.int .u32 tl))
      go_upto_region 7 with (fail)
      go_region
      go_wp2_with fail
      refine bodyPost_ret (v := .tuple #[.agg #[.int .u32 tv, .slice (some ⟨b1, 0, none⟩) n n, .slice (some ⟨b2, 0, none⟩) m m, .int .u32 tl], .int .i64 (dcA s), .int .i64 0]) (by simp [results, Try.results15, go_sem, r0, r1, r2, r3]) rfl ?_
      rw [HE.out, HZ.out, ET.out, EV.out.1, EV.out.2]
      exact ⟨_, _, rfl, (P1.out.keep (fun _ _ _ => rfl)).wide (by omega) (by show bt ≤ (put4 wc w.heap.size _ _ _ _).heap.size; rw [P3.out]; omega), P2.out.drew⟩
    · have hz1 : (e != 0) = true := by simpa using hz
      have ET := Lib.hid (show dcT s = ⟨0, [], [], 0⟩ from by unfold dcT; rw [he, if_neg hz])
      clear hz he
      have P2 := Lib.hid (put4_below hcut.out.bel (Nat.le_refl _) (.int .u32 0) (.slice none 0 0) (.slice none 0 0) (.int .u32 0))
      go_upto_region 6 with (fail)
      go_region
      go_wp2_with fail
      refine bodyPost_ret (v := .tuple #[.agg #[.int .u32 0, .slice none 0 0, .slice none 0 0, .int .u32 0], .int .i64 (dcA s), .int .i64 e]) (by simp [results, Try.results15, go_sem, r0, r1, r2, r3]) rfl ?_
      rw [HE.out, ET.out]
      exact ⟨_, _, rfl, ⟨Ins.nil _ _ _, Outs.nil _ _ _⟩, P2.out.drew⟩

end Go.Proofs.Ytkdkkndccjddnaa
