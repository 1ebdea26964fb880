/-
  Bytes and transactions, both ways, as functions.
-/
import Derived.Test.YtkdkkndccjddnaaLeft
import Derived.Test.YtkdkkndccjddnaaDec
namespace Go.Proofs.Ytkdkkndccjddnaa
open Go.RowKit

def gIt (p : ByteArray) : List Int := Vi.vlist p.size ++ Vi.nums p
def gIn (x : InD) : List Int := Vi.nums x.id ++ (Vi.digs x.ix 4 ++ (Vi.vlist 0 ++ Vi.digs x.sq 4))
def gOu (x : OutD) : List Int := Vi.digs x.val 8 ++ gIt x.scr
def gWi (ws : List ByteArray) : List Int := Vi.vlist ws.length ++ ws.flatMap gIt
def gMk (m : Bool) : List Int := if m = true then [0, 1] else []
def gWs (m : Bool) (xs : List InD) : List Int := if m = true then xs.flatMap fun x => gWi x.wit else []
theorem gIt_length (p : ByteArray) : (gIt p).length = Vi.vlen p.size + p.size := by rw [gIt, List.length_append, Vi.vlist_length, Vi.nums_length]

theorem nums_catL {α : Type} (f : α → ByteArray) (xs : List α) : Vi.nums (catL f xs) = xs.flatMap fun x => Vi.nums (f x) := by
  induction xs with
  | nil => rfl
  | cons x r ih => rw [catL, Vi.nums_append, ih, List.flatMap_cons]
theorem nums_put4 (n : Int) : Vi.nums (Vi.putS n 4) = Vi.digs n 4 := nums_put n (k := 4) (by decide)
theorem nums_put8 (n : Int) : Vi.nums (Vi.putS n 8) = Vi.digs n 8 := nums_put n (k := 8) (by decide)
theorem nums_item (p : ByteArray) : Vi.nums (itemS p) = gIt p := by rw [itemS, Vi.nums_append, Vi.vstr_nums]; rfl
theorem nums_in (x : InD) : Vi.nums (inS x) = gIn x := by
  unfold inS gIn
  rw [Vi.nums_append, Vi.nums_append, Vi.nums_append, Vi.vstr_nums, nums_put4, nums_put4]
  simp only [List.append_assoc]
theorem nums_out (x : OutD) : Vi.nums (outS x) = gOu x := by
  unfold outS gOu
  rw [Vi.nums_append, nums_item, nums_put8]
theorem nums_wit (x : InD) : Vi.nums (witS x) = gWi x.wit := by
  unfold witS gWi
  rw [Vi.nums_append, Vi.vstr_nums, nums_catL, show (fun x => Vi.nums (itemS x)) = gIt from funext nums_item]
theorem nums_mark (m : Bool) : Vi.nums (markS m) = gMk m := by cases m <;> decide +kernel
theorem nums_wits (m : Bool) (xs : List InD) : Vi.nums (witsS m xs) = gWs m xs := by
  cases m
  · rfl
  · show Vi.nums (catL witS xs) = xs.flatMap fun x => gWi x.wit
    rw [nums_catL]
    exact congrArg (fun f => List.flatMap f xs) (funext nums_wit)
theorem nums_wire (t : TxD) (m : Bool) : Vi.nums (wireS t m) = Vi.digs t.ver 4 ++ (gMk m ++ (Vi.vlist t.ins.length ++ (t.ins.flatMap gIn ++ (Vi.vlist t.outs.length ++ (t.outs.flatMap gOu ++ (gWs m t.ins ++ Vi.digs t.lock 4)))))) := by
  unfold wireS
  simp only [Vi.nums_append, nums_put4, nums_mark, nums_wits, Vi.vstr_nums, nums_catL, List.append_assoc]
  rw [show (fun x => Vi.nums (inS x)) = gIn from funext nums_in, show (fun x => Vi.nums (outS x)) = gOu from funext nums_out]

/-! From bytes that stand there to what is read. -/
section
variable {s : ByteArray}
theorem it_of {a : Nat} {p : ByteArray} {l : List Int} (hp : p.size ≤ 80) (h : Left s a (gIt p ++ l)) : itSt s ⟨a, 0⟩ = ⟨a + (gIt p).length, 0⟩ ∧ itV s ⟨a, 0⟩ = p := by
  rw [gIt, List.append_assoc] at h
  obtain ⟨c1, c2, c3⟩ := cnt_of (lo := 0) (hi := 80) 20 h (by omega) (by omega) (by omega) (by omega)
  have hn : itN s ⟨a, 0⟩ = p.size := by unfold itN; rw [c2]; omega
  obtain ⟨b1, b2, b3⟩ := byt_of c3
  rw [gIt_length]
  refine ⟨?_, ?_⟩
  · unfold itSt
    rw [hn, c1, b1, Nat.add_assoc]
  · unfold itV
    rw [hn, c1, b2]
theorem wi_of {a : Nat} {ws : List ByteArray} {l : List Int} (hw : ws.length ≤ 4) (hs : ∀ p ∈ ws, p.size ≤ 80) (h : Left s a (gWi ws ++ l)) :
    wiSt s ⟨a, 0⟩ = ⟨a + (gWi ws).length, 0⟩ ∧ (List.range (wiN s ⟨a, 0⟩)).map (wiV s ⟨a, 0⟩) = ws := by
  rw [gWi, List.append_assoc] at h
  obtain ⟨c1, c2, c3⟩ := cnt_of (lo := 0) (hi := 4) 6 h (by omega) (by omega) (by omega) (by omega)
  have hn : wiN s ⟨a, 0⟩ = ws.length := by unfold wiN; rw [c2]; omega
  obtain ⟨b1, b2, b3⟩ := iter_of (itSt s) gIt (itV s) id (fun p => p.size ≤ 80) (fun a x l hx h => it_of hx h) ws _ l hs c3
  refine ⟨?_, ?_⟩
  · unfold wiSt
    rw [hn, c1, b1, gWi, List.length_append, Vi.vlist_length, Nat.add_assoc]
  · rw [hn]
    show (List.range ws.length).map (fun j => itV s (iter (itSt s) j (cntSt s 0 4 6 ⟨a, 0⟩))) = ws
    rw [c1, b2, List.map_id]
/-- An input without its Witness. -/
def bareI (x : InD) : InD := ⟨x.id, x.ix, x.sq, []⟩
def GoodI (x : InD) : Prop := x.id.size = 32 ∧ 0 ≤ x.ix ∧ x.ix ≤ 4294967295 ∧ 0 ≤ x.sq ∧ x.sq ≤ 4294967295
theorem in_of {a : Nat} {x : InD} {l : List Int} (hx : GoodI x) (h : Left s a (gIn x ++ l)) : inSt s ⟨a, 0⟩ = ⟨a + (gIn x).length, 0⟩ ∧ inV s ⟨a, 0⟩ = bareI x := by
  obtain ⟨x1, x2, x3, x4, x5⟩ := hx
  simp only [gIn, List.append_assoc] at h
  obtain ⟨b1, b2, b3⟩ := byt_of h
  rw [x1] at b1 b2 b3
  obtain ⟨c1, c2, c3⟩ := num_of (k := 4) (lo := 0) (hi := 4294967295) 0 b3 (by decide) x2 (by omega) x2 x3
  obtain ⟨d1, d2, d3⟩ := cnt_of (lo := 0) (hi := 0) 4 c3 (by omega) (by omega) (by omega) (by omega)
  obtain ⟨e1, e2, e3⟩ := num_of (k := 4) (lo := 0) (hi := 4294967295) 0 d3 (by decide) x4 (by omega) x4 x5
  have q1 : inA s ⟨a, 0⟩ = ⟨a + 32, 0⟩ := b1
  have q2 : inB' s ⟨a, 0⟩ = ⟨a + 32 + 4, 0⟩ := by unfold inB' wdSt; rw [q1, c1]
  have q3 : inC s ⟨a, 0⟩ = ⟨a + 32 + 4 + Vi.vlen 0, 0⟩ := by unfold inC; rw [q2, d1]
  refine ⟨?_, ?_⟩
  · unfold inSt wdSt
    rw [q3, e1]
    have e : a + 32 + 4 + Vi.vlen 0 + 4 = a + (gIn x).length := by
      simp only [gIn, List.length_append, Vi.digs_length, Vi.nums_length, Vi.vlist_length, x1]
      omega
    rw [e]
  · unfold inV wdV bareI
    rw [q1, q3, b2, c2, e2]
def GoodO (x : OutD) : Prop := 0 ≤ x.val ∧ x.val ≤ 2100000000000000 ∧ x.scr.size ≤ 40
theorem out_of {a : Nat} {x : OutD} {l : List Int} (hx : GoodO x) (h : Left s a (gOu x ++ l)) : ouSt s ⟨a, 0⟩ = ⟨a + (gOu x).length, 0⟩ ∧ ouV s ⟨a, 0⟩ = x := by
  obtain ⟨x1, x2, x3⟩ := hx
  simp only [gOu, gIt, List.append_assoc] at h
  obtain ⟨c1, c2, c3⟩ := num_of (k := 8) (lo := 0) (hi := 2100000000000000) 3 h (by decide) x1 (by omega) x1 x2
  obtain ⟨d1, d2, d3⟩ := cnt_of (lo := 0) (hi := 40) 20 c3 (by omega) (by omega) (by omega) (by omega)
  obtain ⟨b1, b2, b3⟩ := byt_of d3
  have q1 : ouA s ⟨a, 0⟩ = ⟨a + 8, 0⟩ := c1
  have q2 : ouN s ⟨a, 0⟩ = x.scr.size := by unfold ouN; rw [q1, d2]; omega
  refine ⟨?_, ?_⟩
  · unfold ouSt
    have e : a + 8 + Vi.vlen x.scr.size + x.scr.size = a + (gOu x).length := by
      rw [gOu, List.length_append, Vi.digs_length, gIt_length]
      omega
    rw [q1, q2, d1, b1, e]
  · unfold ouV
    rw [q1, q2, d1, b2, c2]
theorem is_of {a : Nat} {xs : List InD} {l : List Int} (h1 : 1 ≤ xs.length) (h2 : xs.length ≤ 256) (hx : ∀ x ∈ xs, GoodI x) (h : Left s a (Vi.vlist xs.length ++ (xs.flatMap gIn ++ l))) :
    ∃ b, isSt s ⟨a, 0⟩ = ⟨b, 0⟩ ∧ isN s ⟨a, 0⟩ = xs.length ∧ (List.range xs.length).map (isV s ⟨a, 0⟩) = xs.map bareI ∧ Left s b l := by
  obtain ⟨c1, c2, c3⟩ := cnt_of (lo := 1) (hi := 256) 6 h (by omega) (by omega) (by omega) (by omega)
  have hn : isN s ⟨a, 0⟩ = xs.length := by unfold isN; rw [c2]; omega
  obtain ⟨b1, b2, b3⟩ := iter_of (inSt s) gIn (inV s) bareI GoodI (fun a x l hx h => in_of hx h) xs _ l hx c3
  refine ⟨_, ?_, hn, ?_, b3⟩
  · unfold isSt
    rw [hn, c1, b1]
  · show (List.range xs.length).map (fun j => inV s (iter (inSt s) j (cntSt s 1 256 6 ⟨a, 0⟩))) = _
    rw [c1, b2]
theorem os_of {a : Nat} {xs : List OutD} {l : List Int} (h1 : 1 ≤ xs.length) (h2 : xs.length ≤ 256) (hx : ∀ x ∈ xs, GoodO x) (h : Left s a (Vi.vlist xs.length ++ (xs.flatMap gOu ++ l))) :
    ∃ b, osSt s ⟨a, 0⟩ = ⟨b, 0⟩ ∧ osN s ⟨a, 0⟩ = xs.length ∧ (List.range xs.length).map (osV s ⟨a, 0⟩) = xs ∧ Left s b l := by
  obtain ⟨c1, c2, c3⟩ := cnt_of (lo := 1) (hi := 256) 6 h (by omega) (by omega) (by omega) (by omega)
  have hn : osN s ⟨a, 0⟩ = xs.length := by unfold osN; rw [c2]; omega
  obtain ⟨b1, b2, b3⟩ := iter_of (ouSt s) gOu (ouV s) id GoodO (fun a x l hx h => out_of hx h) xs _ l hx c3
  refine ⟨_, ?_, hn, ?_, b3⟩
  · unfold osSt
    rw [hn, c1, b1]
  · show (List.range xs.length).map (fun j => ouV s (iter (ouSt s) j (cntSt s 1 256 6 ⟨a, 0⟩))) = _
    rw [c1, b2, List.map_id]
def wiL (s : ByteArray) (z : St) : List ByteArray := (List.range (wiN s z)).map (wiV s z)
def GoodW (x : InD) : Prop := x.wit.length ≤ 4 ∧ ∀ p ∈ x.wit, p.size ≤ 80
theorem ws_of {a : Nat} {xs : List InD} {l : List Int} (hx : ∀ x ∈ xs, GoodW x) (h : Left s a ((xs.flatMap fun x => gWi x.wit) ++ l)) :
    ∃ b, wsAt s ⟨a, 0⟩ xs.length = ⟨b, 0⟩ ∧ (List.range xs.length).map (fun j => wiL s (wsAt s ⟨a, 0⟩ j)) = xs.map (·.wit) ∧ Left s b l := by
  obtain ⟨b1, b2, b3⟩ := iter_of (wiSt s) (fun x : InD => gWi x.wit) (wiL s) (·.wit) GoodW (fun a x l hx h => wi_of hx.1 hx.2 h) xs a l hx h
  exact ⟨_, b1, b2, b3⟩
theorem wsT_pos {z : St} {n : Nat} : ∀ j, j < n → 0 < wsN s z j → 0 < wsT s z n := by
  induction n with
  | zero => intro j hj; omega
  | succ n ih =>
    intro j hj h
    show 0 < wsT s z n + wsN s z n
    rcases Nat.lt_or_ge j n with h1 | h1
    · have := ih j h1 h; omega
    · have : j = n := by omega
      subst this; omega
theorem wsT_some {z : St} {n : Nat} (h : 0 < wsT s z n) : ∃ j, j < n ∧ 0 < wsN s z j := by
  induction n with
  | zero => exact absurd h (Nat.lt_irrefl _)
  | succ n ih =>
    have h' : 0 < wsT s z n + wsN s z n := h
    by_cases h1 : 0 < wsN s z n
    · exact ⟨n, by omega, h1⟩
    · obtain ⟨j, hj, hh⟩ := ih (by omega)
      exact ⟨j, by omega, hh⟩
theorem mkSt_eq (z : St) : mkSt s z = if mkV s z = true then numSt s 1 1 1 4 ⟨z.a + 1, z.e⟩ else z := by
  unfold mkSt mkV mkA mkE
  by_cases hb : mkB s z.a z.e = true
  · rw [if_pos hb, if_pos hb, if_pos hb]
    unfold numSt
    have e : ((⟨z.a + 1, z.e⟩ : St).a : Int) = (z.a : Int) + 1 := by show ((z.a + 1 : Nat) : Int) = _; omega
    show _ = St.mk (if numE s ((⟨z.a + 1, z.e⟩ : St).a : Int) z.e (1 : Nat) 1 1 4 = 0 then z.a + 1 + 1 else z.a + 1) (numE s ((⟨z.a + 1, z.e⟩ : St).a : Int) z.e (1 : Nat) 1 1 4)
    rw [e]
    show St.mk (okA (numE s ((z.a : Int) + 1) z.e 1 1 1 4) ((z.a : Int) + 1 + 1) ((z.a : Int) + 1)).toNat (numE s ((z.a : Int) + 1) z.e 1 1 1 4) = St.mk (if numE s ((z.a : Int) + 1) z.e 1 1 1 4 = 0 then z.a + 1 + 1 else z.a + 1) (numE s ((z.a : Int) + 1) z.e 1 1 1 4)
    congr 1
    unfold okA
    split <;> omega
  · rw [if_neg hb, if_neg hb, if_neg hb]
    rfl
theorem mk_yes {a : Nat} {l : List Int} (h : Left s a (gMk true ++ l)) : mkV s ⟨a, 0⟩ = true ∧ mkSt s ⟨a, 0⟩ = ⟨a + 2, 0⟩ ∧ Left s (a + 2) l := by
  have h' : Left s a (Vi.digs 0 1 ++ (Vi.digs 1 1 ++ l)) := h
  have hz := h'.size
  rw [List.length_append, Vi.digs_length] at hz
  obtain ⟨c1, c2, c3⟩ := num_of (k := 1) (lo := 0) (hi := 0) 4 h' (by decide) (by omega) (by omega) (by omega) (by omega)
  obtain ⟨d1, d2, d3⟩ := num_of (k := 1) (lo := 1) (hi := 1) 4 c3 (by decide) (by omega) (by omega) (by omega) (by omega)
  have ho : Vi.okB s a 1 = true := Vi.okB_yes (k := 1) (by decide) (by omega)
  have hg : Vi.getN s a 1 = 0 := by
    have hp := h'.part
    rw [Vi.digs_length] at hp
    refine (Vi.getN_yes (s := s) (a := a) (k := 1) (by decide) (by omega)).trans ?_
    rw [hp]
    rfl
  have hm : mkV s ⟨a, 0⟩ = true := by
    show (Vi.okB s a 1 && (Vi.getN s a 1 == 0) && ((0 : Int) == 0)) = true
    rw [ho, hg]
    rfl
  refine ⟨hm, ?_, d3⟩
  rw [mkSt_eq, if_pos hm]
  exact d1
theorem mk_no {a : Nat} {n : Int} {l : List Int} (h1 : 1 ≤ n) (h2 : n < 65536) (h : Left s a (Vi.vlist n ++ l)) : mkV s ⟨a, 0⟩ = false ∧ mkSt s ⟨a, 0⟩ = ⟨a, 0⟩ := by
  have hf : Vi.getN s a 1 ≠ 0 := by
    have hv := h.1
    unfold Vi.vlist at hv
    by_cases c1 : n < 253
    · rw [if_pos c1] at hv
      have e : Vi.fst s a = n % 256 := Vi.fst_drop (b := n % 256) hv
      show Vi.fst s a ≠ 0
      omega
    · rw [if_neg c1, if_pos h2] at hv
      have e : Vi.fst s a = 253 := Vi.fst_drop hv
      show Vi.fst s a ≠ 0
      omega
  have hm : mkV s ⟨a, 0⟩ = false := by
    show (Vi.okB s a 1 && (Vi.getN s a 1 == 0) && ((0 : Int) == 0)) = false
    have : (Vi.getN s a 1 == 0) = false := by simpa using hf
    rw [this]
    simp
  refine ⟨hm, ?_⟩
  rw [mkSt_eq, hm]
  rfl
end

/-! What a transaction that may be is. -/
theorem addOk_good {s a : Int} (h : addOk s a = true) : 0 ≤ a ∧ a ≤ 2100000000000000 := by
  by_cases hg : 0 ≤ a ∧ a ≤ 2100000000000000
  · exact hg
  · unfold addOk at h
    rw [goodB_false hg] at h
    simp at h
theorem sum_good (s : Int) (zs : List Int) (h : (sumFrom s zs).2 = 0) : ∀ z ∈ zs, 0 ≤ z ∧ z ≤ 2100000000000000 := by
  induction zs generalizing s with
  | nil => simp
  | cons a r ih =>
    cases hok : addOk s a
    · simp [sumFrom, hok] at h
    · simp only [sumFrom, hok, if_true] at h
      intro z hz
      rcases List.mem_cons.1 hz with rfl | hz
      · exact addOk_good hok
      · exact ih (s + a) h z hz
theorem check_parts {t : TxD} (h : checkD t = 0) : 1 ≤ t.ins.length ∧ t.ins.length ≤ 256 ∧ 1 ≤ t.outs.length ∧ t.outs.length ≤ 256 ∧ (∀ x ∈ t.ins, x.id.size = 32 ∧ GoodW x) ∧ (∀ x ∈ t.outs, GoodO x) := by
  unfold checkD at h
  split at h
  · omega
  rename_i h1
  split at h
  · omega
  rename_i h2
  split at h
  · omega
  rename_i h3
  split at h
  · omega
  have hc : countsB t = true := by simpa using h1
  have hl : longB t = false := by simpa using h2
  have hp : pointsB t.ins = true := by simpa using h3
  unfold countsB inR manyB at hc
  simp only [Bool.and_eq_true, decide_eq_true_eq, Bool.not_eq_true', List.any_eq_false] at hc
  unfold longB at hl
  simp only [Bool.or_eq_false_iff, List.any_eq_false, decide_eq_true_eq] at hl
  unfold pointsB amissB at hp
  simp only [Bool.not_eq_true', List.any_eq_false, Bool.or_eq_true, not_or] at hp
  refine ⟨by omega, by omega, by omega, by omega, fun x hx => ⟨?_, ?_, ?_⟩, fun x hx => ⟨(sum_good 0 _ h _ (List.mem_map.2 ⟨x, hx, rfl⟩)).1, (sum_good 0 _ h _ (List.mem_map.2 ⟨x, hx, rfl⟩)).2, ?_⟩⟩
  · have := (hp x hx).1
    simpa using this
  · have := hc.2 x hx
    omega
  · intro p hp'
    have := hl.2 x hx
    simp only [Bool.not_eq_true, List.any_eq_false, decide_eq_true_eq] at this
    have := this p hp'
    omega
  · have := hl.1 x hx
    omega

end Go.Proofs.Ytkdkkndccjddnaa
