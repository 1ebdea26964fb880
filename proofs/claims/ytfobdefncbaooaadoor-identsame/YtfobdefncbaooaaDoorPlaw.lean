/-
  Bytes and transactions, both ways, as functions.
  A transaction's bytes are read as it; what is read of bytes has these.
  What IdentSame and IdentGrows lean on: Witnesses make no difference to the bare bytes, an Out more makes so many bytes more, bytes are decoded to what was encoded.
  What IdentGrows' and IdentSame's walks lean on in memory: a copy's two rows, an Out appended, Witnesses written.
-/
import Derived.Test.YtfobdefncbaooaaDoorLeft
import Derived.Test.YtfobdefncbaooaaDoorIdc
import Derived.Test.YtfobdefncbaooaaDoorFit
import Derived.Test.YtfobdefncbaooaaDoorRlong
import Derived.Test.YtfobdefncbaooaaDoorCopy
import Derived.Deep.AppendLies

namespace Go.Proofs.YtfobdefncbaooaaDoor
open Go.RowKit

def gIt (p : ByteArray) : List Int := Vi.vlist p.size ++ Vi.nums p
def gIn (x : InD) : List Int := Vi.nums x.id ++ (Vi.digs x.ix 4 ++ (Vi.vlist 0 ++ Vi.digs x.sq 4))
def gOu (x : OutD) : List Int := Vi.digs x.val 8 ++ gIt x.scr
def gWi (ws : List ByteArray) : List Int := Vi.vlist ws.length ++ ws.flatMap gIt
def gMk (m : Bool) : List Int := if m = true then [0, 1] else []
def gWs (m : Bool) (xs : List InD) : List Int := if m = true then xs.flatMap fun x => gWi x.wit else []
theorem gIt_length (p : ByteArray) : (gIt p).length = Vi.vlen p.size + p.size := by rw [gIt, List.length_append, Vi.vlist_length, Vi.nums_length]

theorem nums_catL {α : Type} (f : α → ByteArray) (xs : List α) : Vi.nums (catL f xs) = xs.flatMap fun x => Vi.nums (f x) := by
  induction xs with
  | nil => rfl
  | cons x r ih => rw [catL, Vi.nums_append, ih, List.flatMap_cons]
theorem nums_put4 (n : Int) : Vi.nums (Vi.putS n 4) = Vi.digs n 4 := nums_put n (k := 4) (by decide)
theorem nums_put8 (n : Int) : Vi.nums (Vi.putS n 8) = Vi.digs n 8 := nums_put n (k := 8) (by decide)
theorem nums_item (p : ByteArray) : Vi.nums (itemS p) = gIt p := by rw [itemS, Vi.nums_append, Vi.vstr_nums]; rfl
theorem nums_in (x : InD) : Vi.nums (inS x) = gIn x := by
  unfold inS gIn
  rw [Vi.nums_append, Vi.nums_append, Vi.nums_append, Vi.vstr_nums, nums_put4, nums_put4]
  simp only [List.append_assoc]
theorem nums_out (x : OutD) : Vi.nums (outS x) = gOu x := by
  unfold outS gOu
  rw [Vi.nums_append, nums_item, nums_put8]
theorem nums_wit (x : InD) : Vi.nums (witS x) = gWi x.wit := by
  unfold witS gWi
  rw [Vi.nums_append, Vi.vstr_nums, nums_catL, show (fun x => Vi.nums (itemS x)) = gIt from funext nums_item]
theorem nums_mark (m : Bool) : Vi.nums (markS m) = gMk m := by cases m <;> decide +kernel
theorem nums_wits (m : Bool) (xs : List InD) : Vi.nums (witsS m xs) = gWs m xs := by
  cases m
  · rfl
  · show Vi.nums (catL witS xs) = xs.flatMap fun x => gWi x.wit
    rw [nums_catL]
    exact congrArg (fun f => List.flatMap f xs) (funext nums_wit)
theorem nums_wire (t : TxD) (m : Bool) : Vi.nums (wireS t m) = Vi.digs t.ver 4 ++ (gMk m ++ (Vi.vlist t.ins.length ++ (t.ins.flatMap gIn ++ (Vi.vlist t.outs.length ++ (t.outs.flatMap gOu ++ (gWs m t.ins ++ Vi.digs t.lock 4)))))) := by
  unfold wireS
  simp only [Vi.nums_append, nums_put4, nums_mark, nums_wits, Vi.vstr_nums, nums_catL, List.append_assoc]
  rw [show (fun x => Vi.nums (inS x)) = gIn from funext nums_in, show (fun x => Vi.nums (outS x)) = gOu from funext nums_out]

/-! From bytes that stand there to what is read. -/
section
variable {s : ByteArray}
theorem it_of {a : Nat} {p : ByteArray} {l : List Int} (hp : p.size ≤ 80) (h : Left s a (gIt p ++ l)) : itSt s ⟨a, 0⟩ = ⟨a + (gIt p).length, 0⟩ ∧ itV s ⟨a, 0⟩ = p := by
  rw [gIt, List.append_assoc] at h
  obtain ⟨c1, c2, c3⟩ := cnt_of (lo := 0) (hi := 80) 20 h (by omega) (by omega) (by omega) (by omega)
  have hn : itN s ⟨a, 0⟩ = p.size := by unfold itN; rw [c2]; omega
  obtain ⟨b1, b2, b3⟩ := byt_of c3
  rw [gIt_length]
  refine ⟨?_, ?_⟩
  · unfold itSt
    rw [hn, c1, b1, Nat.add_assoc]
  · unfold itV
    rw [hn, c1, b2]
theorem wi_of {a : Nat} {ws : List ByteArray} {l : List Int} (hw : ws.length ≤ 4) (hs : ∀ p ∈ ws, p.size ≤ 80) (h : Left s a (gWi ws ++ l)) :
    wiSt s ⟨a, 0⟩ = ⟨a + (gWi ws).length, 0⟩ ∧ (List.range (wiN s ⟨a, 0⟩)).map (wiV s ⟨a, 0⟩) = ws := by
  rw [gWi, List.append_assoc] at h
  obtain ⟨c1, c2, c3⟩ := cnt_of (lo := 0) (hi := 4) 6 h (by omega) (by omega) (by omega) (by omega)
  have hn : wiN s ⟨a, 0⟩ = ws.length := by unfold wiN; rw [c2]; omega
  obtain ⟨b1, b2, b3⟩ := iter_of (itSt s) gIt (itV s) id (fun p => p.size ≤ 80) (fun a x l hx h => it_of hx h) ws _ l hs c3
  refine ⟨?_, ?_⟩
  · unfold wiSt
    rw [hn, c1, b1, gWi, List.length_append, Vi.vlist_length, Nat.add_assoc]
  · rw [hn]
    show (List.range ws.length).map (fun j => itV s (iter (itSt s) j (cntSt s 0 4 6 ⟨a, 0⟩))) = ws
    rw [c1, b2, List.map_id]
/-- An input without its Witness. -/
def bareI (x : InD) : InD := ⟨x.id, x.ix, x.sq, []⟩
def GoodI (x : InD) : Prop := x.id.size = 32 ∧ 0 ≤ x.ix ∧ x.ix ≤ 4294967295 ∧ 0 ≤ x.sq ∧ x.sq ≤ 4294967295
theorem in_of {a : Nat} {x : InD} {l : List Int} (hx : GoodI x) (h : Left s a (gIn x ++ l)) : inSt s ⟨a, 0⟩ = ⟨a + (gIn x).length, 0⟩ ∧ inV s ⟨a, 0⟩ = bareI x := by
  obtain ⟨x1, x2, x3, x4, x5⟩ := hx
  simp only [gIn, List.append_assoc] at h
  obtain ⟨b1, b2, b3⟩ := byt_of h
  rw [x1] at b1 b2 b3
  obtain ⟨c1, c2, c3⟩ := num_of (k := 4) (lo := 0) (hi := 4294967295) 0 b3 (by decide) x2 (by omega) x2 x3
  obtain ⟨d1, d2, d3⟩ := cnt_of (lo := 0) (hi := 0) 4 c3 (by omega) (by omega) (by omega) (by omega)
  obtain ⟨e1, e2, e3⟩ := num_of (k := 4) (lo := 0) (hi := 4294967295) 0 d3 (by decide) x4 (by omega) x4 x5
  have q1 : inA s ⟨a, 0⟩ = ⟨a + 32, 0⟩ := b1
  have q2 : inB' s ⟨a, 0⟩ = ⟨a + 32 + 4, 0⟩ := by unfold inB' wdSt; rw [q1, c1]
  have q3 : inC s ⟨a, 0⟩ = ⟨a + 32 + 4 + Vi.vlen 0, 0⟩ := by unfold inC; rw [q2, d1]
  refine ⟨?_, ?_⟩
  · unfold inSt wdSt
    rw [q3, e1]
    have e : a + 32 + 4 + Vi.vlen 0 + 4 = a + (gIn x).length := by
      simp only [gIn, List.length_append, Vi.digs_length, Vi.nums_length, Vi.vlist_length, x1]
      omega
    rw [e]
  · unfold inV wdV bareI
    rw [q1, q3, b2, c2, e2]
def GoodO (x : OutD) : Prop := 0 ≤ x.val ∧ x.val ≤ 2100000000000000 ∧ x.scr.size ≤ 40
theorem out_of {a : Nat} {x : OutD} {l : List Int} (hx : GoodO x) (h : Left s a (gOu x ++ l)) : ouSt s ⟨a, 0⟩ = ⟨a + (gOu x).length, 0⟩ ∧ ouV s ⟨a, 0⟩ = x := by
  obtain ⟨x1, x2, x3⟩ := hx
  simp only [gOu, gIt, List.append_assoc] at h
  obtain ⟨c1, c2, c3⟩ := num_of (k := 8) (lo := 0) (hi := 2100000000000000) 3 h (by decide) x1 (by omega) x1 x2
  obtain ⟨d1, d2, d3⟩ := cnt_of (lo := 0) (hi := 40) 20 c3 (by omega) (by omega) (by omega) (by omega)
  obtain ⟨b1, b2, b3⟩ := byt_of d3
  have q1 : ouA s ⟨a, 0⟩ = ⟨a + 8, 0⟩ := c1
  have q2 : ouN s ⟨a, 0⟩ = x.scr.size := by unfold ouN; rw [q1, d2]; omega
  refine ⟨?_, ?_⟩
  · unfold ouSt
    have e : a + 8 + Vi.vlen x.scr.size + x.scr.size = a + (gOu x).length := by
      rw [gOu, List.length_append, Vi.digs_length, gIt_length]
      omega
    rw [q1, q2, d1, b1, e]
  · unfold ouV
    rw [q1, q2, d1, b2, c2]
theorem is_of {a : Nat} {xs : List InD} {l : List Int} (h1 : 1 ≤ xs.length) (h2 : xs.length ≤ 256) (hx : ∀ x ∈ xs, GoodI x) (h : Left s a (Vi.vlist xs.length ++ (xs.flatMap gIn ++ l))) :
    ∃ b, isSt s ⟨a, 0⟩ = ⟨b, 0⟩ ∧ isN s ⟨a, 0⟩ = xs.length ∧ (List.range xs.length).map (isV s ⟨a, 0⟩) = xs.map bareI ∧ Left s b l := by
  obtain ⟨c1, c2, c3⟩ := cnt_of (lo := 1) (hi := 256) 6 h (by omega) (by omega) (by omega) (by omega)
  have hn : isN s ⟨a, 0⟩ = xs.length := by unfold isN; rw [c2]; omega
  obtain ⟨b1, b2, b3⟩ := iter_of (inSt s) gIn (inV s) bareI GoodI (fun a x l hx h => in_of hx h) xs _ l hx c3
  refine ⟨_, ?_, hn, ?_, b3⟩
  · unfold isSt
    rw [hn, c1, b1]
  · show (List.range xs.length).map (fun j => inV s (iter (inSt s) j (cntSt s 1 256 6 ⟨a, 0⟩))) = _
    rw [c1, b2]
theorem os_of {a : Nat} {xs : List OutD} {l : List Int} (h1 : 1 ≤ xs.length) (h2 : xs.length ≤ 256) (hx : ∀ x ∈ xs, GoodO x) (h : Left s a (Vi.vlist xs.length ++ (xs.flatMap gOu ++ l))) :
    ∃ b, osSt s ⟨a, 0⟩ = ⟨b, 0⟩ ∧ osN s ⟨a, 0⟩ = xs.length ∧ (List.range xs.length).map (osV s ⟨a, 0⟩) = xs ∧ Left s b l := by
  obtain ⟨c1, c2, c3⟩ := cnt_of (lo := 1) (hi := 256) 6 h (by omega) (by omega) (by omega) (by omega)
  have hn : osN s ⟨a, 0⟩ = xs.length := by unfold osN; rw [c2]; omega
  obtain ⟨b1, b2, b3⟩ := iter_of (ouSt s) gOu (ouV s) id GoodO (fun a x l hx h => out_of hx h) xs _ l hx c3
  refine ⟨_, ?_, hn, ?_, b3⟩
  · unfold osSt
    rw [hn, c1, b1]
  · show (List.range xs.length).map (fun j => ouV s (iter (ouSt s) j (cntSt s 1 256 6 ⟨a, 0⟩))) = _
    rw [c1, b2, List.map_id]
def wiL (s : ByteArray) (z : St) : List ByteArray := (List.range (wiN s z)).map (wiV s z)
def GoodW (x : InD) : Prop := x.wit.length ≤ 4 ∧ ∀ p ∈ x.wit, p.size ≤ 80
theorem ws_of {a : Nat} {xs : List InD} {l : List Int} (hx : ∀ x ∈ xs, GoodW x) (h : Left s a ((xs.flatMap fun x => gWi x.wit) ++ l)) :
    ∃ b, wsAt s ⟨a, 0⟩ xs.length = ⟨b, 0⟩ ∧ (List.range xs.length).map (fun j => wiL s (wsAt s ⟨a, 0⟩ j)) = xs.map (·.wit) ∧ Left s b l := by
  obtain ⟨b1, b2, b3⟩ := iter_of (wiSt s) (fun x : InD => gWi x.wit) (wiL s) (·.wit) GoodW (fun a x l hx h => wi_of hx.1 hx.2 h) xs a l hx h
  exact ⟨_, b1, b2, b3⟩
theorem wsT_pos {z : St} {n : Nat} : ∀ j, j < n → 0 < wsN s z j → 0 < wsT s z n := by
  induction n with
  | zero => intro j hj; omega
  | succ n ih =>
    intro j hj h
    show 0 < wsT s z n + wsN s z n
    rcases Nat.lt_or_ge j n with h1 | h1
    · have := ih j h1 h; omega
    · have : j = n := by omega
      subst this; omega
theorem wsT_some {z : St} {n : Nat} (h : 0 < wsT s z n) : ∃ j, j < n ∧ 0 < wsN s z j := by
  induction n with
  | zero => exact absurd h (Nat.lt_irrefl _)
  | succ n ih =>
    have h' : 0 < wsT s z n + wsN s z n := h
    by_cases h1 : 0 < wsN s z n
    · exact ⟨n, by omega, h1⟩
    · obtain ⟨j, hj, hh⟩ := ih (by omega)
      exact ⟨j, by omega, hh⟩
theorem mkSt_eq (z : St) : mkSt s z = if mkV s z = true then numSt s 1 1 1 4 ⟨z.a + 1, z.e⟩ else z := by
  unfold mkSt mkV mkA mkE
  by_cases hb : mkB s z.a z.e = true
  · rw [if_pos hb, if_pos hb, if_pos hb]
    unfold numSt
    have e : ((⟨z.a + 1, z.e⟩ : St).a : Int) = (z.a : Int) + 1 := by show ((z.a + 1 : Nat) : Int) = _; omega
    show _ = St.mk (if numE s ((⟨z.a + 1, z.e⟩ : St).a : Int) z.e (1 : Nat) 1 1 4 = 0 then z.a + 1 + 1 else z.a + 1) (numE s ((⟨z.a + 1, z.e⟩ : St).a : Int) z.e (1 : Nat) 1 1 4)
    rw [e]
    show St.mk (okA (numE s ((z.a : Int) + 1) z.e 1 1 1 4) ((z.a : Int) + 1 + 1) ((z.a : Int) + 1)).toNat (numE s ((z.a : Int) + 1) z.e 1 1 1 4) = St.mk (if numE s ((z.a : Int) + 1) z.e 1 1 1 4 = 0 then z.a + 1 + 1 else z.a + 1) (numE s ((z.a : Int) + 1) z.e 1 1 1 4)
    congr 1
    unfold okA
    split <;> omega
  · rw [if_neg hb, if_neg hb, if_neg hb]
    rfl
theorem mk_yes {a : Nat} {l : List Int} (h : Left s a (gMk true ++ l)) : mkV s ⟨a, 0⟩ = true ∧ mkSt s ⟨a, 0⟩ = ⟨a + 2, 0⟩ ∧ Left s (a + 2) l := by
  have h' : Left s a (Vi.digs 0 1 ++ (Vi.digs 1 1 ++ l)) := h
  have hz := h'.size
  rw [List.length_append, Vi.digs_length] at hz
  obtain ⟨c1, c2, c3⟩ := num_of (k := 1) (lo := 0) (hi := 0) 4 h' (by decide) (by omega) (by omega) (by omega) (by omega)
  obtain ⟨d1, d2, d3⟩ := num_of (k := 1) (lo := 1) (hi := 1) 4 c3 (by decide) (by omega) (by omega) (by omega) (by omega)
  have ho : Vi.okB s a 1 = true := Vi.okB_yes (k := 1) (by decide) (by omega)
  have hg : Vi.getN s a 1 = 0 := by
    have hp := h'.part
    rw [Vi.digs_length] at hp
    refine (Vi.getN_yes (s := s) (a := a) (k := 1) (by decide) (by omega)).trans ?_
    rw [hp]
    rfl
  have hm : mkV s ⟨a, 0⟩ = true := by
    show (Vi.okB s a 1 && (Vi.getN s a 1 == 0) && ((0 : Int) == 0)) = true
    rw [ho, hg]
    rfl
  refine ⟨hm, ?_, d3⟩
  rw [mkSt_eq, if_pos hm]
  exact d1
theorem mk_no {a : Nat} {n : Int} {l : List Int} (h1 : 1 ≤ n) (h2 : n < 65536) (h : Left s a (Vi.vlist n ++ l)) : mkV s ⟨a, 0⟩ = false ∧ mkSt s ⟨a, 0⟩ = ⟨a, 0⟩ := by
  have hf : Vi.getN s a 1 ≠ 0 := by
    have hv := h.1
    unfold Vi.vlist at hv
    by_cases c1 : n < 253
    · rw [if_pos c1] at hv
      have e : Vi.fst s a = n % 256 := Vi.fst_drop (b := n % 256) hv
      show Vi.fst s a ≠ 0
      omega
    · rw [if_neg c1, if_pos h2] at hv
      have e : Vi.fst s a = 253 := Vi.fst_drop hv
      show Vi.fst s a ≠ 0
      omega
  have hm : mkV s ⟨a, 0⟩ = false := by
    show (Vi.okB s a 1 && (Vi.getN s a 1 == 0) && ((0 : Int) == 0)) = false
    have : (Vi.getN s a 1 == 0) = false := by simpa using hf
    rw [this]
    simp
  refine ⟨hm, ?_⟩
  rw [mkSt_eq, hm]
  rfl
end

/-! What a transaction that may be is. -/
theorem addOk_good {s a : Int} (h : addOk s a = true) : 0 ≤ a ∧ a ≤ 2100000000000000 := by
  by_cases hg : 0 ≤ a ∧ a ≤ 2100000000000000
  · exact hg
  · unfold addOk at h
    rw [goodB_false hg] at h
    simp at h
theorem sum_good (s : Int) (zs : List Int) (h : (sumFrom s zs).2 = 0) : ∀ z ∈ zs, 0 ≤ z ∧ z ≤ 2100000000000000 := by
  induction zs generalizing s with
  | nil => simp
  | cons a r ih =>
    cases hok : addOk s a
    · simp [sumFrom, hok] at h
    · simp only [sumFrom, hok, if_true] at h
      intro z hz
      rcases List.mem_cons.1 hz with rfl | hz
      · exact addOk_good hok
      · exact ih (s + a) h z hz
theorem check_parts {t : TxD} (h : checkD t = 0) : 1 ≤ t.ins.length ∧ t.ins.length ≤ 256 ∧ 1 ≤ t.outs.length ∧ t.outs.length ≤ 256 ∧ (∀ x ∈ t.ins, x.id.size = 32 ∧ GoodW x) ∧ (∀ x ∈ t.outs, GoodO x) := by
  unfold checkD at h
  split at h
  · omega
  rename_i h1
  split at h
  · omega
  rename_i h2
  split at h
  · omega
  rename_i h3
  split at h
  · omega
  have hc : countsB t = true := by simpa using h1
  have hl : longB t = false := by simpa using h2
  have hp : pointsB t.ins = true := by simpa using h3
  unfold countsB inR manyB at hc
  simp only [Bool.and_eq_true, decide_eq_true_eq, Bool.not_eq_true', List.any_eq_false] at hc
  unfold longB at hl
  simp only [Bool.or_eq_false_iff, List.any_eq_false, decide_eq_true_eq] at hl
  unfold pointsB amissB at hp
  simp only [Bool.not_eq_true', List.any_eq_false, Bool.or_eq_true, not_or] at hp
  refine ⟨by omega, by omega, by omega, by omega, fun x hx => ⟨?_, ?_, ?_⟩, fun x hx => ⟨(sum_good 0 _ h _ (List.mem_map.2 ⟨x, hx, rfl⟩)).1, (sum_good 0 _ h _ (List.mem_map.2 ⟨x, hx, rfl⟩)).2, ?_⟩⟩
  · have := (hp x hx).1
    simpa using this
  · have := hc.2 x hx
    omega
  · intro p hp'
    have := hl.2 x hx
    simp only [Bool.not_eq_true, List.any_eq_false, decide_eq_true_eq] at this
    have := this p hp'
    omega
  · have := hl.1 x hx
    omega

end Go.Proofs.YtfobdefncbaooaaDoor

namespace Go.Proofs.YtfobdefncbaooaaDoor
open Go.RowKit

/-- A transaction without its Witnesses. -/
def bareT (t : TxD) : TxD := ⟨t.ver, t.ins.map bareI, t.outs, t.lock⟩
theorem points_bare (xs : List InD) : pointsB (xs.map bareI) = pointsB xs := by
  unfold pointsB
  rw [List.any_map, List.length_map]
  rfl
theorem twice_bare (xs : List InD) : twiceB (xs.map bareI) = twiceB xs := by
  unfold twiceB
  rw [List.any_map]
  congr 1
  funext x
  show moreB (cnt (xs.map bareI) (bareI x)) = moreB (cnt xs x)
  unfold cnt
  rw [List.countP_map]
  rfl
theorem check_bare {t : TxD} (h : checkD t = 0) : checkD (bareT t) = 0 := by
  unfold checkD at h ⊢
  split at h
  · omega
  rename_i h1
  split at h
  · omega
  rename_i h2
  split at h
  · omega
  rename_i h3
  split at h
  · omega
  rename_i h4
  have c1 : ¬ countsB (bareT t) = false := by
    have hc : countsB t = true := by simpa using h1
    unfold countsB at hc
    simp only [Bool.and_eq_true] at hc
    have : countsB (bareT t) = true := by
      unfold countsB bareT
      rw [List.length_map, hc.1.1, hc.1.2, List.any_map]
      show (!(t.ins.any fun x => manyB ([] : List ByteArray).length)) = true
      simp [manyB]
    rw [this]
    decide
  have c2 : ¬ longB (bareT t) = true := by
    have hl : longB t = false := by simpa using h2
    unfold longB at hl
    simp only [Bool.or_eq_false_iff] at hl
    have : longB (bareT t) = false := by
      unfold longB bareT
      rw [hl.1, List.any_map]
      show (false || t.ins.any fun x => ([] : List ByteArray).any fun s => decide (80 < s.size)) = false
      simp
    rw [this]
    decide
  have c3 : ¬ pointsB (bareT t).ins = false := by show ¬ pointsB (t.ins.map bareI) = false; rw [points_bare]; exact h3
  have c4 : ¬ twiceB (bareT t).ins = true := by show ¬ twiceB (t.ins.map bareI) = true; rw [twice_bare]; exact h4
  rw [if_neg c1, if_neg c2, if_neg c3, if_neg c4]
  exact h
theorem comb {n : Nat} {xs : List InD} {f : Nat → InD} {g : Nat → List ByteArray} (h1 : (List.range n).map f = xs.map bareI) (h2 : (List.range n).map g = xs.map (·.wit)) :
    (List.range n).map (fun j => (⟨(f j).id, (f j).ix, (f j).sq, g j⟩ : InD)) = xs := by
  have hl : n = xs.length := by have := congrArg List.length h1; simpa using this
  refine List.ext_getElem? fun j => ?_
  by_cases hj : j < n
  · obtain ⟨x, hx⟩ : ∃ x, xs[j]? = some x := ⟨_, List.getElem?_eq_getElem (by omega)⟩
    have a := congrArg (fun l => l[j]?) h1
    have b := congrArg (fun l => l[j]?) h2
    simp [hj, hx] at a b
    simp [hj, hx, a, b, bareI]
  · rw [List.getElem?_eq_none (by simpa using hj), List.getElem?_eq_none (by omega)]

theorem wire_of (t : TxD) (m : Bool) (hok : t.Ok) (hc : checkD t = 0) (hm : m = true → hasW t = true) :
    t6 (wireS t m) z0 = ⟨(wireS t m).size, 0⟩ ∧ trD (wireS t m) z0 = if m = true then t else bareT t := by
  obtain ⟨n1, n2, o1, o2, hi, ho⟩ := check_parts hc
  obtain ⟨s, hs⟩ : ∃ s, wireS t m = s := ⟨_, rfl⟩
  have L0 : Left s 0 (Vi.nums (wireS t m)) := by rw [hs]; exact Left.all s
  rw [nums_wire] at L0
  rw [hs]
  have hv := hok.2.2.2.2
  have hgi : ∀ x ∈ t.ins, GoodI x := fun x hx => by
    have := hok.2.2.1 x hx
    exact ⟨(hi x hx).1, this.2.1, this.2.2.1, this.2.2.2.1, this.2.2.2.2.1⟩
  obtain ⟨a1, a2, a3⟩ := num_of (k := 4) (lo := 0) (hi := 4294967295) 0 L0 (by decide) hv.1 (by omega) hv.1 hv.2.1
  have e1 : t1 s z0 = ⟨0 + 4, 0⟩ := a1
  have v1 : wdV s z0 = t.ver := a2
  have hmk : ∃ b, tM s z0 = m ∧ t2 s z0 = ⟨b, 0⟩ ∧ Left s b (Vi.vlist t.ins.length ++ (t.ins.flatMap gIn ++ (Vi.vlist t.outs.length ++ (t.outs.flatMap gOu ++ (gWs m t.ins ++ Vi.digs t.lock 4))))) := by
    cases m
    · rw [show gMk false = [] from rfl, List.nil_append] at a3
      obtain ⟨q1, q2⟩ := mk_no (n := t.ins.length) (by omega) (by omega) a3
      exact ⟨_, by show mkV s (t1 s z0) = false; rw [e1]; exact q1, by show mkSt s (t1 s z0) = _; rw [e1]; exact q2, a3⟩
    · obtain ⟨q1, q2, q3⟩ := mk_yes a3
      exact ⟨_, by show mkV s (t1 s z0) = true; rw [e1]; exact q1, by show mkSt s (t1 s z0) = _; rw [e1]; exact q2, q3⟩
  obtain ⟨b2, hM, e2, L2⟩ := hmk
  obtain ⟨b3, e3, nI, vI, L3⟩ := is_of n1 n2 hgi L2
  have t3e : t3 s z0 = ⟨b3, 0⟩ := by show isSt s (t2 s z0) = _; rw [e2]; exact e3
  have hN : tN s z0 = t.ins.length := by show isN s (t2 s z0) = _; rw [e2]; exact nI
  obtain ⟨b4, e4, nO, vO, L4⟩ := os_of o1 o2 ho L3
  have t4e : t4 s z0 = ⟨b4, 0⟩ := by show osSt s (t3 s z0) = _; rw [t3e]; exact e4
  have h5 : ∃ b5, t5 s z0 = ⟨b5, 0⟩ ∧ Left s b5 (Vi.digs t.lock 4) ∧ (m = true → (List.range t.ins.length).map (fun j => wiL s (wsAt s (t4 s z0) j)) = t.ins.map (·.wit)) := by
    cases m
    · exact ⟨b4, by unfold t5; rw [hM, if_neg (by decide), t4e], L4, fun h => by cases h⟩
    · obtain ⟨b5, w1, w2, L5⟩ := ws_of (xs := t.ins) (fun x hx => (hi x hx).2) L4
      have hh := hm rfl
      unfold hasW at hh
      obtain ⟨x, hx, hx0⟩ := List.any_eq_true.1 hh
      obtain ⟨j, hj⟩ := List.getElem?_of_mem hx
      have hjl := (List.getElem?_eq_some_iff.1 hj).1
      have q := congrArg (fun l => l[j]?) w2
      simp [hjl] at q
      have hpos : 0 < wsN s ⟨b4, 0⟩ j := by
        have ql := congrArg List.length q
        unfold wiL at ql
        rw [List.length_map, List.length_range] at ql
        show 0 < wiN s (wsAt s ⟨b4, 0⟩ j)
        rw [ql, (List.getElem?_eq_some_iff.1 hj).2]
        simpa using hx0
      have hT := wsT_pos j hjl hpos
      refine ⟨b5, ?_, L5, fun _ => by rw [t4e]; exact w2⟩
      unfold t5 wsSt
      rw [hM, if_pos rfl, hN, t4e, if_neg (by omega), w1]
  obtain ⟨b5, e5, L5, hW⟩ := h5
  obtain ⟨f1, f2, f3⟩ := num_of (k := 4) (l := []) (lo := 0) (hi := 4294967295) 0 (by rw [List.append_nil]; exact L5) (by decide) hv.2.2.1 (by omega) hv.2.2.1 hv.2.2.2
  have hz := f3.size
  have hz' : b5 + 4 = s.size := hz
  refine ⟨?_, ?_⟩
  · show wdSt s (t5 s z0) = _
    rw [e5, ← hz']
    exact f1
  · have hlk : wdV s (t5 s z0) = t.lock := by rw [e5]; exact f2
    have hou : (List.range (osN s (t3 s z0))).map (osV s (t3 s z0)) = t.outs := by rw [t3e, nO, vO]
    show TxD.mk (wdV s z0) ((List.range (tN s z0)).map (trIn s z0)) ((List.range (osN s (t3 s z0))).map (osV s (t3 s z0))) (wdV s (t5 s z0)) = _
    rw [v1, hlk, hou, hN]
    rw [← e2] at vI
    cases m
    · rw [if_neg (by decide)]
      have : (List.range t.ins.length).map (trIn s z0) = t.ins.map bareI := by
        rw [← vI]
        refine List.map_congr_left fun j _ => ?_
        unfold trIn
        rw [hM]
        rfl
      rw [this]
      rfl
    · rw [if_pos rfl]
      have : (List.range t.ins.length).map (trIn s z0) = t.ins := by
        refine Eq.trans ?_ (comb vI (hW rfl))
        refine List.map_congr_left fun j _ => ?_
        unfold trIn
        rw [hM]
        rfl
      rw [this]

end Go.Proofs.YtfobdefncbaooaaDoor

namespace Go.Proofs.YtfobdefncbaooaaDoor
open Go.RowKit

theorem bare_none {t : TxD} (h : hasW t = false) : bareT t = t := by
  have : t.ins.map bareI = t.ins := by
    have q : ∀ x ∈ t.ins, bareI x = x := by
      intro x hx
      unfold hasW at h
      have h1 := List.any_eq_false.1 h x hx
      have : x.wit = [] := by simpa using h1
      show (⟨x.id, x.ix, x.sq, []⟩ : InD) = x
      rw [← this]
    exact (List.map_congr_left q).trans (List.map_id t.ins)
  unfold bareT
  rw [this]
theorem dec_enc {t : TxD} (hok : t.Ok) (hc : checkD t = 0) : dcE (wireS t (hasW t)) = 0 ∧ dcA (wireS t (hasW t)) = (wireS t (hasW t)).size ∧ dcT (wireS t (hasW t)) = t := by
  obtain ⟨h1, h2⟩ := wire_of t (hasW t) hok hc (fun h => h)
  have hT : trD (wireS t (hasW t)) z0 = t := by
    rw [h2]
    by_cases h : hasW t = true
    · rw [if_pos h]
    · rw [if_neg h, bare_none (by simpa using h)]
  have h7 : t7 (wireS t (hasW t)) z0 = ⟨(wireS t (hasW t)).size, 0⟩ := by
    unfold t7
    rw [h1]
    show St.mk (wireS t (hasW t)).size (endE (wireS t (hasW t)) ((wireS t (hasW t)).size : Nat) 0) = _
    unfold endE
    rw [if_neg (by omega)]
  have hE : dcE (wireS t (hasW t)) = 0 := by
    unfold dcE
    rw [h7, if_pos rfl, hT, hc]
  refine ⟨hE, by unfold dcA; rw [h7], ?_⟩
  unfold dcT
  rw [if_pos hE, hT]
theorem bare_le (t : TxD) (m : Bool) : (wireS t false).size ≤ (wireS t m).size := by
  have e1 : (markS false).size = 0 := rfl
  have e2 : (witsS false t.ins).size = 0 := rfl
  simp only [wireS, ByteArray.size_append, e1, e2]
  omega

/-- The Ins of a row, whose first k Witnesses are struck. -/
structure BkI (w : World) (g k : Nat) (xs : List InD) : Prop where
  blk : ∃ cur, w.heap[g]? = some (.cells cur 47 (0, 0))
  at' : ∀ j x, xs[j]? = some x → w.cell? ⟨g, j * 4, none⟩ = some (.string x.id) ∧ w.cell? ⟨g, j * 4 + 1, none⟩ = some (.int .u32 x.ix) ∧ w.cell? ⟨g, j * 4 + 2, none⟩ = some (.int .u32 x.sq) ∧ (∃ v, w.cell? ⟨g, j * 4 + 3, none⟩ = some v) ∧ (j < k → w.cell? ⟨g, j * 4 + 3, none⟩ = some (.slice none 0 0))
theorem BkI.lt {w : World} {g k : Nat} {xs : List InD} (h : BkI w g k xs) : g < w.heap.size := by
  obtain ⟨cur, hc⟩ := h.blk
  rcases Nat.lt_or_ge g w.heap.size with h' | h'
  · exact h'
  · rw [Array.getElem?_eq_none h'] at hc; cases hc
theorem BkI.frozen {w : World} {g k : Nat} {xs : List InD} (h : BkI w g k xs) (o : Nat) : w.frozen? ⟨g, o, none⟩ = false := by
  obtain ⟨cur, hc⟩ := h.blk
  exact Lib.frozen_of_heap hc o
theorem BkI.below {w w' : World} {g k : Nat} {xs : List InD} (h : BkI w g k xs) (hb : Below w.heap.size w w') : BkI w' g k xs := by
  have hl := h.lt
  obtain ⟨cur, hc⟩ := h.blk
  refine ⟨⟨cur, (hb.block g hl).trans hc⟩, fun j x hx => ?_⟩
  have f : ∀ o, w'.cell? ⟨g, o, none⟩ = w.cell? ⟨g, o, none⟩ := fun o => hb.cell (p := ⟨g, o, none⟩) hl
  rw [f, f, f, f]
  exact h.at' j x hx
theorem BkI.step {w : World} {g k : Nat} {xs : List InD} (h : BkI w g k xs) (hk : k < xs.length) : BkI (w.setCell ⟨g, k * 4 + 3, none⟩ (.slice none 0 0)) g (k + 1) xs := by
  obtain ⟨cur, hc⟩ := h.blk
  obtain ⟨y, hy⟩ : ∃ y, xs[k]? = some y := ⟨_, List.getElem?_eq_getElem hk⟩
  obtain ⟨_, _, _, ⟨u, hu⟩, _⟩ := h.at' k y hy
  refine ⟨⟨cur.setIfInBounds (k * 4 + 3) (.slice none 0 0), by simp [World.setCell, Array.getElem?_modify, hc]⟩, fun j x hx => ?_⟩
  obtain ⟨a0, a1, a2, ⟨v, a3⟩, a4⟩ := h.at' j x hx
  have f : ∀ o, o ≠ k * 4 + 3 → (w.setCell ⟨g, k * 4 + 3, none⟩ (.slice none 0 0)).cell? ⟨g, o, none⟩ = w.cell? ⟨g, o, none⟩ := fun o ho => World.cell?_setCell_other _ _ _ _ (by intro e; injection e with _ e; exact ho e.symm)
  rw [f _ (by omega), f _ (by omega), f _ (by omega)]
  by_cases e : j = k
  · subst e
    have q := World.cell?_setCell_same w ⟨g, j * 4 + 3, none⟩ (.slice none 0 0) hu
    exact ⟨a0, a1, a2, ⟨_, q⟩, fun _ => q⟩
  · rw [f _ (by omega)]
    exact ⟨a0, a1, a2, ⟨v, a3⟩, fun hj => a4 (by omega)⟩
theorem BkI.ins {w : World} {g k c : Nat} {xs : List InD} (h : BkI w g k xs) (hk : xs.length ≤ k) (hc : xs.length ≤ c) : Ins w 0 w.heap.size (.slice (some ⟨g, 0, none⟩) xs.length c) (xs.map bareI) := by
  refine ⟨_, c, by rw [List.length_map], by rw [List.length_map]; exact hc, .inr ⟨g, 0, rfl, Nat.zero_le _, h.lt, fun j x hx => ?_⟩⟩
  rw [List.getElem?_map] at hx
  obtain ⟨y, hy, rfl⟩ := Option.map_eq_some_iff.1 hx
  obtain ⟨a0, a1, a2, _, a4⟩ := h.at' j y hy
  have hj := (List.getElem?_eq_some_iff.1 hy).1
  rw [Nat.zero_add]
  exact ⟨a0, a1, a2, _, a4 (by omega), Strs.nil _ _ _⟩
theorem bk_new {w : World} {lo hi : Nat} {A : Option Addr} {xs : List InD} (h : RowI w lo hi A xs) (hl : 1 ≤ xs.length) : ∃ g, A = some ⟨g, 0, none⟩ ∧ lo ≤ g ∧ g < hi ∧ BkI w g 0 xs := by
  rcases h with rfl | ⟨g, cur, rfl, h1, h2, hg, hh⟩
  · simp at hl
  · refine ⟨g, rfl, h1, h2, ⟨cur, hg⟩, fun j x hx => ?_⟩
    obtain ⟨a0, a1, a2, v, a3, _⟩ := hh j x hx
    exact ⟨a0, a1, a2, ⟨v, a3⟩, fun hj => absurd hj (Nat.not_lt_zero _)⟩

theorem Boxed.set {w : World} {b g o : Nat} {v0 v1 v2 v3 x : Value} (h : Boxed w b v0 v1 v2 v3) (hb : b ≠ g) : Boxed (w.setCell ⟨g, o, none⟩ x) b v0 v1 v2 v3 := by
  have f : ∀ p, (w.setCell ⟨g, o, none⟩ x).cell? ⟨b, p, none⟩ = w.cell? ⟨b, p, none⟩ := fun p => World.cell?_of_block (w := w) (Below.heap_setCell _ _ _ _ hb)
  exact ⟨(f 0).trans h.1, (f 1).trans h.2.1, (f 2).trans h.2.2.1, (f 3).trans h.2.2.2⟩
theorem bare_ok {t : TxD} (h : t.Ok) : (bareT t).Ok := by
  refine ⟨by show (t.ins.map bareI).length ≤ 512; rw [List.length_map]; exact h.1, h.2.1, fun x hx => ?_, h.2.2.2.1, h.2.2.2.2⟩
  obtain ⟨y, hy, rfl⟩ := List.mem_map.1 hx
  have q := h.2.2.1 y hy
  exact ⟨q.1, q.2.1, q.2.2.1, q.2.2.2.1, q.2.2.2.2.1, Nat.zero_le _, fun s hs => by cases hs⟩


/-- A transaction each of whose Witnesses is ss. -/
def setW (ss : List ByteArray) (x : InD) : InD := ⟨x.id, x.ix, x.sq, ss⟩
def withW (t : TxD) (ss : List ByteArray) : TxD := ⟨t.ver, t.ins.map (setW ss), t.outs, t.lock⟩
theorem points_with (xs : List InD) (ss : List ByteArray) : pointsB (xs.map (setW ss)) = pointsB xs := by
  unfold pointsB
  rw [List.any_map, List.length_map]
  rfl
theorem twice_with (xs : List InD) (ss : List ByteArray) : twiceB (xs.map (setW ss)) = twiceB xs := by
  unfold twiceB
  rw [List.any_map]
  congr 1
  funext x
  show moreB (cnt (xs.map (setW ss)) (setW ss x)) = moreB (cnt xs x)
  unfold cnt
  rw [List.countP_map]
  rfl
theorem check_with {t : TxD} {ss : List ByteArray} (h : checkD t = 0) (hl : ss.length ≤ 4) (hs : ∀ s ∈ ss, s.size ≤ 80) : checkD (withW t ss) = 0 := by
  unfold checkD at h ⊢
  split at h
  · omega
  rename_i h1
  split at h
  · omega
  rename_i h2
  split at h
  · omega
  rename_i h3
  split at h
  · omega
  rename_i h4
  have c1 : ¬ countsB (withW t ss) = false := by
    have hc : countsB t = true := by simpa using h1
    unfold countsB at hc
    simp only [Bool.and_eq_true] at hc
    have : countsB (withW t ss) = true := by
      unfold countsB withW
      rw [List.length_map, hc.1.1, hc.1.2, List.any_map]
      show (!(t.ins.any fun x => manyB ss.length)) = true
      have e : manyB ss.length = false := by simp [manyB]; omega
      simp [e]
    rw [this]
    decide
  have c2 : ¬ longB (withW t ss) = true := by
    have hl : longB t = false := by simpa using h2
    unfold longB at hl
    simp only [Bool.or_eq_false_iff] at hl
    have : longB (withW t ss) = false := by
      unfold longB withW
      rw [hl.1, List.any_map]
      show (false || t.ins.any fun x => ss.any fun s => decide (80 < s.size)) = false
      have e : (ss.any fun s => decide (80 < s.size)) = false := by
        rw [List.any_eq_false]
        intro s hh
        have := hs s hh
        simp
        omega
      simp [e]
    rw [this]
    decide
  have c3 : ¬ pointsB (withW t ss).ins = false := by show ¬ pointsB (t.ins.map (setW ss)) = false; rw [points_with]; exact h3
  have c4 : ¬ twiceB (withW t ss).ins = true := by show ¬ twiceB (t.ins.map (setW ss)) = true; rw [twice_with]; exact h4
  rw [if_neg c1, if_neg c2, if_neg c3, if_neg c4]
  exact h
theorem cat_with (xs : List InD) (ss : List ByteArray) : catL inS (xs.map (setW ss)) = catL inS xs := by
  induction xs with
  | nil => rfl
  | cons x r ih =>
    show inS (setW ss x) ++ catL inS (r.map (setW ss)) = inS x ++ catL inS r
    rw [ih]
    rfl
theorem wire_with (t : TxD) (ss : List ByteArray) : wireS (withW t ss) false = wireS t false := by
  unfold wireS withW
  rw [List.length_map, cat_with]
  rfl
theorem with_ok {t : TxD} {ss : List ByteArray} (h : t.Ok) (hl : ss.length ≤ 4) (hs : ∀ s ∈ ss, s.size ≤ 80) : (withW t ss).Ok := by
  refine ⟨by show (t.ins.map (setW ss)).length ≤ 512; rw [List.length_map]; exact h.1, h.2.1, fun x hx => ?_, h.2.2.2.1, h.2.2.2.2⟩
  obtain ⟨y, hy, rfl⟩ := List.mem_map.1 hx
  have q := h.2.2.1 y hy
  exact ⟨q.1, q.2.1, q.2.2.1, q.2.2.2.1, q.2.2.2.2.1, (show ss.length ≤ 8 by omega), fun s hh => (show s.size ≤ 128 by have := hs s hh; omega)⟩
theorem bare_hasW (t : TxD) : hasW (bareT t) = false := by
  unfold hasW bareT
  rw [List.any_map, List.any_eq_false]
  intro x _
  show ¬ decide (0 < ([] : List ByteArray).length) = true
  decide
theorem bare_with (t : TxD) : bareT t = withW t [] := rfl
/-- P7.3, of a transaction that may be. -/
theorem same_all {u : TxD} {ss : List ByteArray} (hc : checkD u = 0) (hl : ss.length ≤ 4) (hs : ∀ s ∈ ss, s.size ≤ 80) :
    checkD (withW u ss) = 0 ∧ checkD (bareT u) = 0 ∧ idS (withW u ss) = idS u ∧ whS (bareT u) = idS u ∧ (szN (bareT u) = ((encS (bareT u) (hasW (bareT u))).size : Int)) ∧ wtN (bareT u) = 4 * szN (bareT u) ∧ szN (bareT u) ≤ szN (withW u ss) := by
  have c1 := check_with hc hl hs
  have c2 := check_bare hc
  have hb : wireS (bareT u) false = wireS u false := by rw [bare_with]; exact wire_with u []
  have hw := bare_hasW u
  have hle := bare_le (withW u ss) (hasW (withW u ss))
  have e1 : encS (bareT u) (hasW (bareT u)) = wireS u false := by unfold encS; rw [if_pos c2, hw, hb]
  have e2 : wtN (bareT u) = 4 * ((wireS u false).size : Int) := by unfold wtN; rw [if_pos c2, hw, hb]; omega
  have e3 : szN (bareT u) = ((wireS u false).size : Int) := by unfold szN; rw [if_pos c2, e2]; omega
  refine ⟨c1, c2, ?_, ?_, by rw [e1, e3], by rw [e2, e3], ?_⟩
  · unfold idS; rw [if_pos c1, if_pos hc, wire_with]
  · unfold whS idS; rw [if_pos c2, if_pos hc, hw, hb]
  · rw [e3]
    unfold szN wtN
    rw [if_pos c1, if_pos c1]
    rw [wire_with] at hle ⊢
    omega

/-- A transaction with an Out more. -/
def moreO (t : TxD) (s : ByteArray) : TxD := ⟨t.ver, t.ins, t.outs ++ [⟨0, s⟩], t.lock⟩
theorem sum_more (zs : List Int) : ∀ s, goodB s = true → (sumFrom s zs).2 = 0 → (sumFrom s (zs ++ [0])).2 = 0 := by
  induction zs with
  | nil =>
    intro s hs _
    have e : addOk s 0 = true := by unfold addOk; rw [Int.add_zero, hs]; rfl
    simp [sumFrom, e]
  | cons a r ih =>
    intro s hs h
    rw [List.cons_append]
    unfold sumFrom at h ⊢
    by_cases e : addOk s a = true
    · rw [if_pos e] at h ⊢
      refine ih (s + a) ?_ h
      unfold addOk at e
      simp only [Bool.and_eq_true] at e
      exact e.2
    · rw [if_neg e] at h
      simp at h
theorem check_out {t : TxD} {s : ByteArray} (h : checkD t = 0) (ho : t.outs.length ≤ 8) (hs : s.size ≤ 40) : checkD (moreO t s) = 0 := by
  unfold checkD at h ⊢
  split at h
  · omega
  rename_i h1
  split at h
  · omega
  rename_i h2
  split at h
  · omega
  rename_i h3
  split at h
  · omega
  rename_i h4
  have c1 : ¬ countsB (moreO t s) = false := by
    have hc : countsB t = true := by simpa using h1
    unfold countsB at hc
    simp only [Bool.and_eq_true] at hc
    have : countsB (moreO t s) = true := by
      unfold countsB moreO
      rw [hc.1.1, hc.2]
      have e : inR (t.outs ++ [(⟨0, s⟩ : OutD)]).length 1 256 = true := by
        rw [List.length_append]
        simp [inR]
        omega
      rw [e]
      rfl
    rw [this]
    decide
  have c2 : ¬ longB (moreO t s) = true := by
    have hl : longB t = false := by simpa using h2
    unfold longB at hl
    simp only [Bool.or_eq_false_iff] at hl
    have : longB (moreO t s) = false := by
      unfold longB moreO
      rw [List.any_append, hl.1, hl.2]
      have e : decide (40 < s.size) = false := by simp; omega
      simp [e]
    rw [this]
    decide
  have c3 : ¬ pointsB (moreO t s).ins = false := h3
  have c4 : ¬ twiceB (moreO t s).ins = true := h4
  rw [if_neg c1, if_neg c2, if_neg c3, if_neg c4]
  show (sumFrom 0 (vals (t.outs ++ [⟨0, s⟩]))).2 = 0
  have e : vals (t.outs ++ [⟨0, s⟩]) = vals t.outs ++ [0] := by unfold vals; rw [List.map_append]; rfl
  rw [e]
  exact sum_more _ 0 (by decide) h
theorem more_ok {t : TxD} {s : ByteArray} (h : t.Ok) (ho : t.outs.length ≤ 8) (hs : s.size ≤ 40) : (moreO t s).Ok := by
  refine ⟨h.1, by show (t.outs ++ [_]).length ≤ 512; rw [List.length_append]; simp; omega, h.2.2.1, fun x hx => ?_, h.2.2.2.2⟩
  rcases List.mem_append.1 hx with hx | hx
  · exact h.2.2.2.1 x hx
  · rw [List.mem_singleton.1 hx]
    exact ⟨by show (-9223372036854775808 : Int) ≤ 0; decide, by show (0 : Int) ≤ 9223372036854775807; decide, by show s.size ≤ 64; omega⟩
theorem wire_more (t : TxD) (s : ByteArray) (m : Bool) (ho : t.outs.length ≤ 8) (hs : s.size ≤ 40) : (wireS (moreO t s) m).size = (wireS t m).size + (9 + s.size) := by
  have v1 : (Vi.vstr (t.outs.length : Int)).size = 1 := by rw [Vi.vstr_size]; unfold Vi.vlen; rw [if_pos (by omega)]
  have v2 : (Vi.vstr ((t.outs ++ [(⟨0, s⟩ : OutD)]).length : Int)).size = 1 := by rw [Vi.vstr_size]; unfold Vi.vlen; rw [if_pos (by rw [List.length_append]; simp; omega)]
  have v3 : (Vi.vstr (s.size : Int)).size = 1 := by rw [Vi.vstr_size]; unfold Vi.vlen; rw [if_pos (by omega)]
  have v4 : (catL outS (t.outs ++ [(⟨0, s⟩ : OutD)])).size = (catL outS t.outs).size + (9 + s.size) := by
    rw [catL_append, ByteArray.size_append]
    show _ + (outS ⟨0, s⟩ ++ ByteArray.empty).size = _
    rw [ByteArray.size_append]
    unfold outS itemS
    rw [ByteArray.size_append, ByteArray.size_append, v3, Vi.putS_sz8]
    show _ + (8 + (1 + s.size) + 0) = _
    omega
  simp only [wireS, moreO, ByteArray.size_append, v1, v2, v4]
  omega
theorem grow_all {u : TxD} {s : ByteArray} (hc : checkD u = 0) (ho : u.outs.length ≤ 8) (hs : s.size ≤ 40) : checkD (moreO u s) = 0 ∧ wtN (moreO u s) = wtN u + 4 * (9 + (s.size : Int)) := by
  have c := check_out hc ho hs
  refine ⟨c, ?_⟩
  unfold wtN
  rw [if_pos c, if_pos hc, wire_more u s _ ho hs, show hasW (moreO u s) = hasW u from rfl, wire_more u s _ ho hs]
  omega

end Go.Proofs.YtfobdefncbaooaaDoor

namespace Go.Proofs.YtfobdefncbaooaaDoor
open Go.RowKit

theorem run_min_at (c : Nat) (ts : Array TypeId) (t : TypeId) (x : Nat) : ∃ n : Nat, n ≤ c ∧ n ≤ x ∧ (n = x ∨ n = c) ∧ ∀ w, (Builtin.min_ ts t #[.int .i64 (x : Int), .int .i64 (c : Int)]).run Tryd.prog w = .ok (.int .i64 (n : Nat)) w := by
  by_cases h : x < c
  · exact ⟨x, by omega, by omega, .inl rfl, fun w => by rw [run_min_int2 w ts t .i64 .i64 x c, if_neg (by omega)]⟩
  · refine ⟨c, by omega, by omega, .inr rfl, fun w => ?_⟩
    rw [run_min_int2 w ts t .i64 .i64 x c]
    by_cases h2 : x = c
    · subst h2; simp
    · rw [if_pos (by omega)]

/-- A copy's Ins, in a row at g, the Outs behind it at go, the texts behind both. -/
structure CpyS (w w' : World) (t : TxD) (g go c d : Nat) : Prop where
  lg : w.heap.size + 2 ≤ g
  lgo : g < go
  lt : go < w'.heap.size
  blk : ∃ cur, w'.heap[g]? = some (.cells cur 47 (0, 0))
  cap : t.ins.length ≤ c
  ins : ∀ (j : Nat) (x : InD), t.ins[j]? = some x → InAt w' (go + 1) w'.heap.size g (j * 4) x
  own : w'.ownsRow go 50 2 (.slice (some ⟨go, 0, none⟩) t.outs.length d) t.outs.length (cellsAt w' go 0 (t.outs.length * 2))
  outs : ∀ (j : Nat) (x : OutD), t.outs[j]? = some x → OutAt w' go (j * 2) x
  bel : Below w.heap.size w w'
theorem copy_parts {w w' : World} {t : TxD} {A B : Option Addr} {c d : Nat} (h : CopyOut w t A B c d w') (hs : Sized 50 2 w' B t.outs.length d) (h1 : 1 ≤ t.ins.length) (h2 : 1 ≤ t.outs.length) :
    ∃ g go, A = some ⟨g, 0, none⟩ ∧ B = some ⟨go, 0, none⟩ ∧ CpyS w w' t g go c d := by
  obtain ⟨lo3, hi3, ⟨hc, hr⟩, ho, hu, hl, hh, hb⟩ := h
  have ne1 : t.ins ≠ [] := by intro e; rw [e] at h1; simp at h1
  have ne2 : t.outs ≠ [] := by intro e; rw [e] at h2; simp at h2
  rcases hr with h0 | ⟨g, cur, rfl, g1, g2, g3, hg, _, _, hin⟩
  · exact absurd h0 ne1
  rcases hs with h0 | ⟨go, curo, rfl, hgo, hsz, hm⟩
  · omega
  obtain ⟨B', d', hv, hd, hO⟩ := ho
  injection hv with e1 _ e3
  subst e1 e3
  rcases hO with h0 | ⟨b, off, e, o1, o2, hO⟩
  · exact absurd h0 ne2
  injection e with e
  injection e with e1 e2
  subst e1 e2
  have hgl : g < lo3 := hu ne1 _ rfl
  refine ⟨g, go, rfl, rfl, g1, by omega, by omega, ⟨cur, hg⟩, hc, fun j x hx => (hin j x hx).wide (by omega) (Nat.le_refl _), ?_, fun j x hx => by have := hO j x hx; rwa [Nat.zero_add] at this, hb⟩
  refine ⟨by simp [cellsAt], .inr ⟨go, d, curo, rfl, Nat.le_refl _, hgo, hd, hm, hsz, ?_⟩⟩
  apply List.ext_getElem?
  intro j
  rw [List.getElem?_take]
  by_cases hj : j < t.outs.length * 2
  · rw [if_pos hj]
    have hjc : j < curo.size := by rw [hsz]; omega
    have e : w'.cell? ⟨go, j, none⟩ = curo[j]? := by simp [World.cell?, hgo]
    simp [cellsAt, hj, e, hjc]
  · rw [if_neg hj, List.getElem?_eq_none (by simp [cellsAt]; omega)]
theorem CpyS.inst {w w' : World} {t : TxD} {g go c d : Nat} (h : CpyS w w' t g go c d) : Ins w' w.heap.size w'.heap.size (.slice (some ⟨g, 0, none⟩) t.ins.length c) t.ins :=
  ⟨_, c, rfl, h.cap, .inr ⟨g, 0, rfl, by have := h.lg; omega, by have := h.lgo; have := h.lt; omega, fun j x hx => by rw [Nat.zero_add]; exact (h.ins j x hx).wide (by have := h.lg; have := h.lgo; omega) (Nat.le_refl _)⟩⟩

/-- A transaction in its box. -/
structure TxS (g : Nat) (u : TxD) (vi vo : Value) (wx : World) : Prop where
  box : Boxed wx g (.int .u32 u.ver) vi vo (.int .u32 u.lock)
  tx : TxAt wx 0 wx.heap.size vi vo u
  lt : g < wx.heap.size
theorem TxS.below {g : Nat} {u : TxD} {vi vo : Value} {wx wy : World} (h : TxS g u vi vo wx) (hb : Below wx.heap.size wx wy) : TxS g u vi vo wy :=
  ⟨h.box.below h.lt hb, (h.tx.keep (Kept.of_below hb (Nat.le_refl _))).wide (Nat.le_refl _) hb.size, by have := hb.size; have := h.lt; omega⟩
theorem TxS.new {u : TxD} {vi vo : Value} {w : World} (h : TxAt w 0 w.heap.size vi vo u) : TxS w.heap.size u vi vo (w.alloc (.cells #[.int .u32 u.ver, vi, vo, .int .u32 u.lock] 26)) :=
  ⟨Boxed.new _ _ _ _ _ _, (h.keep (Kept.alloc (Nat.le_refl _) _)).wide (Nat.le_refl _) (by simp), by simp⟩

/-- The copy with an Out more. -/
theorem grow_end {w7 w8 w10 : World} {u : TxD} {g go c d : Nat} {s : ByteArray} {v' : Value} (hco : CpyS w7 w8 u g go c d)
    (hgr : ((w8.alloc (.cells #[.int .u32 u.ver, .slice (some ⟨g, 0, none⟩) u.ins.length c, .slice (some ⟨go, 0, none⟩) u.outs.length d, .int .u32 u.lock] 26)).alloc (.cells #[.int .i64 0, .string s] 50)).grownBy w10 (Value.slice (some ⟨go, 0, none⟩) u.outs.length d).ownBlock)
    (hown : w10.ownsRow go 50 2 v' (u.outs.length + 1) (cellsAt w8 go 0 (u.outs.length * 2) ++ [.int .i64 0, .string s])) :
    TxS w8.heap.size (moreO u s) (.slice (some ⟨g, 0, none⟩) u.ins.length c) v' (w10.setCell ⟨w8.heap.size, 2, none⟩ v') ∧ Below w7.heap.size w7 (w10.setCell ⟨w8.heap.size, 2, none⟩ v') := by
  obtain ⟨W9, hW9⟩ : ∃ W9, W9 = (w8.alloc (.cells #[.int .u32 u.ver, .slice (some ⟨g, 0, none⟩) u.ins.length c, .slice (some ⟨go, 0, none⟩) u.outs.length d, .int .u32 u.lock] 26)).alloc (.cells #[.int .i64 0, .string s] 50) := ⟨_, rfl⟩
  rw [← hW9] at hgr
  have z9 : W9.heap.size = w8.heap.size + 2 := by rw [hW9]; simp
  have hb9 : Below w8.heap.size w8 W9 := by rw [hW9]; exact ((Below.refl _ _).alloc (Nat.le_refl _) _).alloc (by simp) _
  have box9 : Boxed W9 w8.heap.size (.int .u32 u.ver) (.slice (some ⟨g, 0, none⟩) u.ins.length c) (.slice (some ⟨go, 0, none⟩) u.outs.length d) (.int .u32 u.lock) := by
    rw [hW9]
    exact (Boxed.new _ _ _ _ _ 26).below (by simp) ((Below.refl _ _).alloc (Nat.le_refl _) _)
  have t9 : ∃ cur, W9.heap[w8.heap.size]? = some (.cells cur 26 (0, 0)) := by
    rw [hW9]
    exact ⟨_, (Below.heap_alloc _ _ _ (by simp)).trans Array.getElem?_push_size⟩
  have z10 := hgr.size
  have lg := hco.lg
  have lgo := hco.lgo
  have lt8 := hco.lt
  have z7 := hco.bel.size
  have far : ∀ b, b < W9.heap.size → b ≠ go → w10.heap[b]? = W9.heap[b]? := fun b h1 h2 => hgr.block b h1 (by simp only [Value.ownBlock]; intro e; injection e with e; exact h2 e)
  have zx : (w10.setCell ⟨w8.heap.size, 2, none⟩ v').heap.size = w10.heap.size := by simp [World.setCell]
  have fb := fun o => (World.cell?_of_block (w := W9) (w' := w10) (a := ⟨w8.heap.size, o, none⟩) (far w8.heap.size (by omega) (by omega)))
  have kp : ∀ lo hi, hi ≤ w8.heap.size → (go < lo ∨ hi ≤ go) → Kept lo hi w8 (w10.setCell ⟨w8.heap.size, 2, none⟩ v') := fun lo hi h1 h2 b a1 a2 =>
    ((Below.heap_setCell _ _ _ _ (by show b ≠ w8.heap.size; omega)).trans (far b (by omega) (by omega))).trans (hb9.block b (by omega))
  have hO : OutsOwn w10 go w10.heap.size v' (u.outs ++ [⟨0, s⟩]) := by
    refine OutsOwn.push (x := ⟨0, s⟩) (by simp [cellsAt]) (fun j x hx => ?_) hown
    have hj := (List.getElem?_eq_some_iff.1 hx).1
    obtain ⟨a0, a1⟩ := hco.outs j x hx
    constructor
    · simp [cellsAt, show j * 2 < u.outs.length * 2 by omega, a0]
    · simp [cellsAt, show j * 2 + 1 < u.outs.length * 2 by omega, a1]
  have hO' : OutsOwn (w10.setCell ⟨w8.heap.size, 2, none⟩ v') go w10.heap.size v' (u.outs ++ [⟨0, s⟩]) := by
    refine hO.keep (fun b cur _ _ hbl => Below.heap_setCell _ _ _ _ ?_) (Nat.le_refl _)
    intro e
    have e' : b = w8.heap.size := e
    obtain ⟨cur2, h26⟩ := t9
    rw [e', far w8.heap.size (by omega) (by omega), h26] at hbl
    injection hbl with hbl
    injection hbl with _ hbl
    cases hbl
  refine ⟨⟨⟨?_, ?_, ?_, ?_⟩, ⟨?_, ?_⟩, by rw [zx]; omega⟩, ?_⟩
  · exact (World.cell?_setCell_other _ _ _ _ (by simp)).trans ((fb 0).trans box9.1)
  · exact (World.cell?_setCell_other _ _ _ _ (by simp)).trans ((fb 1).trans box9.2.1)
  · exact World.cell?_setCell_same _ _ _ ((fb 2).trans box9.2.2.1)
  · exact (World.cell?_setCell_other _ _ _ _ (by simp)).trans ((fb 3).trans box9.2.2.2)
  · refine ⟨_, c, rfl, hco.cap, .inr ⟨g, 0, rfl, Nat.zero_le _, by rw [zx]; omega, fun j x hx => ?_⟩⟩
    rw [Nat.zero_add]
    obtain ⟨c0, c1, c2, v, c3, hst⟩ := hco.ins j x hx
    have cl : ∀ o, (w10.setCell ⟨w8.heap.size, 2, none⟩ v').cell? ⟨g, o, none⟩ = w8.cell? ⟨g, o, none⟩ := fun o => (kp 0 go (by omega) (.inr (Nat.le_refl _))).cell (Nat.zero_le _) lgo
    exact ⟨(cl _).trans c0, (cl _).trans c1, (cl _).trans c2, v, (cl _).trans c3, (hst.keep (kp _ _ (Nat.le_refl _) (.inl (Nat.lt_succ_self _)))).wide (Nat.zero_le _) (by rw [zx]; omega)⟩
  · rw [zx]
    exact hO'.outs.wide (Nat.zero_le _) (Nat.le_refl _)
  · have h9 := below_next hco.bel z7 hb9
    exact (h9.grown hgr (by omega) (fun k hk => by simp only [Value.ownBlock] at hk; injection hk with hk; omega)).setCell (by show w7.heap.size ≤ w8.heap.size; omega) _

end Go.Proofs.YtfobdefncbaooaaDoor
