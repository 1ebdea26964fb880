/-
  A transaction's bytes are read as it; what is read of bytes has these.
-/
import Derived.Test.YtkdkkndccjddnaaPlaw
namespace Go.Proofs.Ytkdkkndccjddnaa
open Go.RowKit

/-- A transaction without its Witnesses. -/
def bareT (t : TxD) : TxD := ⟨t.ver, t.ins.map bareI, t.outs, t.lock⟩
theorem points_bare (xs : List InD) : pointsB (xs.map bareI) = pointsB xs := by
  unfold pointsB
  rw [List.any_map, List.length_map]
  rfl
theorem twice_bare (xs : List InD) : twiceB (xs.map bareI) = twiceB xs := by
  unfold twiceB
  rw [List.any_map]
  congr 1
  funext x
  show moreB (cnt (xs.map bareI) (bareI x)) = moreB (cnt xs x)
  unfold cnt
  rw [List.countP_map]
  rfl
theorem check_bare {t : TxD} (h : checkD t = 0) : checkD (bareT t) = 0 := by
  unfold checkD at h ⊢
  split at h
  · omega
  rename_i h1
  split at h
  · omega
  rename_i h2
  split at h
  · omega
  rename_i h3
  split at h
  · omega
  rename_i h4
  have c1 : ¬ countsB (bareT t) = false := by
    have hc : countsB t = true := by simpa using h1
    unfold countsB at hc
    simp only [Bool.and_eq_true] at hc
    have : countsB (bareT t) = true := by
      unfold countsB bareT
      rw [List.length_map, hc.1.1, hc.1.2, List.any_map]
      show (!(t.ins.any fun x => manyB ([] : List ByteArray).length)) = true
      simp [manyB]
    rw [this]
    decide
  have c2 : ¬ longB (bareT t) = true := by
    have hl : longB t = false := by simpa using h2
    unfold longB at hl
    simp only [Bool.or_eq_false_iff] at hl
    have : longB (bareT t) = false := by
      unfold longB bareT
      rw [hl.1, List.any_map]
      show (false || t.ins.any fun x => ([] : List ByteArray).any fun s => decide (80 < s.size)) = false
      simp
    rw [this]
    decide
  have c3 : ¬ pointsB (bareT t).ins = false := by show ¬ pointsB (t.ins.map bareI) = false; rw [points_bare]; exact h3
  have c4 : ¬ twiceB (bareT t).ins = true := by show ¬ twiceB (t.ins.map bareI) = true; rw [twice_bare]; exact h4
  rw [if_neg c1, if_neg c2, if_neg c3, if_neg c4]
  exact h
theorem comb {n : Nat} {xs : List InD} {f : Nat → InD} {g : Nat → List ByteArray} (h1 : (List.range n).map f = xs.map bareI) (h2 : (List.range n).map g = xs.map (·.wit)) :
    (List.range n).map (fun j => (⟨(f j).id, (f j).ix, (f j).sq, g j⟩ : InD)) = xs := by
  have hl : n = xs.length := by have := congrArg List.length h1; simpa using this
  refine List.ext_getElem? fun j => ?_
  by_cases hj : j < n
  · obtain ⟨x, hx⟩ : ∃ x, xs[j]? = some x := ⟨_, List.getElem?_eq_getElem (by omega)⟩
    have a := congrArg (fun l => l[j]?) h1
    have b := congrArg (fun l => l[j]?) h2
    simp [hj, hx] at a b
    simp [hj, hx, a, b, bareI]
  · rw [List.getElem?_eq_none (by simpa using hj), List.getElem?_eq_none (by omega)]

theorem wire_of (t : TxD) (m : Bool) (hok : t.Ok) (hc : checkD t = 0) (hm : m = true → hasW t = true) :
    t6 (wireS t m) z0 = ⟨(wireS t m).size, 0⟩ ∧ trD (wireS t m) z0 = if m = true then t else bareT t := by
  obtain ⟨n1, n2, o1, o2, hi, ho⟩ := check_parts hc
  obtain ⟨s, hs⟩ : ∃ s, wireS t m = s := ⟨_, rfl⟩
  have L0 : Left s 0 (Vi.nums (wireS t m)) := by rw [hs]; exact Left.all s
  rw [nums_wire] at L0
  rw [hs]
  have hv := hok.2.2.2.2
  have hgi : ∀ x ∈ t.ins, GoodI x := fun x hx => by
    have := hok.2.2.1 x hx
    exact ⟨(hi x hx).1, this.2.1, this.2.2.1, this.2.2.2.1, this.2.2.2.2.1⟩
  obtain ⟨a1, a2, a3⟩ := num_of (k := 4) (lo := 0) (hi := 4294967295) 0 L0 (by decide) hv.1 (by omega) hv.1 hv.2.1
  have e1 : t1 s z0 = ⟨0 + 4, 0⟩ := a1
  have v1 : wdV s z0 = t.ver := a2
  have hmk : ∃ b, tM s z0 = m ∧ t2 s z0 = ⟨b, 0⟩ ∧ Left s b (Vi.vlist t.ins.length ++ (t.ins.flatMap gIn ++ (Vi.vlist t.outs.length ++ (t.outs.flatMap gOu ++ (gWs m t.ins ++ Vi.digs t.lock 4))))) := by
    cases m
    · rw [show gMk false = [] from rfl, List.nil_append] at a3
      obtain ⟨q1, q2⟩ := mk_no (n := t.ins.length) (by omega) (by omega) a3
      exact ⟨_, by show mkV s (t1 s z0) = false; rw [e1]; exact q1, by show mkSt s (t1 s z0) = _; rw [e1]; exact q2, a3⟩
    · obtain ⟨q1, q2, q3⟩ := mk_yes a3
      exact ⟨_, by show mkV s (t1 s z0) = true; rw [e1]; exact q1, by show mkSt s (t1 s z0) = _; rw [e1]; exact q2, q3⟩
  obtain ⟨b2, hM, e2, L2⟩ := hmk
  obtain ⟨b3, e3, nI, vI, L3⟩ := is_of n1 n2 hgi L2
  have t3e : t3 s z0 = ⟨b3, 0⟩ := by show isSt s (t2 s z0) = _; rw [e2]; exact e3
  have hN : tN s z0 = t.ins.length := by show isN s (t2 s z0) = _; rw [e2]; exact nI
  obtain ⟨b4, e4, nO, vO, L4⟩ := os_of o1 o2 ho L3
  have t4e : t4 s z0 = ⟨b4, 0⟩ := by show osSt s (t3 s z0) = _; rw [t3e]; exact e4
  have h5 : ∃ b5, t5 s z0 = ⟨b5, 0⟩ ∧ Left s b5 (Vi.digs t.lock 4) ∧ (m = true → (List.range t.ins.length).map (fun j => wiL s (wsAt s (t4 s z0) j)) = t.ins.map (·.wit)) := by
    cases m
    · exact ⟨b4, by unfold t5; rw [hM, if_neg (by decide), t4e], L4, fun h => by cases h⟩
    · obtain ⟨b5, w1, w2, L5⟩ := ws_of (xs := t.ins) (fun x hx => (hi x hx).2) L4
      have hh := hm rfl
      unfold hasW at hh
      obtain ⟨x, hx, hx0⟩ := List.any_eq_true.1 hh
      obtain ⟨j, hj⟩ := List.getElem?_of_mem hx
      have hjl := (List.getElem?_eq_some_iff.1 hj).1
      have q := congrArg (fun l => l[j]?) w2
      simp [hjl] at q
      have hpos : 0 < wsN s ⟨b4, 0⟩ j := by
        have ql := congrArg List.length q
        unfold wiL at ql
        rw [List.length_map, List.length_range] at ql
        show 0 < wiN s (wsAt s ⟨b4, 0⟩ j)
        rw [ql, (List.getElem?_eq_some_iff.1 hj).2]
        simpa using hx0
      have hT := wsT_pos j hjl hpos
      refine ⟨b5, ?_, L5, fun _ => by rw [t4e]; exact w2⟩
      unfold t5 wsSt
      rw [hM, if_pos rfl, hN, t4e, if_neg (by omega), w1]
  obtain ⟨b5, e5, L5, hW⟩ := h5
  obtain ⟨f1, f2, f3⟩ := num_of (k := 4) (l := []) (lo := 0) (hi := 4294967295) 0 (by rw [List.append_nil]; exact L5) (by decide) hv.2.2.1 (by omega) hv.2.2.1 hv.2.2.2
  have hz := f3.size
  have hz' : b5 + 4 = s.size := hz
  refine ⟨?_, ?_⟩
  · show wdSt s (t5 s z0) = _
    rw [e5, ← hz']
    exact f1
  · have hlk : wdV s (t5 s z0) = t.lock := by rw [e5]; exact f2
    have hou : (List.range (osN s (t3 s z0))).map (osV s (t3 s z0)) = t.outs := by rw [t3e, nO, vO]
    show TxD.mk (wdV s z0) ((List.range (tN s z0)).map (trIn s z0)) ((List.range (osN s (t3 s z0))).map (osV s (t3 s z0))) (wdV s (t5 s z0)) = _
    rw [v1, hlk, hou, hN]
    rw [← e2] at vI
    cases m
    · rw [if_neg (by decide)]
      have : (List.range t.ins.length).map (trIn s z0) = t.ins.map bareI := by
        rw [← vI]
        refine List.map_congr_left fun j _ => ?_
        unfold trIn
        rw [hM]
        rfl
      rw [this]
      rfl
    · rw [if_pos rfl]
      have : (List.range t.ins.length).map (trIn s z0) = t.ins := by
        refine Eq.trans ?_ (comb vI (hW rfl))
        refine List.map_congr_left fun j _ => ?_
        unfold trIn
        rw [hM]
        rfl
      rw [this]

end Go.Proofs.Ytkdkkndccjddnaa
