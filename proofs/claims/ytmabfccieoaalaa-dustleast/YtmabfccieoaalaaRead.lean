/-
  Arguments that are transactions, outputs, points: how they come in.
-/
import Derived.Test.YtmabfccieoaalaaTell
import Derived.ProofKit
import Derived.OpenShut
import Derived.ShutString
import Derived.ChangeOld
import Derived.Lib.SmallJoins
import Derived.Deep.Slices
import Derived.Deep.Strs
namespace Go.Proofs.Ytmabfccieoaalaa
open Go.ChangeShapes Go.WideShapes Go.ChangeAt Go.RowKit Go.Joins Go.Deep

section
variable {H : Type} {enc : TypeId × Value → H} {w : World} {spare : Nat → Bool} {held : Bool}

set_option maxRecDepth 100000 in
theorem cells43 : Try.prog.cellsOf 48 = 4 := by kernel_rfl
set_option maxRecDepth 100000 in
theorem cells52 : Try.prog.cellsOf 29 = 2 := by kernel_rfl
set_option maxRecDepth 100000 in
theorem cells41 : Try.prog.cellsOf 46 = 1 := by kernel_rfl
set_option maxRecDepth 100000 in
theorem cells3 : Try.prog.cellsOf 3 = 1 := by kernel_rfl
set_option maxRecDepth 100000 in
theorem cells26 : Try.prog.cellsOf 26 = 4 := by kernel_rfl

set_option maxRecDepth 100000 in
theorem add_zero_ (a : Addr) : a.add 0 = a := by simp [Addr.add]
set_option maxRecDepth 100000 in
theorem addr_none {a : Addr} {v : Value} (h : w.cell? (a.add 0) = some v) : ∃ b off, a = ⟨b, off, none⟩ ∧ b < w.heap.size := by
  rw [add_zero_] at h
  obtain ⟨b, off, spot⟩ := a
  have hs : spot = none := World.cell?_spot h
  subst hs
  exact ⟨b, off, rfl, World.block_lt_of_cell? w _ h⟩

set_option maxRecDepth 100000 in
theorem read_strs {fuel : Nat} {v : Value} {x : DataW H × List MemPlace} (h : DataW.trod enc Try.prog w 0 spare held fuel 46 [v] = some x) : ∃ ss, Strs w 0 w.heap.size v ss ∧ ss.length ≤ maxLen := by
  rcases open_slice1 Try.underlying46 cells9 h with ⟨hc, _⟩ | ⟨a, len, cap, m, n, V, D, Pl, hc, _, hl, hm, hmm, _, hx⟩
  · simp at hc
    subst hc
    exact ⟨[], Strs.nil _ _ _, by simp⟩
  · simp at hc
    subst hc
    have hml : len ≤ m := by rw [hmm]; split <;> omega
    have hstr : ∀ i, i < len → ∃ s : ByteArray, w.cell? (a.add i) = some (.string s) := fun i hi => by
      obtain ⟨h1, h2⟩ := hx i (by omega)
      obtain ⟨s, hs, _⟩ := DataW.trod_string Try.underlying9 h2
      simp at hs
      rw [hs] at h1
      exact ⟨s, h1⟩
    have : Inhabited ByteArray := ⟨ByteArray.empty⟩
    obtain ⟨F, hF⟩ := choose_lt (α := ByteArray) hstr
    refine ⟨(List.range len).map F, ?_, by simp; omega⟩
    refine ⟨some a, cap, by simp, by simpa using hl, ?_⟩
    by_cases h0 : len = 0
    · subst h0; exact .inl (by simp)
    · obtain ⟨b, off, rfl, hb⟩ := addr_none (hF 0 (by omega))
      refine .inr ⟨b, off, rfl, Nat.zero_le _, hb, fun k s hk => ?_⟩
      have hkl : k < len := by have := (List.getElem?_eq_some_iff.1 hk).1; simpa using this
      simp [hkl] at hk
      subst hk
      have := hF k hkl
      rwa [Addr.add_lit] at this

set_option maxRecDepth 100000 in
theorem read_in {fuel : Nat} {cs : List Value} {x : DataW H × List MemPlace} (h : DataW.trod enc Try.prog w 0 spare held fuel 48 cs = some x) :
    ∃ (y : InD) (v : Value), cs = [.string y.id, .int .u32 y.ix, .int .u32 y.sq, v] ∧ Strs w 0 w.heap.size v y.wit ∧ y.wit.length ≤ maxLen ∧ 0 ≤ y.ix ∧ y.ix ≤ 4294967295 ∧ 0 ≤ y.sq ∧ y.sq ≤ 4294967295 := by
  obtain ⟨xs, n, _, _, hlen, _, hf⟩ := DataW.trod_struct Try.underlying48 h
  rw [cells43] at hlen
  match cs, hlen with
  | [c0, c1, c2, c3], _ =>
    have f0 : DataW.trod enc Try.prog w 0 spare held n 45 (([c0, c1, c2, c3].drop 0).take (Try.prog.cellsOf 45)) = xs[0]? := hf 0 _ rfl
    have f1 : DataW.trod enc Try.prog w 0 spare held n 22 (([c0, c1, c2, c3].drop 2).take (Try.prog.cellsOf 22)) = xs[1]? := hf 1 _ rfl
    have f2 : DataW.trod enc Try.prog w 0 spare held n 46 (([c0, c1, c2, c3].drop 3).take (Try.prog.cellsOf 46)) = xs[2]? := hf 2 _ rfl
    rw [cells40] at f0
    rw [cells22] at f1
    rw [cells41] at f2
    have hx : ∀ i, i < 3 → ∃ z, xs[i]? = some z := fun i hi => by
      have : xs.length = 3 := by assumption
      exact ⟨_, List.getElem?_eq_getElem (by omega)⟩
    obtain ⟨z0, e0⟩ := hx 0 (by omega)
    obtain ⟨z1, e1⟩ := hx 1 (by omega)
    obtain ⟨z2, e2⟩ := hx 2 (by omega)
    rw [e0] at f0
    rw [e1] at f1
    rw [e2] at f2
    obtain ⟨ys, n', _, _, _, hyl, hg⟩ := DataW.trod_struct Try.underlying45 f0
    have g0 : DataW.trod enc Try.prog w 0 spare held n' 9 (((([c0, c1, c2, c3].drop 0).take 2).drop 0).take (Try.prog.cellsOf 9)) = ys[0]? := hg 0 _ rfl
    have g1 : DataW.trod enc Try.prog w 0 spare held n' 22 (((([c0, c1, c2, c3].drop 0).take 2).drop 1).take (Try.prog.cellsOf 22)) = ys[1]? := hg 1 _ rfl
    rw [cells9] at g0
    rw [cells22] at g1
    have hyl2 : ys.length = 2 := hyl
    obtain ⟨y0, d0⟩ : ∃ z, ys[0]? = some z := ⟨_, List.getElem?_eq_getElem (by omega)⟩
    obtain ⟨y1, d1⟩ : ∃ z, ys[1]? = some z := ⟨_, List.getElem?_eq_getElem (by omega)⟩
    rw [d0] at g0
    rw [d1] at g1
    obtain ⟨s, hs, _, _⟩ := DataW.trod_string Try.underlying9 g0
    obtain ⟨i, hi, _, wi⟩ := DataW.trod_int Try.underlying22 g1
    obtain ⟨q, hq, _, wq⟩ := DataW.trod_int Try.underlying22 f1
    obtain ⟨ss, hss, hsl⟩ := read_strs f2
    simp at hs hi hq
    subst hs hi hq
    have bi := Go.bounds_u32 wi
    have bq := Go.bounds_u32 wq
    exact ⟨⟨s, i, q, ss⟩, c3, rfl, hss, hsl, (by omega : (0 : Int) ≤ i), (by omega : i ≤ 4294967295), (by omega : (0 : Int) ≤ q), (by omega : q ≤ 4294967295)⟩

set_option maxRecDepth 100000 in
theorem read_ins {fuel : Nat} {v : Value} {x : DataW H × List MemPlace} (h : DataW.trod enc Try.prog w 0 spare held fuel 23 [v] = some x) :
    ∃ ys, Ins w 0 w.heap.size v ys ∧ ys.length ≤ maxLen ∧ ∀ y ∈ ys, y.wit.length ≤ maxLen ∧ 0 ≤ y.ix ∧ y.ix ≤ 4294967295 ∧ 0 ≤ y.sq ∧ y.sq ≤ 4294967295 := by
  rcases open_slice Try.underlying23 h with ⟨hc, _⟩ | ⟨a, len, cap, m, n, D, Pl, hc, _, hl, hm, hmm, _, hx⟩
  · simp at hc
    subst hc
    exact ⟨[], Ins.nil _ _ _, by simp, by simp⟩
  · simp at hc
    subst hc
    have hml : len ≤ m := by rw [hmm]; split <;> omega
    have hin : ∀ i, i < len → ∃ y : InD, (∃ u, w.cell? (a.add (i * 4)) = some (.string y.id) ∧ w.cell? ((a.add (i * 4)).add 1) = some (.int .u32 y.ix) ∧ w.cell? ((a.add (i * 4)).add 2) = some (.int .u32 y.sq) ∧ w.cell? ((a.add (i * 4)).add 3) = some u ∧ Strs w 0 w.heap.size u y.wit) ∧
        y.wit.length ≤ maxLen ∧ 0 ≤ y.ix ∧ y.ix ≤ 4294967295 ∧ 0 ≤ y.sq ∧ y.sq ≤ 4294967295 := fun i hi => by
      obtain ⟨cs, h1, h2⟩ := hx i (by omega)
      rw [cells43] at h1
      obtain ⟨y, u, rfl, hs, r⟩ := read_in h2
      obtain ⟨_, _, hc⟩ := World.cells?_some h1
      have q0 := hc 0 (by omega)
      rw [add_zero_] at q0
      exact ⟨y, ⟨u, q0, hc 1 (by omega), hc 2 (by omega), hc 3 (by omega), hs⟩, r⟩
    have : Inhabited InD := ⟨⟨ByteArray.empty, 0, 0, []⟩⟩
    obtain ⟨F, hF⟩ := choose_lt (α := InD) hin
    refine ⟨(List.range len).map F, ?_, by simp; omega, ?_⟩
    · refine ⟨some a, cap, by simp, by simpa using hl, ?_⟩
      by_cases h0 : len = 0
      · subst h0; exact .inl (by simp)
      · obtain ⟨⟨_, q0, _⟩, _⟩ := hF 0 (by omega)
        rw [Nat.zero_mul] at q0
        obtain ⟨b, off, rfl, hb⟩ := addr_none q0
        refine .inr ⟨b, off, rfl, Nat.zero_le _, hb, fun k s hk => ?_⟩
        have hkl : k < len := by have := (List.getElem?_eq_some_iff.1 hk).1; simpa using this
        simp [hkl] at hk
        subst hk
        obtain ⟨⟨u, p0, p1, p2, p3, hs⟩, _⟩ := hF k hkl
        rw [Addr.add_lit] at p0 p1 p2 p3
        rw [Addr.add_lit] at p1 p2 p3
        exact ⟨p0, p1, p2, u, p3, hs⟩
    · intro y hy
      obtain ⟨i, hi, rfl⟩ := List.mem_map.1 hy
      exact (hF i (List.mem_range.1 hi)).2

set_option maxRecDepth 100000 in
theorem read_outs {fuel : Nat} {v : Value} {x : DataW H × List MemPlace} (h : DataW.trod enc Try.prog w 0 spare held fuel 24 [v] = some x) :
    ∃ ys, Outs w 0 w.heap.size v ys ∧ ys.length ≤ maxLen ∧ ∀ y ∈ ys, -9223372036854775808 ≤ y.val ∧ y.val ≤ 9223372036854775807 := by
  rcases open_slice Try.underlying24 h with ⟨hc, _⟩ | ⟨a, len, cap, m, n, D, Pl, hc, _, hl, hm, hmm, _, hx⟩
  · simp at hc
    subst hc
    exact ⟨[], Outs.nil _ _ _, by simp, by simp⟩
  · simp at hc
    subst hc
    have hml : len ≤ m := by rw [hmm]; split <;> omega
    have hin : ∀ i, i < len → ∃ y : OutD, (w.cell? (a.add (i * 2)) = some (.int .i64 y.val) ∧ w.cell? ((a.add (i * 2)).add 1) = some (.string y.scr)) ∧ -9223372036854775808 ≤ y.val ∧ y.val ≤ 9223372036854775807 := fun i hi => by
      obtain ⟨cs, h1, h2⟩ := hx i (by omega)
      rw [cells52] at h1
      obtain ⟨_, hlen, hc⟩ := World.cells?_some h1
      obtain ⟨xs, n', _, _, _, hxl, hf⟩ := DataW.trod_struct Try.underlying29 h2
      match cs, hlen with
      | [c0, c1], _ =>
        have f0 : DataW.trod enc Try.prog w 0 spare held n' 3 (([c0, c1].drop 0).take (Try.prog.cellsOf 3)) = xs[0]? := hf 0 _ rfl
        have f1 : DataW.trod enc Try.prog w 0 spare held n' 9 (([c0, c1].drop 1).take (Try.prog.cellsOf 9)) = xs[1]? := hf 1 _ rfl
        rw [cells3] at f0
        rw [cells9] at f1
        have hxl2 : xs.length = 2 := hxl
        obtain ⟨z0, e0⟩ : ∃ z, xs[0]? = some z := ⟨_, List.getElem?_eq_getElem (by omega)⟩
        obtain ⟨z1, e1⟩ : ∃ z, xs[1]? = some z := ⟨_, List.getElem?_eq_getElem (by omega)⟩
        rw [e0] at f0
        rw [e1] at f1
        obtain ⟨q, hq, _, wq⟩ := DataW.trod_int Try.underlying3 f0
        obtain ⟨s, hs, _, _⟩ := DataW.trod_string Try.underlying9 f1
        simp at hs hq
        subst hs hq
        have bq := Go.bounds_i64 wq
        have q0 := hc 0 (by omega)
        rw [add_zero_] at q0
        exact ⟨⟨q, s⟩, ⟨q0, hc 1 (by omega)⟩, (by omega : (-9223372036854775808 : Int) ≤ q), (by omega : q ≤ 9223372036854775807)⟩
    have : Inhabited OutD := ⟨⟨0, ByteArray.empty⟩⟩
    obtain ⟨F, hF⟩ := choose_lt (α := OutD) hin
    refine ⟨(List.range len).map F, ?_, by simp; omega, ?_⟩
    · refine ⟨some a, cap, by simp, by simpa using hl, ?_⟩
      by_cases h0 : len = 0
      · subst h0; exact .inl (by simp)
      · obtain ⟨⟨q0, _⟩, _⟩ := hF 0 (by omega)
        rw [Nat.zero_mul] at q0
        obtain ⟨b, off, rfl, hb⟩ := addr_none q0
        refine .inr ⟨b, off, rfl, Nat.zero_le _, hb, fun k s hk => ?_⟩
        have hkl : k < len := by have := (List.getElem?_eq_some_iff.1 hk).1; simpa using this
        simp [hkl] at hk
        subst hk
        obtain ⟨⟨p0, p1⟩, _⟩ := hF k hkl
        rw [Addr.add_lit] at p0 p1
        rw [Addr.add_lit] at p1
        exact ⟨p0, p1⟩
    · intro y hy
      obtain ⟨i, hi, rfl⟩ := List.mem_map.1 hy
      exact (hF i (List.mem_range.1 hi)).2

/-- What is known of a transaction that comes in. -/
def TxD.Came (t : TxD) : Prop := t.ins.length ≤ maxLen ∧ t.outs.length ≤ maxLen ∧ (∀ y ∈ t.ins, y.wit.length ≤ maxLen ∧ 0 ≤ y.ix ∧ y.ix ≤ 4294967295 ∧ 0 ≤ y.sq ∧ y.sq ≤ 4294967295) ∧ (∀ y ∈ t.outs, -9223372036854775808 ≤ y.val ∧ y.val ≤ 9223372036854775807) ∧
  0 ≤ t.ver ∧ t.ver ≤ 4294967295 ∧ 0 ≤ t.lock ∧ t.lock ≤ 4294967295

set_option maxRecDepth 100000 in
theorem read_tx {r : Reach} {b0 : Nat} {v : Value} {d : DataW H} {p : List MemPlace} (hv : Value.okWide Try.prog w r b0 26 v) (h : DataW.Trod enc Try.prog w 0 spare held 26 v d p) :
    ∃ (t : TxD) (vi vo : Value), v = .agg #[.int .u32 t.ver, vi, vo, .int .u32 t.lock] ∧ TxAt w 0 w.heap.size vi vo t ∧ t.Came := by
  obtain ⟨c0, c1, c2, c3, y0, y1, y2, y3, m, rfl, rfl, rfl, hy0, hy1, hy2, hy3⟩ := open_agg4 Try.underlying26 (by kernel_rfl) cells26 hv h
  obtain ⟨a0, e0, _, wa0⟩ := DataW.trod_int Try.underlying22 hy0
  obtain ⟨a3, e3, _, wa3⟩ := DataW.trod_int Try.underlying22 hy3
  obtain ⟨ti, hti, l1, l2⟩ := read_ins hy1
  obtain ⟨tz, htz, l3, l4⟩ := read_outs hy2
  simp at e0 e3
  subst e0 e3
  have b0 := Go.bounds_u32 wa0
  have b3 := Go.bounds_u32 wa3
  exact ⟨⟨a0, ti, tz, a3⟩, c1, c2, rfl, ⟨hti, htz⟩, l1, l3, l2, l4, (by omega : (0 : Int) ≤ a0), (by omega : a0 ≤ 4294967295), (by omega : (0 : Int) ≤ a3), (by omega : a3 ≤ 4294967295)⟩

set_option maxRecDepth 100000 in
theorem read_pt {r : Reach} {b0 : Nat} {v : Value} {d : DataW H} {p : List MemPlace} (hv : Value.okWide Try.prog w r b0 45 v) (h : DataW.Trod enc Try.prog w 0 spare held 45 v d p) : ∃ (a : ByteArray) (i : Int), v = .agg #[.string a, .int .u32 i] := by
  obtain ⟨c0, c1, y0, y1, m, rfl, rfl, rfl, hy0, hy1⟩ := open_agg2 Try.underlying45 (by kernel_rfl) cells40 hv h
  obtain ⟨a, e0, _, _⟩ := DataW.trod_string Try.underlying9 hy0
  obtain ⟨i, e1, _, _⟩ := DataW.trod_int Try.underlying22 hy1
  simp at e0 e1
  subst e0 e1
  exact ⟨a, i, rfl⟩

end

end Go.Proofs.Ytmabfccieoaalaa
