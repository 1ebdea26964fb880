/-
  Arguments that are acts: how they come in.
-/
import Derived.Test.YtdchbeomlfancaaAct
import Derived.ProofKit
import Derived.OpenShut
import Derived.ShutString
import Derived.ChangeOld
import Derived.Lib.SmallJoins
import Derived.Deep.Slices
import Derived.Deep.Strs
namespace Go.Proofs.Ytdchbeomlfancaa
open Go.ChangeShapes Go.WideShapes Go.ChangeAt Go.RowKit Go.Joins Go.Deep

section
variable {H : Type} {enc : TypeId × Value → H} {w : World} {spare : Nat → Bool} {held : Bool}

theorem cells30 : Try.prog.cellsOf 30 = 9 := by kernel_rfl
theorem cells5 : Try.prog.cellsOf 5 = 1 := by kernel_rfl
theorem cells3 : Try.prog.cellsOf 3 = 1 := by kernel_rfl
theorem cells4 : Try.prog.cellsOf 4 = 1 := by kernel_rfl

theorem add_zero_ (a : Addr) : a.add 0 = a := by simp [Addr.add]
theorem addr_none {a : Addr} {v : Value} (h : w.cell? (a.add 0) = some v) : ∃ b off, a = ⟨b, off, none⟩ ∧ b < w.heap.size := by
  rw [add_zero_] at h
  obtain ⟨b, off, spot⟩ := a
  have hs : spot = none := World.cell?_spot h
  subst hs
  exact ⟨b, off, rfl, World.block_lt_of_cell? w _ h⟩

theorem read_cells {fuel : Nat} {cs : List Value} {x : DataW H × List MemPlace} (h : DataW.trod enc Try.prog w 0 spare held fuel 30 cs = some x) : ∃ y : AcD, cs = (acL y).toList ∧ y.Ok := by
  obtain ⟨xs, n, _, _, hlen, hxl, hf⟩ := DataW.trod_struct Try.underlying30 h
  rw [cells30] at hlen
  match cs, hlen with
  | [c0, c1, c2, c3, c4, c5, c6, c7, c8], _ =>
    have f0 : DataW.trod enc Try.prog w 0 spare held n 5 (([c0, c1, c2, c3, c4, c5, c6, c7, c8].drop 0).take (Try.prog.cellsOf 5)) = xs[0]? := hf 0 _ rfl
    have f1 : DataW.trod enc Try.prog w 0 spare held n 5 (([c0, c1, c2, c3, c4, c5, c6, c7, c8].drop 1).take (Try.prog.cellsOf 5)) = xs[1]? := hf 1 _ rfl
    have f2 : DataW.trod enc Try.prog w 0 spare held n 5 (([c0, c1, c2, c3, c4, c5, c6, c7, c8].drop 2).take (Try.prog.cellsOf 5)) = xs[2]? := hf 2 _ rfl
    have f3 : DataW.trod enc Try.prog w 0 spare held n 3 (([c0, c1, c2, c3, c4, c5, c6, c7, c8].drop 3).take (Try.prog.cellsOf 3)) = xs[3]? := hf 3 _ rfl
    have f4 : DataW.trod enc Try.prog w 0 spare held n 3 (([c0, c1, c2, c3, c4, c5, c6, c7, c8].drop 4).take (Try.prog.cellsOf 3)) = xs[4]? := hf 4 _ rfl
    have f5 : DataW.trod enc Try.prog w 0 spare held n 9 (([c0, c1, c2, c3, c4, c5, c6, c7, c8].drop 5).take (Try.prog.cellsOf 9)) = xs[5]? := hf 5 _ rfl
    have f6 : DataW.trod enc Try.prog w 0 spare held n 28 (([c0, c1, c2, c3, c4, c5, c6, c7, c8].drop 6).take (Try.prog.cellsOf 28)) = xs[6]? := hf 6 _ rfl
    have f7 : DataW.trod enc Try.prog w 0 spare held n 4 (([c0, c1, c2, c3, c4, c5, c6, c7, c8].drop 8).take (Try.prog.cellsOf 4)) = xs[7]? := hf 7 _ rfl
    rw [cells5] at f0 f1 f2
    rw [cells3] at f3 f4
    rw [cells9] at f5
    rw [cells28] at f6
    rw [cells4] at f7
    have hxl2 : xs.length = 8 := hxl
    obtain ⟨z0, e0⟩ : ∃ z, xs[0]? = some z := ⟨_, List.getElem?_eq_getElem (by omega)⟩
    obtain ⟨z1, e1⟩ : ∃ z, xs[1]? = some z := ⟨_, List.getElem?_eq_getElem (by omega)⟩
    obtain ⟨z2, e2⟩ : ∃ z, xs[2]? = some z := ⟨_, List.getElem?_eq_getElem (by omega)⟩
    obtain ⟨z3, e3⟩ : ∃ z, xs[3]? = some z := ⟨_, List.getElem?_eq_getElem (by omega)⟩
    obtain ⟨z4, e4⟩ : ∃ z, xs[4]? = some z := ⟨_, List.getElem?_eq_getElem (by omega)⟩
    obtain ⟨z5, e5⟩ : ∃ z, xs[5]? = some z := ⟨_, List.getElem?_eq_getElem (by omega)⟩
    obtain ⟨z6, e6⟩ : ∃ z, xs[6]? = some z := ⟨_, List.getElem?_eq_getElem (by omega)⟩
    obtain ⟨z7, e7⟩ : ∃ z, xs[7]? = some z := ⟨_, List.getElem?_eq_getElem (by omega)⟩
    rw [e0] at f0
    rw [e1] at f1
    rw [e2] at f2
    rw [e3] at f3
    rw [e4] at f4
    rw [e5] at f5
    rw [e6] at f6
    rw [e7] at f7
    obtain ⟨a0, h0, _, w0⟩ := DataW.trod_int Try.underlying5 f0
    obtain ⟨a1, h1, _, w1⟩ := DataW.trod_int Try.underlying5 f1
    obtain ⟨a2, h2, _, w2⟩ := DataW.trod_int Try.underlying5 f2
    obtain ⟨a3, h3, _, w3⟩ := DataW.trod_int Try.underlying3 f3
    obtain ⟨a4, h4, _, w4⟩ := DataW.trod_int Try.underlying3 f4
    obtain ⟨a5, h5, _, w5⟩ := DataW.trod_string Try.underlying9 f5
    obtain ⟨a8, h8, _⟩ := DataW.trod_bool Try.underlying4 f7
    obtain ⟨ys, n', _, _, _, hyl, hg⟩ := DataW.trod_struct Try.underlying28 f6
    have g0 : DataW.trod enc Try.prog w 0 spare held n' 9 (((([c0, c1, c2, c3, c4, c5, c6, c7, c8].drop 6).take 2).drop 0).take (Try.prog.cellsOf 9)) = ys[0]? := hg 0 _ rfl
    have g1 : DataW.trod enc Try.prog w 0 spare held n' 26 (((([c0, c1, c2, c3, c4, c5, c6, c7, c8].drop 6).take 2).drop 1).take (Try.prog.cellsOf 26)) = ys[1]? := hg 1 _ rfl
    rw [cells9] at g0
    rw [cells26] at g1
    have hyl2 : ys.length = 2 := hyl
    obtain ⟨y0, d0⟩ : ∃ z, ys[0]? = some z := ⟨_, List.getElem?_eq_getElem (by omega)⟩
    obtain ⟨y1, d1⟩ : ∃ z, ys[1]? = some z := ⟨_, List.getElem?_eq_getElem (by omega)⟩
    rw [d0] at g0
    rw [d1] at g1
    obtain ⟨a6, h6, _, w6⟩ := DataW.trod_string Try.underlying9 g0
    obtain ⟨a7, h7, _, w7⟩ := DataW.trod_int Try.underlying26 g1
    simp at h0 h1 h2 h3 h4 h5 h6 h7 h8
    subst h0 h1 h2 h3 h4 h5 h6 h7 h8
    have b0 := Go.bounds_u8 w0
    have b1 := Go.bounds_u8 w1
    have b2 := Go.bounds_u8 w2
    have b3 := Go.bounds_i64 w3
    have b4 := Go.bounds_i64 w4
    have b7 := Go.bounds_u32 w7
    exact ⟨⟨a0, a1, a2, a3, a4, a5, a6, a7, a8⟩, rfl, (by omega : (0 : Int) ≤ a0), (by omega : a0 ≤ 255), (by omega : (0 : Int) ≤ a1), (by omega : a1 ≤ 255), (by omega : (0 : Int) ≤ a2), (by omega : a2 ≤ 255),
      (by omega : (-9223372036854775808 : Int) ≤ a3), (by omega : a3 ≤ 9223372036854775807), (by omega : (-9223372036854775808 : Int) ≤ a4), (by omega : a4 ≤ 9223372036854775807), w5, w6, (by omega : (0 : Int) ≤ a7), (by omega : a7 ≤ 4294967295)⟩

theorem read_act {r : Reach} {b0 : Nat} {v : Value} {d : DataW H} {p : List MemPlace} (hv : Value.okWide Try.prog w r b0 30 v) (h : DataW.Trod enc Try.prog w 0 spare held 30 v d p) : ∃ y : AcD, v = .agg (acL y) ∧ y.Ok := by
  obtain ⟨cs, rfl, hsz⟩ := okWide_struct Try.underlying30 hv
  obtain ⟨fuel, hf⟩ := h
  obtain ⟨y, hy, ho⟩ := read_cells (cs := cs.toList) (by simpa [Value.cells] using hf)
  exact ⟨y, by rw [show cs = acL y from Array.ext' hy], ho⟩

theorem read_acts {fuel : Nat} {v : Value} {x : DataW H × List MemPlace} (h : DataW.trod enc Try.prog w 0 spare held fuel 22 [v] = some x) :
    ∃ ys, Acts w 0 w.heap.size v ys ∧ ys.length ≤ maxLen ∧ ∀ y ∈ ys, y.Ok := by
  rcases open_slice Try.underlying22 h with ⟨hc, _⟩ | ⟨a, len, cap, m, n, D, Pl, hc, _, hl, hm, hmm, _, hx⟩
  · simp at hc
    subst hc
    exact ⟨[], ⟨none, 0, rfl, Nat.le_refl _, .inl rfl⟩, by simp, by simp⟩
  · simp at hc
    subst hc
    have hml : len ≤ m := by rw [hmm]; split <;> omega
    have hin : ∀ i, i < len → ∃ y : AcD, (∀ j, j < 9 → w.cell? ((a.add (i * 9)).add j) = (acL y)[j]?) ∧ y.Ok := fun i hi => by
      obtain ⟨cs, h1, h2⟩ := hx i (by omega)
      rw [cells30] at h1
      obtain ⟨_, hlen, hc⟩ := World.cells?_some h1
      obtain ⟨y, hy, ho⟩ := read_cells h2
      refine ⟨y, fun j hj => ?_, ho⟩
      have q := hc j (by omega)
      rw [q, ← Array.getElem?_toList, ← hy]
    have : Inhabited AcD := ⟨⟨0, 0, 0, 0, 0, ByteArray.empty, ByteArray.empty, 0, false⟩⟩
    obtain ⟨F, hF⟩ := choose_lt (α := AcD) hin
    refine ⟨(List.range len).map F, ?_, by simp; omega, ?_⟩
    · refine ⟨some a, cap, by simp, by simpa using hl, ?_⟩
      by_cases h0 : len = 0
      · subst h0; exact .inl (by simp)
      · have q0 := (hF 0 (by omega)).1 0 (by omega)
        rw [Nat.zero_mul, add_zero_, ← add_zero_ a] at q0
        obtain ⟨b, off, rfl, hb⟩ := addr_none (v := .int .u8 (F 0).dd) q0
        refine .inr ⟨b, off, rfl, Nat.zero_le _, hb, fun k s hk => ?_⟩
        have hkl : k < len := by have := (List.getElem?_eq_some_iff.1 hk).1; simpa using this
        simp [hkl] at hk
        subst hk
        have p := (hF k hkl).1
        have e : ∀ j, j < 9 → w.cell? ⟨b, off + k * 9 + j, none⟩ = (acL (F k))[j]? := fun j hj => by
          have := p j hj
          rw [Addr.add_lit, Addr.add_lit] at this
          exact this
        exact ⟨e 0 (by omega), e 1 (by omega), e 2 (by omega), e 3 (by omega), e 4 (by omega), e 5 (by omega), e 6 (by omega), e 7 (by omega), e 8 (by omega)⟩
    · intro y hy
      obtain ⟨i, hi, rfl⟩ := List.mem_map.1 hy
      exact (hF i (List.mem_range.1 hi)).2

end

end Go.Proofs.Ytdchbeomlfancaa
