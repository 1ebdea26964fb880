/-
  Arguments that are lists of texts, with the texts' lengths; a branch by itself.
-/
import Derived.Test.YtdldhfhhhjenkaaRead
namespace Go.Proofs.Ytdldhfhhhjenkaa
open Go.ChangeShapes Go.WideShapes Go.ChangeAt Go.RowKit Go.Joins Go.Deep

section
variable {H : Type} {enc : TypeId × Value → H} {w : World} {spare : Nat → Bool} {held : Bool}

theorem read_texts {fuel : Nat} {v : Value} {x : DataW H × List MemPlace} (h : DataW.trod enc Try.prog w 0 spare held fuel 38 [v] = some x) : ∃ ss, Strs w 0 w.heap.size v ss ∧ ss.length ≤ maxLen ∧ ∀ s ∈ ss, s.size ≤ maxLen := by
  rcases open_slice1 Try.underlying38 cells9 h with ⟨hc, _⟩ | ⟨a, len, cap, m, n, V, D, Pl, hc, _, hl, hm, hmm, _, hx⟩
  · simp at hc
    subst hc
    exact ⟨[], Strs.nil _ _ _, by simp, by simp⟩
  · simp at hc
    subst hc
    have hml : len ≤ m := by rw [hmm]; split <;> omega
    have hstr : ∀ i, i < len → ∃ s : ByteArray, w.cell? (a.add i) = some (.string s) ∧ s.size ≤ maxLen := fun i hi => by
      obtain ⟨h1, h2⟩ := hx i (by omega)
      obtain ⟨s, hs, _, hz⟩ := DataW.trod_string Try.underlying9 h2
      simp at hs
      rw [hs] at h1
      exact ⟨s, h1, hz⟩
    have : Inhabited ByteArray := ⟨ByteArray.empty⟩
    obtain ⟨F, hF⟩ := choose_lt (α := ByteArray) hstr
    refine ⟨(List.range len).map F, ?_, by simp; omega, ?_⟩
    · refine ⟨some a, cap, by simp, by simpa using hl, ?_⟩
      by_cases h0 : len = 0
      · subst h0; exact .inl (by simp)
      · obtain ⟨b, off, rfl, hb⟩ := addr_none (hF 0 (by omega)).1
        refine .inr ⟨b, off, rfl, Nat.zero_le _, hb, fun k s hk => ?_⟩
        have hkl : k < len := by have := (List.getElem?_eq_some_iff.1 hk).1; simpa using this
        simp [hkl] at hk
        subst hk
        have := (hF k hkl).1
        rwa [Addr.add_lit] at this
    · intro s hs
      obtain ⟨i, hi, rfl⟩ := List.mem_map.1 hs
      exact (hF i (List.mem_range.1 hi)).2
/-- A branch's three cells. -/
theorem read_br3 {fuel : Nat} {cs : List Value} {x : DataW H × List MemPlace} (h : DataW.trod enc Try.prog w 0 spare held fuel 34 cs = some x) : ∃ y : BrD, cs = [.int .u16 y.tag, .int .u16 y.del, .int .u32 y.hgt] ∧ y.Ok := by
  obtain ⟨xs, n', _, _, hlen, hxl, hf⟩ := DataW.trod_struct Try.underlying34 h
  rw [cells34] at hlen
  match cs, hlen with
  | [c0, c1, c2], _ =>
    have f0 : DataW.trod enc Try.prog w 0 spare held n' 31 (([c0, c1, c2].drop 0).take (Try.prog.cellsOf 31)) = xs[0]? := hf 0 _ rfl
    have f1 : DataW.trod enc Try.prog w 0 spare held n' 31 (([c0, c1, c2].drop 1).take (Try.prog.cellsOf 31)) = xs[1]? := hf 1 _ rfl
    have f2 : DataW.trod enc Try.prog w 0 spare held n' 32 (([c0, c1, c2].drop 2).take (Try.prog.cellsOf 32)) = xs[2]? := hf 2 _ rfl
    rw [cells31] at f0 f1
    rw [cells32] at f2
    have hxl2 : xs.length = 3 := hxl
    obtain ⟨z0, e0⟩ : ∃ z, xs[0]? = some z := ⟨_, List.getElem?_eq_getElem (by omega)⟩
    obtain ⟨z1, e1⟩ : ∃ z, xs[1]? = some z := ⟨_, List.getElem?_eq_getElem (by omega)⟩
    obtain ⟨z2, e2⟩ : ∃ z, xs[2]? = some z := ⟨_, List.getElem?_eq_getElem (by omega)⟩
    rw [e0] at f0
    rw [e1] at f1
    rw [e2] at f2
    obtain ⟨q, hq, _, wq⟩ := DataW.trod_int Try.underlying31 f0
    obtain ⟨r, hr, _, wr⟩ := DataW.trod_int Try.underlying31 f1
    obtain ⟨s, hs, _, ws⟩ := DataW.trod_int Try.underlying32 f2
    simp at hs hq hr
    subst hs hq hr
    have bq := Go.bounds_u16 wq
    have br := Go.bounds_u16 wr
    have bs := Go.bounds_u32 ws
    exact ⟨⟨q, r, s⟩, rfl, (by omega : (0 : Int) ≤ q), (by omega : q ≤ 65535), (by omega : (0 : Int) ≤ r), (by omega : r ≤ 65535), (by omega : (0 : Int) ≤ s), (by omega : s ≤ 4294967295)⟩
end

end Go.Proofs.Ytdldhfhhhjenkaa
