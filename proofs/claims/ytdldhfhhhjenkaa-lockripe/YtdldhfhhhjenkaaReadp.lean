/-
  An argument that is a lock and a transaction: how it comes in.
-/
import Derived.Test.YtdldhfhhhjenkaaReads
namespace Go.Proofs.Ytdldhfhhhjenkaa
open Go.ChangeShapes Go.WideShapes Go.ChangeAt Go.RowKit Go.Joins Go.Deep

section
variable {H : Type} {enc : TypeId × Value → H} {w : World} {spare : Nat → Bool} {held : Bool}

theorem cells55 : Try.prog.cellsOf 55 = 13 := by kernel_rfl
theorem cells53 : Try.prog.cellsOf 53 = 4 := by kernel_rfl
theorem cells50 : Try.prog.cellsOf 50 = 1 := by kernel_rfl
theorem cells51 : Try.prog.cellsOf 51 = 1 := by kernel_rfl
theorem cells22s : Try.prog.cellsOf 22 = 1 := by kernel_rfl
theorem cells4 : Try.prog.cellsOf 4 = 1 := by kernel_rfl
theorem cells5 : Try.prog.cellsOf 5 = 1 := by kernel_rfl

theorem read_tx4 {fuel : Nat} {c0 c1 c2 c3 : Value} {x : DataW H × List MemPlace} (h : DataW.trod enc Try.prog w 0 spare held fuel 53 [c0, c1, c2, c3] = some x) :
    ∃ (t : TxD), c0 = .int .u32 t.ver ∧ c3 = .int .u32 t.lock ∧ TxAt w 0 w.heap.size c1 c2 t ∧ t.Came := by
  obtain ⟨xs, n', _, _, _, hxl, hf⟩ := DataW.trod_struct Try.underlying53 h
  have f0 : DataW.trod enc Try.prog w 0 spare held n' 32 (([c0, c1, c2, c3].drop 0).take (Try.prog.cellsOf 32)) = xs[0]? := hf 0 _ rfl
  have f1 : DataW.trod enc Try.prog w 0 spare held n' 50 (([c0, c1, c2, c3].drop 1).take (Try.prog.cellsOf 50)) = xs[1]? := hf 1 _ rfl
  have f2 : DataW.trod enc Try.prog w 0 spare held n' 51 (([c0, c1, c2, c3].drop 2).take (Try.prog.cellsOf 51)) = xs[2]? := hf 2 _ rfl
  have f3 : DataW.trod enc Try.prog w 0 spare held n' 32 (([c0, c1, c2, c3].drop 3).take (Try.prog.cellsOf 32)) = xs[3]? := hf 3 _ rfl
  rw [cells32] at f0 f3
  rw [cells50] at f1
  rw [cells51] at f2
  have hxl2 : xs.length = 4 := hxl
  obtain ⟨z0, e0⟩ : ∃ z, xs[0]? = some z := ⟨_, List.getElem?_eq_getElem (by omega)⟩
  obtain ⟨z1, e1⟩ : ∃ z, xs[1]? = some z := ⟨_, List.getElem?_eq_getElem (by omega)⟩
  obtain ⟨z2, e2⟩ : ∃ z, xs[2]? = some z := ⟨_, List.getElem?_eq_getElem (by omega)⟩
  obtain ⟨z3, e3⟩ : ∃ z, xs[3]? = some z := ⟨_, List.getElem?_eq_getElem (by omega)⟩
  rw [e0] at f0
  rw [e1] at f1
  rw [e2] at f2
  rw [e3] at f3
  obtain ⟨a0, h0, _, wa0⟩ := DataW.trod_int Try.underlying32 f0
  obtain ⟨a3, h3, _, wa3⟩ := DataW.trod_int Try.underlying32 f3
  obtain ⟨ti, hti, l1, l2⟩ := read_ins (show DataW.trod enc Try.prog w 0 spare held n' 50 [c1] = some z1 from f1)
  obtain ⟨tz, htz, l3, l4⟩ := read_outs (show DataW.trod enc Try.prog w 0 spare held n' 51 [c2] = some z2 from f2)
  simp at h0 h3
  have b0 := Go.bounds_u32 wa0
  have b3 := Go.bounds_u32 wa3
  exact ⟨⟨a0, ti, tz, a3⟩, h0, h3, ⟨hti, htz⟩, l1, l3, l2, l4, (by omega : (0 : Int) ≤ a0), (by omega : a0 ≤ 4294967295), (by omega : (0 : Int) ≤ a3), (by omega : a3 ≤ 4294967295)⟩

theorem read_sp {r : Reach} {b0 : Nat} {v : Value} {d : DataW H} {p : List MemPlace} (hv : Value.okWide Try.prog w r b0 55 v) (h : DataW.Trod enc Try.prog w 0 spare held 55 v d p) :
    ∃ (xs : List BrD) (sc : ByteArray) (t : TxD) (i cn ht : Int) (raw own : Bool) (br tg : Int) (vb vi vo : Value),
      v = .agg #[vb, .string sc, .int .u32 t.ver, vi, vo, .int .u32 t.lock, .int .i64 i, .int .i64 cn, .int .i64 ht, .bool raw, .bool own, .int .u8 br, .int .u8 tg] ∧
      (Brs w 0 w.heap.size vb xs ∧ xs.length ≤ maxLen ∧ ∀ x ∈ xs, x.Ok) ∧ sc.size ≤ maxLen ∧ TxAt w 0 w.heap.size vi vo t ∧ t.Came ∧ (-9223372036854775808 ≤ i ∧ i ≤ 9223372036854775807) ∧ (-9223372036854775808 ≤ cn ∧ cn ≤ 9223372036854775807) ∧ (-9223372036854775808 ≤ ht ∧ ht ≤ 9223372036854775807) ∧ (0 ≤ br ∧ br ≤ 255) ∧ (0 ≤ tg ∧ tg ≤ 255) := by
  obtain ⟨cs, rfl, hsz⟩ := okWide_struct Try.underlying55 hv
  rw [cells55] at hsz
  obtain ⟨fuel, hf0⟩ := h
  obtain ⟨l⟩ := cs
  match l, hsz with
  | [c0, c1, c2, c3, c4, c5, c6, c7, c8, c9, c10, c11, c12], _ =>
    have hf1 : DataW.trod enc Try.prog w 0 spare held fuel 55 [c0, c1, c2, c3, c4, c5, c6, c7, c8, c9, c10, c11, c12] = some (d, p) := hf0
    obtain ⟨xs, n', _, _, _, hxl, hf⟩ := DataW.trod_struct Try.underlying55 hf1
    have f0 : DataW.trod enc Try.prog w 0 spare held n' 22 (([c0, c1, c2, c3, c4, c5, c6, c7, c8, c9, c10, c11, c12].drop 0).take (Try.prog.cellsOf 22)) = xs[0]? := hf 0 _ rfl
    have f1 : DataW.trod enc Try.prog w 0 spare held n' 9 (([c0, c1, c2, c3, c4, c5, c6, c7, c8, c9, c10, c11, c12].drop 1).take (Try.prog.cellsOf 9)) = xs[1]? := hf 1 _ rfl
    have f2 : DataW.trod enc Try.prog w 0 spare held n' 53 (([c0, c1, c2, c3, c4, c5, c6, c7, c8, c9, c10, c11, c12].drop 2).take (Try.prog.cellsOf 53)) = xs[2]? := hf 2 _ rfl
    have f3 : DataW.trod enc Try.prog w 0 spare held n' 3 (([c0, c1, c2, c3, c4, c5, c6, c7, c8, c9, c10, c11, c12].drop 6).take (Try.prog.cellsOf 3)) = xs[3]? := hf 3 _ rfl
    have f4 : DataW.trod enc Try.prog w 0 spare held n' 3 (([c0, c1, c2, c3, c4, c5, c6, c7, c8, c9, c10, c11, c12].drop 7).take (Try.prog.cellsOf 3)) = xs[4]? := hf 4 _ rfl
    have f5 : DataW.trod enc Try.prog w 0 spare held n' 3 (([c0, c1, c2, c3, c4, c5, c6, c7, c8, c9, c10, c11, c12].drop 8).take (Try.prog.cellsOf 3)) = xs[5]? := hf 5 _ rfl
    have f6 : DataW.trod enc Try.prog w 0 spare held n' 4 (([c0, c1, c2, c3, c4, c5, c6, c7, c8, c9, c10, c11, c12].drop 9).take (Try.prog.cellsOf 4)) = xs[6]? := hf 6 _ rfl
    have f7 : DataW.trod enc Try.prog w 0 spare held n' 4 (([c0, c1, c2, c3, c4, c5, c6, c7, c8, c9, c10, c11, c12].drop 10).take (Try.prog.cellsOf 4)) = xs[7]? := hf 7 _ rfl
    have f8 : DataW.trod enc Try.prog w 0 spare held n' 5 (([c0, c1, c2, c3, c4, c5, c6, c7, c8, c9, c10, c11, c12].drop 11).take (Try.prog.cellsOf 5)) = xs[8]? := hf 8 _ rfl
    have f9 : DataW.trod enc Try.prog w 0 spare held n' 5 (([c0, c1, c2, c3, c4, c5, c6, c7, c8, c9, c10, c11, c12].drop 12).take (Try.prog.cellsOf 5)) = xs[9]? := hf 9 _ rfl
    rw [cells22s] at f0
    rw [cells9] at f1
    rw [cells53] at f2
    rw [cells3] at f3 f4 f5
    rw [cells4] at f6 f7
    rw [cells5] at f8 f9
    have hxl2 : xs.length = 10 := hxl
    have get : ∀ i, i < 10 → ∃ z, xs[i]? = some z := fun i hi => ⟨_, List.getElem?_eq_getElem (by omega)⟩
    obtain ⟨z0, e0⟩ := get 0 (by omega)
    obtain ⟨z1, e1⟩ := get 1 (by omega)
    obtain ⟨z2, e2⟩ := get 2 (by omega)
    obtain ⟨z3, e3⟩ := get 3 (by omega)
    obtain ⟨z4, e4⟩ := get 4 (by omega)
    obtain ⟨z5, e5⟩ := get 5 (by omega)
    obtain ⟨z6, e6⟩ := get 6 (by omega)
    obtain ⟨z7, e7⟩ := get 7 (by omega)
    obtain ⟨z8, e8⟩ := get 8 (by omega)
    obtain ⟨z9, e9⟩ := get 9 (by omega)
    rw [e0] at f0
    rw [e1] at f1
    rw [e2] at f2
    rw [e3] at f3
    rw [e4] at f4
    rw [e5] at f5
    rw [e6] at f6
    rw [e7] at f7
    rw [e8] at f8
    rw [e9] at f9
    obtain ⟨bs, hbs, hbl, hbo⟩ := read_brs (show DataW.trod enc Try.prog w 0 spare held n' 22 [c0] = some z0 from f0)
    obtain ⟨sc, hsc, _, hsl⟩ := DataW.trod_string Try.underlying9 f1
    obtain ⟨t, ht0, ht3, htx, htc⟩ := read_tx4 (show DataW.trod enc Try.prog w 0 spare held n' 53 [c2, c3, c4, c5] = some z2 from f2)
    obtain ⟨i, hi, _, wi⟩ := DataW.trod_int Try.underlying3 f3
    obtain ⟨cn, hcn, _, wcn⟩ := DataW.trod_int Try.underlying3 f4
    obtain ⟨hh, hhh, _, wh⟩ := DataW.trod_int Try.underlying3 f5
    obtain ⟨raw, hraw, _⟩ := DataW.trod_bool Try.underlying4 f6
    obtain ⟨own, hown, _⟩ := DataW.trod_bool Try.underlying4 f7
    obtain ⟨br, hbr, _, wbr⟩ := DataW.trod_int Try.underlying5 f8
    obtain ⟨tg, htg, _, wtg⟩ := DataW.trod_int Try.underlying5 f9
    simp at hsc hi hcn hhh hraw hown hbr htg
    subst hsc hi hcn hhh hraw hown hbr htg ht0 ht3
    have b1 := Go.bounds_i64 wi
    have b2 := Go.bounds_i64 wcn
    have b3 := Go.bounds_i64 wh
    have b4 := Go.bounds_u8 wbr
    have b5 := Go.bounds_u8 wtg
    exact ⟨bs, sc, t, i, cn, hh, raw, own, br, tg, c0, c3, c4, rfl, ⟨hbs, hbl, hbo⟩, hsl, htx, htc, by omega, by omega, by omega, by omega, by omega⟩
end

end Go.Proofs.Ytdldhfhhhjenkaa
