/-
  What the statements of layer 11 are given: how it comes in.
  The package-level variable errors.errorType: what the rows say of it, as the walks want it; and a start at which it stands.
-/
import Derived.Test.YtjclklppnkoehaaDoorJob
import Derived.ProofKit
import Derived.OpenShut
import Derived.ShutString
import Derived.ChangeOld
import Derived.Lib.SmallJoins
import Derived.Deep.Slices
import Derived.Deep.Strs
import Derived.Test.YtjclklppnkoehaaDoorErs
import Derived.Test.YtjclklppnkoehaaDoorRows
import Derived.LaidHandle
import Derived.LaidMore
import Derived.LaidLaws
import Derived.Stop.Joined
import Derived.MakeChecks

namespace Go.Proofs.YtjclklppnkoehaaDoor
open Go.ChangeShapes Go.WideShapes Go.ChangeAt Go.RowKit Go.Joins Go.Deep
set_option maxRecDepth 100000

section
variable {H : Type} {enc : TypeId × Value → H} {w : World} {spare : Nat → Bool} {held : Bool}

theorem rc3 : Tryd.prog.cellsOf 3 = 1 := by kernel_rfl
theorem rc4 : Tryd.prog.cellsOf 4 = 1 := by kernel_rfl
theorem rc5 : Tryd.prog.cellsOf 5 = 1 := by kernel_rfl
theorem rc9 : Tryd.prog.cellsOf 9 = 1 := by kernel_rfl
theorem rc22 : Tryd.prog.cellsOf 22 = 1 := by kernel_rfl
theorem rc23 : Tryd.prog.cellsOf 23 = 1 := by kernel_rfl
theorem rc24 : Tryd.prog.cellsOf 24 = 1 := by kernel_rfl
theorem rc25 : Tryd.prog.cellsOf 25 = 1 := by kernel_rfl
theorem rc27 : Tryd.prog.cellsOf 27 = 6 := by kernel_rfl
theorem rc32 : Tryd.prog.cellsOf 32 = 1 := by kernel_rfl
theorem rc43 : Tryd.prog.cellsOf 43 = 2 := by kernel_rfl
theorem rc44 : Tryd.prog.cellsOf 44 = 1 := by kernel_rfl
theorem rc46 : Tryd.prog.cellsOf 46 = 4 := by kernel_rfl
theorem rc48 : Tryd.prog.cellsOf 48 = 2 := by kernel_rfl
theorem rc60 : Tryd.prog.cellsOf 60 = 1 := by kernel_rfl
theorem rc65 : Tryd.prog.cellsOf 65 = 1 := by kernel_rfl
theorem rc69 : Tryd.prog.cellsOf 69 = 3 := by kernel_rfl
theorem rc80 : Tryd.prog.cellsOf 80 = 7 := by kernel_rfl
theorem rc87 : Tryd.prog.cellsOf 87 = 9 := by kernel_rfl
theorem rd_zero (a : Addr) : a.add 0 = a := by simp [Addr.add]
theorem rd_none {a : Addr} {v : Value} (h : w.cell? a = some v) : ∃ b off, a = ⟨b, off, none⟩ ∧ b < w.heap.size := by
  obtain ⟨b, off, spot⟩ := a
  have hs : spot = none := World.cell?_spot h
  subst hs
  exact ⟨b, off, rfl, World.block_lt_of_cell? w _ h⟩
/-- A list of anything. -/
theorem rd_lst {α : Type} {At : World → Nat → Nat → α → Prop} {G : α → Prop} {sl e : TypeId} {sz : Nat} (d : α) (hu : Tryd.prog.underlying sl = some (.slice e)) (hce : Tryd.prog.cellsOf e = sz) (hsz : 0 < sz)
    (one : ∀ (n : Nat) (cs : List Value) (x : DataW H × List MemPlace), DataW.trod enc Tryd.prog w 0 spare held n e cs = some x → ∃ y : α, G y ∧ ∀ (b o : Nat), (∀ i u, cs[i]? = some u → w.cell? ⟨b, o + i, none⟩ = some u) → At w b o y)
    {fuel : Nat} {v : Value} {x : DataW H × List MemPlace} (h : DataW.trod enc Tryd.prog w 0 spare held fuel sl [v] = some x) : ∃ ys, Lst At sz w 0 w.heap.size v ys ∧ ys.length ≤ maxLen ∧ ∀ y ∈ ys, G y := by
  rcases open_slice hu h with ⟨hc, _⟩ | ⟨a, len, cap, m, n, D, Pl, hc, _, hl, hm, hmm, _, hx⟩
  · simp at hc
    subst hc
    exact ⟨[], ⟨none, 0, rfl, Nat.le_refl _, .inl rfl⟩, by simp, by simp⟩
  · simp at hc
    subst hc
    rw [hce] at hx
    have hml : len ≤ m := by rw [hmm]; split <;> omega
    have hin : ∀ i, i < len → ∃ y : α, G y ∧ ∀ b off, a = ⟨b, off, none⟩ → At w b (off + i * sz) y := fun i hi => by
      obtain ⟨cs, h1, h2⟩ := hx i (by omega)
      obtain ⟨_, hlen, hc⟩ := World.cells?_some h1
      obtain ⟨y, hg, hat⟩ := one _ _ _ h2
      refine ⟨y, hg, fun b off ha => hat b (off + i * sz) fun j u hj => ?_⟩
      have := hc j (by have := (List.getElem?_eq_some_iff.1 hj).1; omega)
      rw [ha, Addr.add_lit, Addr.add_lit] at this
      exact this.trans hj
    have : Inhabited α := ⟨d⟩
    obtain ⟨F, hF⟩ := choose_lt (α := α) hin
    refine ⟨(List.range len).map F, ⟨some a, cap, by simp, by simpa using hl, ?_⟩, by simp; omega, ?_⟩
    · by_cases h0 : len = 0
      · subst h0; exact .inl (by simp)
      · obtain ⟨cs, h1, _⟩ := hx 0 (by omega)
        obtain ⟨_, hlen, hc⟩ := World.cells?_some h1
        have q0 := hc 0 hsz
        rw [Nat.zero_mul, rd_zero, rd_zero] at q0
        have hcs : ∃ u, cs[0]? = some u := ⟨_, List.getElem?_eq_getElem (by omega)⟩
        obtain ⟨u, hu0⟩ := hcs
        obtain ⟨b, off, rfl, hb⟩ := rd_none (q0.trans hu0)
        refine .inr ⟨b, off, rfl, Nat.zero_le _, hb, fun k s hk => ?_⟩
        have hkl : k < len := by have := (List.getElem?_eq_some_iff.1 hk).1; simpa using this
        simp [hkl] at hk
        subst hk
        exact (hF k hkl).2 b off rfl
    · intro y hy
      obtain ⟨i, hi, rfl⟩ := List.mem_map.1 hy
      exact (hF i (List.mem_range.1 hi)).1

theorem rd_br {fuel : Nat} {cs : List Value} {x : DataW H × List MemPlace} (h : DataW.trod enc Tryd.prog w 0 spare held fuel 69 cs = some x) :
    ∃ y : BrD, y.Ok ∧ ∀ (b o : Nat), (∀ i u, cs[i]? = some u → w.cell? ⟨b, o + i, none⟩ = some u) → BrAt w b o y := by
  obtain ⟨xs, n', _, _, hlen, hxl, hf⟩ := DataW.trod_struct Tryd.underlying69 h
  rw [rc69] at hlen
  match cs, hlen with
  | [c0, c1, c2], _ =>
    have f0 : DataW.trod enc Tryd.prog w 0 spare held n' 60 (([c0, c1, c2].drop 0).take (Tryd.prog.cellsOf 60)) = xs[0]? := hf 0 _ rfl
    rw [rc60] at f0
    have f1 : DataW.trod enc Tryd.prog w 0 spare held n' 60 (([c0, c1, c2].drop 1).take (Tryd.prog.cellsOf 60)) = xs[1]? := hf 1 _ rfl
    rw [rc60] at f1
    have f2 : DataW.trod enc Tryd.prog w 0 spare held n' 25 (([c0, c1, c2].drop 2).take (Tryd.prog.cellsOf 25)) = xs[2]? := hf 2 _ rfl
    rw [rc25] at f2
    have hxl2 : xs.length = 3 := hxl
    obtain ⟨z0, e0⟩ : ∃ z, xs[0]? = some z := ⟨_, List.getElem?_eq_getElem (by omega)⟩
    rw [e0] at f0
    obtain ⟨z1, e1⟩ : ∃ z, xs[1]? = some z := ⟨_, List.getElem?_eq_getElem (by omega)⟩
    rw [e1] at f1
    obtain ⟨z2, e2⟩ : ∃ z, xs[2]? = some z := ⟨_, List.getElem?_eq_getElem (by omega)⟩
    rw [e2] at f2
    obtain ⟨q, h0, _, w0⟩ := DataW.trod_int Tryd.underlying60 f0
    obtain ⟨r, h1, _, w1⟩ := DataW.trod_int Tryd.underlying60 f1
    obtain ⟨s, h2, _, w2⟩ := DataW.trod_int Tryd.underlying25 f2
    simp at h0 h1 h2
    subst h0 h1 h2
    have b0 := Go.bounds_u16 w0
    have b1 := Go.bounds_u16 w1
    have b2 := Go.bounds_u32 w2
    exact ⟨⟨q, r, s⟩, ⟨(by omega : (0 : Int) ≤ q), (by omega : q ≤ 65535), (by omega : (0 : Int) ≤ r), (by omega : r ≤ 65535), (by omega : (0 : Int) ≤ s), (by omega : s ≤ 4294967295)⟩, fun b o hc => ⟨hc 0 _ rfl, hc 1 _ rfl, hc 2 _ rfl⟩⟩
theorem rd_brs {fuel : Nat} {v : Value} {x : DataW H × List MemPlace} (h : DataW.trod enc Tryd.prog w 0 spare held fuel 65 [v] = some x) : ∃ ys, Brs w 0 w.heap.size v ys ∧ ys.length ≤ maxLen ∧ ∀ y ∈ ys, y.Ok :=
  rd_lst (At := BrAt) (d := ⟨0, 0, 0⟩) Tryd.underlying65 rc69 (by decide) (fun _ _ _ h => rd_br h) h
theorem rd_strs {fuel : Nat} {v : Value} {x : DataW H × List MemPlace} (h : DataW.trod enc Tryd.prog w 0 spare held fuel 44 [v] = some x) : ∃ ss, Strs w 0 w.heap.size v ss ∧ ss.length ≤ maxLen ∧ ∀ s ∈ ss, s.size ≤ maxLen := by
  obtain ⟨ys, ⟨A, c, hv, hc, h⟩, h2, h3⟩ := rd_lst (At := fun w b o (s : ByteArray) => w.cell? ⟨b, o, none⟩ = some (.string s)) (G := fun s => s.size ≤ maxLen) (d := ByteArray.empty) Tryd.underlying44 rc9 (by decide) (fun _ cs _ h => by
    obtain ⟨s, hs, _, hz⟩ := DataW.trod_string Tryd.underlying9 h
    exact ⟨s, hz, fun b o hc => hc 0 _ (by rw [hs]; rfl)⟩) h
  refine ⟨ys, ⟨A, c, hv, hc, ?_⟩, h2, h3⟩
  rcases h with h | ⟨b, off, rfl, h4, h5, h6⟩
  · exact .inl h
  · exact .inr ⟨b, off, rfl, h4, h5, fun k s hk => by have := h6 k s hk; rwa [Nat.mul_one] at this⟩
theorem rd_pt {fuel : Nat} {cs : List Value} {x : DataW H × List MemPlace} (h : DataW.trod enc Tryd.prog w 0 spare held fuel 43 cs = some x) :
    ∃ (s : ByteArray) (q : Int), cs = [.string s, .int .u32 q] ∧ s.size ≤ maxLen ∧ 0 ≤ q ∧ q ≤ 4294967295 := by
  obtain ⟨xs, n', _, _, hlen, hxl, hf⟩ := DataW.trod_struct Tryd.underlying43 h
  rw [rc43] at hlen
  match cs, hlen with
  | [c0, c1], _ =>
    have f0 : DataW.trod enc Tryd.prog w 0 spare held n' 9 (([c0, c1].drop 0).take (Tryd.prog.cellsOf 9)) = xs[0]? := hf 0 _ rfl
    rw [rc9] at f0
    have f1 : DataW.trod enc Tryd.prog w 0 spare held n' 25 (([c0, c1].drop 1).take (Tryd.prog.cellsOf 25)) = xs[1]? := hf 1 _ rfl
    rw [rc25] at f1
    have hxl2 : xs.length = 2 := hxl
    obtain ⟨z0, e0⟩ : ∃ z, xs[0]? = some z := ⟨_, List.getElem?_eq_getElem (by omega)⟩
    rw [e0] at f0
    obtain ⟨z1, e1⟩ : ∃ z, xs[1]? = some z := ⟨_, List.getElem?_eq_getElem (by omega)⟩
    rw [e1] at f1
    obtain ⟨s, h0, _, w0⟩ := DataW.trod_string Tryd.underlying9 f0
    obtain ⟨q, h1, _, w1⟩ := DataW.trod_int Tryd.underlying25 f1
    simp at h0 h1
    subst h0 h1
    have b1 := Go.bounds_u32 w1
    exact ⟨s, q, rfl, w0, by omega, by omega⟩
theorem rd_in {fuel : Nat} {cs : List Value} {x : DataW H × List MemPlace} (h : DataW.trod enc Tryd.prog w 0 spare held fuel 46 cs = some x) :
    ∃ y : InD, y.Any ∧ ∀ (b o : Nat), (∀ i u, cs[i]? = some u → w.cell? ⟨b, o + i, none⟩ = some u) → InAt w 0 w.heap.size b o y := by
  obtain ⟨xs, n', _, _, hlen, hxl, hf⟩ := DataW.trod_struct Tryd.underlying46 h
  rw [rc46] at hlen
  match cs, hlen with
  | [c0, c1, c2, c3], _ =>
    have f0 : DataW.trod enc Tryd.prog w 0 spare held n' 43 (([c0, c1, c2, c3].drop 0).take (Tryd.prog.cellsOf 43)) = xs[0]? := hf 0 _ rfl
    rw [rc43] at f0
    have f1 : DataW.trod enc Tryd.prog w 0 spare held n' 25 (([c0, c1, c2, c3].drop 2).take (Tryd.prog.cellsOf 25)) = xs[1]? := hf 1 _ rfl
    rw [rc25] at f1
    have f2 : DataW.trod enc Tryd.prog w 0 spare held n' 44 (([c0, c1, c2, c3].drop 3).take (Tryd.prog.cellsOf 44)) = xs[2]? := hf 2 _ rfl
    rw [rc44] at f2
    have hxl2 : xs.length = 3 := hxl
    obtain ⟨z0, e0⟩ : ∃ z, xs[0]? = some z := ⟨_, List.getElem?_eq_getElem (by omega)⟩
    rw [e0] at f0
    obtain ⟨z1, e1⟩ : ∃ z, xs[1]? = some z := ⟨_, List.getElem?_eq_getElem (by omega)⟩
    rw [e1] at f1
    obtain ⟨z2, e2⟩ : ∃ z, xs[2]? = some z := ⟨_, List.getElem?_eq_getElem (by omega)⟩
    rw [e2] at f2
    obtain ⟨s, i, hp, hsz, i1, i2⟩ := rd_pt (show DataW.trod enc Tryd.prog w 0 spare held n' 43 [c0, c1] = some z0 from f0)
    obtain ⟨q, h1, _, w1⟩ := DataW.trod_int Tryd.underlying25 f1
    obtain ⟨ss, hss, hsl, hse⟩ := rd_strs (show DataW.trod enc Tryd.prog w 0 spare held n' 44 [c3] = some z2 from f2)
    simp at h1
    subst h1
    have b1 := Go.bounds_u32 w1
    simp at hp
    obtain ⟨rfl, rfl⟩ := hp
    exact ⟨⟨s, i, q, ss⟩, ⟨hsz, i1, i2, (by omega : (0 : Int) ≤ q), (by omega : q ≤ 4294967295), hsl, hse⟩, fun b o hc => ⟨hc 0 _ rfl, hc 1 _ rfl, hc 2 _ rfl, c3, hc 3 _ rfl, hss⟩⟩
theorem rd_out {fuel : Nat} {cs : List Value} {x : DataW H × List MemPlace} (h : DataW.trod enc Tryd.prog w 0 spare held fuel 48 cs = some x) :
    ∃ y : OutD, y.Any ∧ ∀ (b o : Nat), (∀ i u, cs[i]? = some u → w.cell? ⟨b, o + i, none⟩ = some u) → OutAt w b o y := by
  obtain ⟨xs, n', _, _, hlen, hxl, hf⟩ := DataW.trod_struct Tryd.underlying48 h
  rw [rc48] at hlen
  match cs, hlen with
  | [c0, c1], _ =>
    have f0 : DataW.trod enc Tryd.prog w 0 spare held n' 3 (([c0, c1].drop 0).take (Tryd.prog.cellsOf 3)) = xs[0]? := hf 0 _ rfl
    rw [rc3] at f0
    have f1 : DataW.trod enc Tryd.prog w 0 spare held n' 9 (([c0, c1].drop 1).take (Tryd.prog.cellsOf 9)) = xs[1]? := hf 1 _ rfl
    rw [rc9] at f1
    have hxl2 : xs.length = 2 := hxl
    obtain ⟨z0, e0⟩ : ∃ z, xs[0]? = some z := ⟨_, List.getElem?_eq_getElem (by omega)⟩
    rw [e0] at f0
    obtain ⟨z1, e1⟩ : ∃ z, xs[1]? = some z := ⟨_, List.getElem?_eq_getElem (by omega)⟩
    rw [e1] at f1
    obtain ⟨q, h0, _, w0⟩ := DataW.trod_int Tryd.underlying3 f0
    obtain ⟨s, h1, _, w1⟩ := DataW.trod_string Tryd.underlying9 f1
    simp at h0 h1
    subst h0 h1
    have b0 := Go.bounds_i64 w0
    exact ⟨⟨q, s⟩, ⟨(by omega : (-9223372036854775808 : Int) ≤ q), (by omega : q ≤ 9223372036854775807), w1⟩, fun b o hc => ⟨hc 0 _ rfl, hc 1 _ rfl⟩⟩
theorem rd_cn {fuel : Nat} {cs : List Value} {x : DataW H × List MemPlace} (h : DataW.trod enc Tryd.prog w 0 spare held fuel 80 cs = some x) :
    ∃ y : CnD, y.Ok ∧ ∀ (b o : Nat), (∀ i u, cs[i]? = some u → w.cell? ⟨b, o + i, none⟩ = some u) → CnAt 0 w.heap.size w b o y := by
  obtain ⟨xs, n', _, _, hlen, hxl, hf⟩ := DataW.trod_struct Tryd.underlying80 h
  rw [rc80] at hlen
  match cs, hlen with
  | [c0, c1, c2, c3, c4, c5, c6], _ =>
    have f0 : DataW.trod enc Tryd.prog w 0 spare held n' 5 (([c0, c1, c2, c3, c4, c5, c6].drop 0).take (Tryd.prog.cellsOf 5)) = xs[0]? := hf 0 _ rfl
    rw [rc5] at f0
    have f1 : DataW.trod enc Tryd.prog w 0 spare held n' 5 (([c0, c1, c2, c3, c4, c5, c6].drop 1).take (Tryd.prog.cellsOf 5)) = xs[1]? := hf 1 _ rfl
    rw [rc5] at f1
    have f2 : DataW.trod enc Tryd.prog w 0 spare held n' 3 (([c0, c1, c2, c3, c4, c5, c6].drop 2).take (Tryd.prog.cellsOf 3)) = xs[2]? := hf 2 _ rfl
    rw [rc3] at f2
    have f3 : DataW.trod enc Tryd.prog w 0 spare held n' 3 (([c0, c1, c2, c3, c4, c5, c6].drop 3).take (Tryd.prog.cellsOf 3)) = xs[3]? := hf 3 _ rfl
    rw [rc3] at f3
    have f4 : DataW.trod enc Tryd.prog w 0 spare held n' 65 (([c0, c1, c2, c3, c4, c5, c6].drop 4).take (Tryd.prog.cellsOf 65)) = xs[4]? := hf 4 _ rfl
    rw [rc65] at f4
    have f5 : DataW.trod enc Tryd.prog w 0 spare held n' 9 (([c0, c1, c2, c3, c4, c5, c6].drop 5).take (Tryd.prog.cellsOf 9)) = xs[5]? := hf 5 _ rfl
    rw [rc9] at f5
    have f6 : DataW.trod enc Tryd.prog w 0 spare held n' 4 (([c0, c1, c2, c3, c4, c5, c6].drop 6).take (Tryd.prog.cellsOf 4)) = xs[6]? := hf 6 _ rfl
    rw [rc4] at f6
    have hxl2 : xs.length = 7 := hxl
    obtain ⟨z0, e0⟩ : ∃ z, xs[0]? = some z := ⟨_, List.getElem?_eq_getElem (by omega)⟩
    rw [e0] at f0
    obtain ⟨z1, e1⟩ : ∃ z, xs[1]? = some z := ⟨_, List.getElem?_eq_getElem (by omega)⟩
    rw [e1] at f1
    obtain ⟨z2, e2⟩ : ∃ z, xs[2]? = some z := ⟨_, List.getElem?_eq_getElem (by omega)⟩
    rw [e2] at f2
    obtain ⟨z3, e3⟩ : ∃ z, xs[3]? = some z := ⟨_, List.getElem?_eq_getElem (by omega)⟩
    rw [e3] at f3
    obtain ⟨z4, e4⟩ : ∃ z, xs[4]? = some z := ⟨_, List.getElem?_eq_getElem (by omega)⟩
    rw [e4] at f4
    obtain ⟨z5, e5⟩ : ∃ z, xs[5]? = some z := ⟨_, List.getElem?_eq_getElem (by omega)⟩
    rw [e5] at f5
    obtain ⟨z6, e6⟩ : ∃ z, xs[6]? = some z := ⟨_, List.getElem?_eq_getElem (by omega)⟩
    rw [e6] at f6
    obtain ⟨i, h0, _, w0⟩ := DataW.trod_int Tryd.underlying5 f0
    obtain ⟨j, h1, _, w1⟩ := DataW.trod_int Tryd.underlying5 f1
    obtain ⟨q, h2, _, w2⟩ := DataW.trod_int Tryd.underlying3 f2
    obtain ⟨t, h3, _, w3⟩ := DataW.trod_int Tryd.underlying3 f3
    obtain ⟨bs, hbs, hbl, hbo⟩ := rd_brs (show DataW.trod enc Tryd.prog w 0 spare held n' 65 [c4] = some z4 from f4)
    obtain ⟨s, h5, _, w5⟩ := DataW.trod_string Tryd.underlying9 f5
    obtain ⟨r, h6, _⟩ := DataW.trod_bool Tryd.underlying4 f6
    simp at h0 h1 h2 h3 h5 h6
    subst h0 h1 h2 h3 h5 h6
    have b0 := Go.bounds_u8 w0
    have b1 := Go.bounds_u8 w1
    have b2 := Go.bounds_i64 w2
    have b3 := Go.bounds_i64 w3
    exact ⟨⟨i, j, q, t, bs, s, r⟩, ⟨(by omega : (0 : Int) ≤ i), (by omega : i ≤ 255), (by omega : (0 : Int) ≤ j), (by omega : j ≤ 255), (by omega : (-9223372036854775808 : Int) ≤ q), (by omega : q ≤ 9223372036854775807), (by omega : (-9223372036854775808 : Int) ≤ t), (by omega : t ≤ 9223372036854775807), hbo, hbl, w5⟩, fun b o hc => ⟨hc 0 _ rfl, hc 1 _ rfl, hc 2 _ rfl, hc 3 _ rfl, ⟨c4, hc 4 _ rfl, hbs⟩, hc 5 _ rfl, hc 6 _ rfl⟩⟩
theorem rd_sp {fuel : Nat} {cs : List Value} {x : DataW H × List MemPlace} (h : DataW.trod enc Tryd.prog w 0 spare held fuel 87 cs = some x) :
    ∃ y : SpD, y.Ok ∧ ∀ (b o : Nat), (∀ i u, cs[i]? = some u → w.cell? ⟨b, o + i, none⟩ = some u) → SpAt 0 w.heap.size w b o y := by
  obtain ⟨xs, n', _, _, hlen, hxl, hf⟩ := DataW.trod_struct Tryd.underlying87 h
  rw [rc87] at hlen
  match cs, hlen with
  | [c0, c1, c2, c3, c4, c5, c6, c7, c8], _ =>
    have f0 : DataW.trod enc Tryd.prog w 0 spare held n' 5 (([c0, c1, c2, c3, c4, c5, c6, c7, c8].drop 0).take (Tryd.prog.cellsOf 5)) = xs[0]? := hf 0 _ rfl
    rw [rc5] at f0
    have f1 : DataW.trod enc Tryd.prog w 0 spare held n' 5 (([c0, c1, c2, c3, c4, c5, c6, c7, c8].drop 1).take (Tryd.prog.cellsOf 5)) = xs[1]? := hf 1 _ rfl
    rw [rc5] at f1
    have f2 : DataW.trod enc Tryd.prog w 0 spare held n' 5 (([c0, c1, c2, c3, c4, c5, c6, c7, c8].drop 2).take (Tryd.prog.cellsOf 5)) = xs[2]? := hf 2 _ rfl
    rw [rc5] at f2
    have f3 : DataW.trod enc Tryd.prog w 0 spare held n' 25 (([c0, c1, c2, c3, c4, c5, c6, c7, c8].drop 3).take (Tryd.prog.cellsOf 25)) = xs[3]? := hf 3 _ rfl
    rw [rc25] at f3
    have f4 : DataW.trod enc Tryd.prog w 0 spare held n' 46 (([c0, c1, c2, c3, c4, c5, c6, c7, c8].drop 4).take (Tryd.prog.cellsOf 46)) = xs[4]? := hf 4 _ rfl
    rw [rc46] at f4
    have f5 : DataW.trod enc Tryd.prog w 0 spare held n' 4 (([c0, c1, c2, c3, c4, c5, c6, c7, c8].drop 8).take (Tryd.prog.cellsOf 4)) = xs[5]? := hf 5 _ rfl
    rw [rc4] at f5
    have hxl2 : xs.length = 6 := hxl
    obtain ⟨z0, e0⟩ : ∃ z, xs[0]? = some z := ⟨_, List.getElem?_eq_getElem (by omega)⟩
    rw [e0] at f0
    obtain ⟨z1, e1⟩ : ∃ z, xs[1]? = some z := ⟨_, List.getElem?_eq_getElem (by omega)⟩
    rw [e1] at f1
    obtain ⟨z2, e2⟩ : ∃ z, xs[2]? = some z := ⟨_, List.getElem?_eq_getElem (by omega)⟩
    rw [e2] at f2
    obtain ⟨z3, e3⟩ : ∃ z, xs[3]? = some z := ⟨_, List.getElem?_eq_getElem (by omega)⟩
    rw [e3] at f3
    obtain ⟨z4, e4⟩ : ∃ z, xs[4]? = some z := ⟨_, List.getElem?_eq_getElem (by omega)⟩
    rw [e4] at f4
    obtain ⟨z5, e5⟩ : ∃ z, xs[5]? = some z := ⟨_, List.getElem?_eq_getElem (by omega)⟩
    rw [e5] at f5
    obtain ⟨i, h0, _, w0⟩ := DataW.trod_int Tryd.underlying5 f0
    obtain ⟨j, h1, _, w1⟩ := DataW.trod_int Tryd.underlying5 f1
    obtain ⟨k, h2, _, w2⟩ := DataW.trod_int Tryd.underlying5 f2
    obtain ⟨q, h3, _, w3⟩ := DataW.trod_int Tryd.underlying25 f3
    obtain ⟨y, hy, hat⟩ := rd_in (show DataW.trod enc Tryd.prog w 0 spare held n' 46 [c4, c5, c6, c7] = some z4 from f4)
    obtain ⟨r, h5, _⟩ := DataW.trod_bool Tryd.underlying4 f5
    simp at h0 h1 h2 h3 h5
    subst h0 h1 h2 h3 h5
    have b0 := Go.bounds_u8 w0
    have b1 := Go.bounds_u8 w1
    have b2 := Go.bounds_u8 w2
    have b3 := Go.bounds_u32 w3
    exact ⟨⟨i, j, k, q, y, r⟩, ⟨(by omega : (0 : Int) ≤ i), (by omega : i ≤ 255), (by omega : (0 : Int) ≤ j), (by omega : j ≤ 255), (by omega : (0 : Int) ≤ k), (by omega : k ≤ 255), (by omega : (0 : Int) ≤ q), (by omega : q ≤ 4294967295), hy⟩, fun b o hc => ⟨hc 0 _ rfl, hc 1 _ rfl, hc 2 _ rfl, hc 3 _ rfl, hat b (o + 4) (fun m u hm => by
      match m, hm with
      | 0, hm => simp at hm; subst hm; exact hc 4 _ rfl
      | 1, hm => simp at hm; subst hm; exact hc 5 _ rfl
      | 2, hm => simp at hm; subst hm; exact hc 6 _ rfl
      | 3, hm => simp at hm; subst hm; exact hc 7 _ rfl
      | n + 4, hm => simp at hm), hc 8 _ rfl⟩⟩
theorem rd_cns {fuel : Nat} {v : Value} {x : DataW H × List MemPlace} (h : DataW.trod enc Tryd.prog w 0 spare held fuel 22 [v] = some x) : ∃ ys, Cns w 0 w.heap.size v ys ∧ ys.length ≤ maxLen ∧ ∀ y ∈ ys, y.Ok :=
  rd_lst (At := CnAt 0 w.heap.size) (d := ⟨0, 0, 0, 0, [], ⟨#[]⟩, false⟩) Tryd.underlying22 rc80 (by decide) (fun _ _ _ h => rd_cn h) h
theorem rd_sps {fuel : Nat} {v : Value} {x : DataW H × List MemPlace} (h : DataW.trod enc Tryd.prog w 0 spare held fuel 23 [v] = some x) : ∃ ys, Sps w 0 w.heap.size v ys ∧ ys.length ≤ maxLen ∧ ∀ y ∈ ys, y.Ok :=
  rd_lst (At := SpAt 0 w.heap.size) (d := ⟨0, 0, 0, 0, ⟨⟨#[]⟩, 0, 0, []⟩, false⟩) Tryd.underlying23 rc87 (by decide) (fun _ _ _ h => rd_sp h) h
theorem rd_outs {fuel : Nat} {v : Value} {x : DataW H × List MemPlace} (h : DataW.trod enc Tryd.prog w 0 spare held fuel 24 [v] = some x) : ∃ ys, Outs w 0 w.heap.size v ys ∧ ys.length ≤ maxLen ∧ ∀ y ∈ ys, y.Any :=
  rd_lst (At := OutAt) (d := ⟨0, ⟨#[]⟩⟩) Tryd.underlying24 rc48 (by decide) (fun _ _ _ h => rd_out h) h
theorem rd_job6 {fuel : Nat} {cs : List Value} {x : DataW H × List MemPlace} (h : DataW.trod enc Tryd.prog w 0 spare held fuel 27 cs = some x) :
    ∃ (z : JobD) (vc vs vo : Value), cs = [vc, vs, vo, .int .u32 z.ver, .int .u32 z.lock, .int .i64 z.ht] ∧ JobAt w w.heap.size vc vs vo z ∧ z.Ok := by
  obtain ⟨xs, n', _, _, hlen, hxl, hf⟩ := DataW.trod_struct Tryd.underlying27 h
  rw [rc27] at hlen
  match cs, hlen with
  | [c0, c1, c2, c3, c4, c5], _ =>
    have f0 : DataW.trod enc Tryd.prog w 0 spare held n' 22 (([c0, c1, c2, c3, c4, c5].drop 0).take (Tryd.prog.cellsOf 22)) = xs[0]? := hf 0 _ rfl
    rw [rc22] at f0
    have f1 : DataW.trod enc Tryd.prog w 0 spare held n' 23 (([c0, c1, c2, c3, c4, c5].drop 1).take (Tryd.prog.cellsOf 23)) = xs[1]? := hf 1 _ rfl
    rw [rc23] at f1
    have f2 : DataW.trod enc Tryd.prog w 0 spare held n' 24 (([c0, c1, c2, c3, c4, c5].drop 2).take (Tryd.prog.cellsOf 24)) = xs[2]? := hf 2 _ rfl
    rw [rc24] at f2
    have f3 : DataW.trod enc Tryd.prog w 0 spare held n' 25 (([c0, c1, c2, c3, c4, c5].drop 3).take (Tryd.prog.cellsOf 25)) = xs[3]? := hf 3 _ rfl
    rw [rc25] at f3
    have f4 : DataW.trod enc Tryd.prog w 0 spare held n' 25 (([c0, c1, c2, c3, c4, c5].drop 4).take (Tryd.prog.cellsOf 25)) = xs[4]? := hf 4 _ rfl
    rw [rc25] at f4
    have f5 : DataW.trod enc Tryd.prog w 0 spare held n' 3 (([c0, c1, c2, c3, c4, c5].drop 5).take (Tryd.prog.cellsOf 3)) = xs[5]? := hf 5 _ rfl
    rw [rc3] at f5
    have hxl2 : xs.length = 6 := hxl
    obtain ⟨z0, e0⟩ : ∃ z, xs[0]? = some z := ⟨_, List.getElem?_eq_getElem (by omega)⟩
    rw [e0] at f0
    obtain ⟨z1, e1⟩ : ∃ z, xs[1]? = some z := ⟨_, List.getElem?_eq_getElem (by omega)⟩
    rw [e1] at f1
    obtain ⟨z2, e2⟩ : ∃ z, xs[2]? = some z := ⟨_, List.getElem?_eq_getElem (by omega)⟩
    rw [e2] at f2
    obtain ⟨z3, e3⟩ : ∃ z, xs[3]? = some z := ⟨_, List.getElem?_eq_getElem (by omega)⟩
    rw [e3] at f3
    obtain ⟨z4, e4⟩ : ∃ z, xs[4]? = some z := ⟨_, List.getElem?_eq_getElem (by omega)⟩
    rw [e4] at f4
    obtain ⟨z5, e5⟩ : ∃ z, xs[5]? = some z := ⟨_, List.getElem?_eq_getElem (by omega)⟩
    rw [e5] at f5
    obtain ⟨xc, hc1, hc2, hc3⟩ := rd_cns (show DataW.trod enc Tryd.prog w 0 spare held n' 22 [c0] = some z0 from f0)
    obtain ⟨xs', k1, k2, k3⟩ := rd_sps (show DataW.trod enc Tryd.prog w 0 spare held n' 23 [c1] = some z1 from f1)
    obtain ⟨xo, m1, m2, m3⟩ := rd_outs (show DataW.trod enc Tryd.prog w 0 spare held n' 24 [c2] = some z2 from f2)
    obtain ⟨p, h3, _, w3⟩ := DataW.trod_int Tryd.underlying25 f3
    obtain ⟨q, h4, _, w4⟩ := DataW.trod_int Tryd.underlying25 f4
    obtain ⟨t, h5, _, w5⟩ := DataW.trod_int Tryd.underlying3 f5
    simp at h3 h4 h5
    subst h3 h4 h5
    have b3 := Go.bounds_u32 w3
    have b4 := Go.bounds_u32 w4
    have b5 := Go.bounds_i64 w5
    exact ⟨⟨xc, xs', xo, p, q, t⟩, c0, c1, c2, rfl, ⟨hc1, k1, m1⟩, ⟨hc3, k3, m3, hc2, k2, m2, ⟨(by omega : (0 : Int) ≤ p), (by omega : p ≤ 4294967295)⟩, ⟨(by omega : (0 : Int) ≤ q), (by omega : q ≤ 4294967295)⟩, ⟨(by omega : (-9223372036854775808 : Int) ≤ t), (by omega : t ≤ 9223372036854775807)⟩⟩⟩
theorem rd_job {r : Reach} {b0 : Nat} {v : Value} {d : DataW H} {p : List MemPlace} (hv : Value.okWide Tryd.prog w r b0 27 v) (h : DataW.Trod enc Tryd.prog w 0 spare held 27 v d p) :
    ∃ (z : JobD) (vc vs vo : Value), v = jobV z vc vs vo ∧ JobAt w w.heap.size vc vs vo z ∧ z.Ok := by
  obtain ⟨cs, rfl, hsz⟩ := okWide_struct Tryd.underlying27 hv
  rw [rc27] at hsz
  obtain ⟨fuel, hf0⟩ := h
  obtain ⟨l⟩ := cs
  match l, hsz with
  | [c0, c1, c2, c3, c4, c5], _ =>
    obtain ⟨z, vc, vs, vo, he, h1, h2⟩ := rd_job6 (show DataW.trod enc Tryd.prog w 0 spare held fuel 27 [c0, c1, c2, c3, c4, c5] = some (d, p) from hf0)
    exact ⟨z, vc, vs, vo, by rw [he]; rfl, h1, h2⟩
end

end Go.Proofs.YtjclklppnkoehaaDoor

namespace Go.Proofs.YtjclklppnkoehaaDoor
open Go.RowKit
set_option maxRecDepth 100000

/-- What the rows list. -/
def laid1 : List (String × DataW Unit) := [("errors.errorType", Rows.laid_errors_errorType)]
theorem gErr : Tryd.prog.globalNamed "errors.errorType" = some 0 := by kernel_rfl
theorem rtErr : (Tryd.prog.cutTypes.find? (·.1 == "internal/reflectlite.rtype")).map (·.2) = some 136 := by kernel_rfl
theorem oneErr : ((List.range 197).filter fun t => Tryd.prog.rowNamed t [101, 114, 114, 111, 114]) = [38] := by kernel_rfl
theorem sizeErr : Tryd.prog.types.size = 197 := by kernel_rfl
/-- What the rows say of the variable, as the walks want it. -/
theorem errdoor_of {W : World} (h : laidMetH Tryd.prog laid1 W) : ErrDoor W := by
  have h' : laidMet Tryd.prog [] W ∧ handlesMet Tryd.prog laid1 W := h
  obtain ⟨name, u, ty, e1, e2, e3, e4, e5⟩ := h'.2 _ (List.mem_singleton.2 rfl)
  have en : name = [101, 114, 114, 111, 114] := (Option.some.inj e1).symm
  subst en
  obtain rfl := Option.some.inj (rtErr.symm.trans e2)
  have hm : ty ∈ (List.range 197).filter fun t => Tryd.prog.rowNamed t [101, 114, 114, 111, 114] := List.mem_filter.2 ⟨List.mem_range.2 (by rw [← sizeErr]; exact e3), e4⟩
  rw [oneErr] at hm
  obtain rfl := List.mem_singleton.1 hm
  have hh : typeHandle Tryd.prog 38 = .pointer (some ⟨1, 38, none⟩) := by kernel_rfl
  rw [hh] at e5
  unfold ErrDoor
  simpa using World.var?_cell gErr e5 0
/-- A world that meets the condition. -/
noncomputable def laidWorld (os : Os) : World :=
  let w0 := World.holding Tryd.prog os ⟨#[], #[], []⟩
  { w0 with heap := w0.heap.modify 0 fun
      | .cells _ t frozen => .cells #[.iface 136 (.agg #[.pointer (some ⟨1, 38, none⟩)])] t frozen
      | o => o }
theorem laidWorld_met (os : Os) (args : Array Value) : laidMetH Tryd.prog laid1 ((laidWorld os).forCall (fun _ _ => 0) ⟨#[], args, []⟩).memory :=
  laidMetH_of_parts (laidMet_nil _ _) (by kernel_rfl)

end Go.Proofs.YtjclklppnkoehaaDoor
