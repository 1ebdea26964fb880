/-
  What the statements of layer 12 are given: how it comes in.
-/
import Derived.Test.YtnmfjnfdnjjngaaGreatDoorMWkq
import Derived.ProofKit
import Derived.OpenShut
import Derived.ShutString
import Derived.ChangeOld
import Derived.Lib.SmallJoins
import Derived.Deep.Slices
import Derived.Deep.Strs
namespace Go.Proofs.YtnmfjnfdnjjngaaGreatDoor
open Go.ChangeShapes Go.WideShapes Go.ChangeAt Go.RowKit Go.Joins Go.Deep
set_option maxRecDepth 100000

section
variable {H : Type} {enc : TypeId × Value → H} {w : World} {spare : Nat → Bool} {held : Bool}

theorem rc3 : Tryz.prog.cellsOf 3 = 1 := by kernel_rfl
theorem rc4 : Tryz.prog.cellsOf 4 = 1 := by kernel_rfl
theorem rc5 : Tryz.prog.cellsOf 5 = 1 := by kernel_rfl
theorem rc9 : Tryz.prog.cellsOf 9 = 1 := by kernel_rfl
theorem rc22 : Tryz.prog.cellsOf 22 = 1 := by kernel_rfl
theorem rc26 : Tryz.prog.cellsOf 26 = 1 := by kernel_rfl
theorem rc27 : Tryz.prog.cellsOf 27 = 1 := by kernel_rfl
theorem rc47 : Tryz.prog.cellsOf 47 = 1 := by kernel_rfl
theorem rc48 : Tryz.prog.cellsOf 48 = 1 := by kernel_rfl
theorem rc49 : Tryz.prog.cellsOf 49 = 1 := by kernel_rfl
theorem rc51 : Tryz.prog.cellsOf 51 = 4 := by kernel_rfl
theorem rc60 : Tryz.prog.cellsOf 60 = 2 := by kernel_rfl
theorem rc62 : Tryz.prog.cellsOf 62 = 2 := by kernel_rfl
theorem rc79 : Tryz.prog.cellsOf 79 = 1 := by kernel_rfl
theorem rc80 : Tryz.prog.cellsOf 80 = 1 := by kernel_rfl
theorem rc82 : Tryz.prog.cellsOf 82 = 9 := by kernel_rfl
theorem rc105 : Tryz.prog.cellsOf 105 = 1 := by kernel_rfl
theorem rc107 : Tryz.prog.cellsOf 107 = 4 := by kernel_rfl
theorem rd_zero (a : Addr) : a.add 0 = a := by simp [Addr.add]
theorem rd_none {a : Addr} {v : Value} (h : w.cell? a = some v) : ∃ b off, a = ⟨b, off, none⟩ ∧ b < w.heap.size := by
  obtain ⟨b, off, spot⟩ := a
  have hs : spot = none := World.cell?_spot h
  subst hs
  exact ⟨b, off, rfl, World.block_lt_of_cell? w _ h⟩
/-- A list of anything. -/
theorem rd_lst {α : Type} {At : World → Nat → Nat → α → Prop} {G : α → Prop} {sl e : TypeId} {sz : Nat} (d : α) (hu : Tryz.prog.underlying sl = some (.slice e)) (hce : Tryz.prog.cellsOf e = sz) (hsz : 0 < sz)
    (one : ∀ (n : Nat) (cs : List Value) (x : DataW H × List MemPlace), DataW.trod enc Tryz.prog w 0 spare held n e cs = some x → ∃ y : α, G y ∧ ∀ (b o : Nat), (∀ i u, cs[i]? = some u → w.cell? ⟨b, o + i, none⟩ = some u) → At w b o y)
    {fuel : Nat} {v : Value} {x : DataW H × List MemPlace} (h : DataW.trod enc Tryz.prog w 0 spare held fuel sl [v] = some x) : ∃ ys, Lst At sz w 0 w.heap.size v ys ∧ ys.length ≤ maxLen ∧ ∀ y ∈ ys, G y := by
  rcases open_slice hu h with ⟨hc, _⟩ | ⟨a, len, cap, m, n, D, Pl, hc, _, hl, hm, hmm, _, hx⟩
  · simp at hc
    subst hc
    exact ⟨[], ⟨none, 0, rfl, Nat.le_refl _, .inl rfl⟩, by simp, by simp⟩
  · simp at hc
    subst hc
    rw [hce] at hx
    have hml : len ≤ m := by rw [hmm]; split <;> omega
    have hin : ∀ i, i < len → ∃ y : α, G y ∧ ∀ b off, a = ⟨b, off, none⟩ → At w b (off + i * sz) y := fun i hi => by
      obtain ⟨cs, h1, h2⟩ := hx i (by omega)
      obtain ⟨_, hlen, hc⟩ := World.cells?_some h1
      obtain ⟨y, hg, hat⟩ := one _ _ _ h2
      refine ⟨y, hg, fun b off ha => hat b (off + i * sz) fun j u hj => ?_⟩
      have := hc j (by have := (List.getElem?_eq_some_iff.1 hj).1; omega)
      rw [ha, Addr.add_lit, Addr.add_lit] at this
      exact this.trans hj
    have : Inhabited α := ⟨d⟩
    obtain ⟨F, hF⟩ := choose_lt (α := α) hin
    refine ⟨(List.range len).map F, ⟨some a, cap, by simp, by simpa using hl, ?_⟩, by simp; omega, ?_⟩
    · by_cases h0 : len = 0
      · subst h0; exact .inl (by simp)
      · obtain ⟨cs, h1, _⟩ := hx 0 (by omega)
        obtain ⟨_, hlen, hc⟩ := World.cells?_some h1
        have q0 := hc 0 hsz
        rw [Nat.zero_mul, rd_zero, rd_zero] at q0
        have hcs : ∃ u, cs[0]? = some u := ⟨_, List.getElem?_eq_getElem (by omega)⟩
        obtain ⟨u, hu0⟩ := hcs
        obtain ⟨b, off, rfl, hb⟩ := rd_none (q0.trans hu0)
        refine .inr ⟨b, off, rfl, Nat.zero_le _, hb, fun k s hk => ?_⟩
        have hkl : k < len := by have := (List.getElem?_eq_some_iff.1 hk).1; simpa using this
        simp [hkl] at hk
        subst hk
        exact (hF k hkl).2 b off rfl
    · intro y hy
      obtain ⟨i, hi, rfl⟩ := List.mem_map.1 hy
      exact (hF i (List.mem_range.1 hi)).1

theorem rd_strs {fuel : Nat} {v : Value} {x : DataW H × List MemPlace} (h : DataW.trod enc Tryz.prog w 0 spare held fuel 105 [v] = some x) : ∃ ss, Strs w 0 w.heap.size v ss ∧ ss.length ≤ maxLen ∧ ∀ s ∈ ss, s.size ≤ maxLen := by
  obtain ⟨ys, ⟨A, c, hv, hc, h⟩, h2, h3⟩ := rd_lst (At := fun w b o (s : ByteArray) => w.cell? ⟨b, o, none⟩ = some (.string s)) (G := fun s => s.size ≤ maxLen) (d := ByteArray.empty) Tryz.underlying105 rc9 (by decide) (fun _ cs _ h => by
    obtain ⟨s, hs, _, hz⟩ := DataW.trod_string Tryz.underlying9 h
    exact ⟨s, hz, fun b o hc => hc 0 _ (by rw [hs]; rfl)⟩) h
  refine ⟨ys, ⟨A, c, hv, hc, ?_⟩, h2, h3⟩
  rcases h with h | ⟨b, off, rfl, h4, h5, h6⟩
  · exact .inl h
  · exact .inr ⟨b, off, rfl, h4, h5, fun k s hk => by have := h6 k s hk; rwa [Nat.mul_one] at this⟩
theorem rd_pt {fuel : Nat} {cs : List Value} {x : DataW H × List MemPlace} (h : DataW.trod enc Tryz.prog w 0 spare held fuel 60 cs = some x) :
    ∃ (s : ByteArray) (q : Int), cs = [.string s, .int .u32 q] ∧ s.size ≤ maxLen ∧ 0 ≤ q ∧ q ≤ 4294967295 := by
  obtain ⟨xs, n', _, _, hlen, hxl, hf⟩ := DataW.trod_struct Tryz.underlying60 h
  rw [rc60] at hlen
  match cs, hlen with
  | [c0, c1], _ =>
    have f0 : DataW.trod enc Tryz.prog w 0 spare held n' 9 (([c0, c1].drop 0).take (Tryz.prog.cellsOf 9)) = xs[0]? := hf 0 _ rfl
    rw [rc9] at f0
    have f1 : DataW.trod enc Tryz.prog w 0 spare held n' 47 (([c0, c1].drop 1).take (Tryz.prog.cellsOf 47)) = xs[1]? := hf 1 _ rfl
    rw [rc47] at f1
    have hxl2 : xs.length = 2 := hxl
    obtain ⟨z0, e0⟩ : ∃ z, xs[0]? = some z := ⟨_, List.getElem?_eq_getElem (by omega)⟩
    rw [e0] at f0
    obtain ⟨z1, e1⟩ : ∃ z, xs[1]? = some z := ⟨_, List.getElem?_eq_getElem (by omega)⟩
    rw [e1] at f1
    obtain ⟨s, h0, _, w0⟩ := DataW.trod_string Tryz.underlying9 f0
    obtain ⟨q, h1, _, w1⟩ := DataW.trod_int Tryz.underlying47 f1
    simp at h0 h1
    subst h0 h1
    have b1 := Go.bounds_u32 w1
    exact ⟨s, q, rfl, w0, by omega, by omega⟩
theorem rd_in {fuel : Nat} {cs : List Value} {x : DataW H × List MemPlace} (h : DataW.trod enc Tryz.prog w 0 spare held fuel 107 cs = some x) :
    ∃ y : InD, y.Any ∧ ∀ (b o : Nat), (∀ i u, cs[i]? = some u → w.cell? ⟨b, o + i, none⟩ = some u) → InAt w 0 w.heap.size b o y := by
  obtain ⟨xs, n', _, _, hlen, hxl, hf⟩ := DataW.trod_struct Tryz.underlying107 h
  rw [rc107] at hlen
  match cs, hlen with
  | [c0, c1, c2, c3], _ =>
    have f0 : DataW.trod enc Tryz.prog w 0 spare held n' 60 (([c0, c1, c2, c3].drop 0).take (Tryz.prog.cellsOf 60)) = xs[0]? := hf 0 _ rfl
    rw [rc60] at f0
    have f1 : DataW.trod enc Tryz.prog w 0 spare held n' 47 (([c0, c1, c2, c3].drop 2).take (Tryz.prog.cellsOf 47)) = xs[1]? := hf 1 _ rfl
    rw [rc47] at f1
    have f2 : DataW.trod enc Tryz.prog w 0 spare held n' 105 (([c0, c1, c2, c3].drop 3).take (Tryz.prog.cellsOf 105)) = xs[2]? := hf 2 _ rfl
    rw [rc105] at f2
    have hxl2 : xs.length = 3 := hxl
    obtain ⟨z0, e0⟩ : ∃ z, xs[0]? = some z := ⟨_, List.getElem?_eq_getElem (by omega)⟩
    rw [e0] at f0
    obtain ⟨z1, e1⟩ : ∃ z, xs[1]? = some z := ⟨_, List.getElem?_eq_getElem (by omega)⟩
    rw [e1] at f1
    obtain ⟨z2, e2⟩ : ∃ z, xs[2]? = some z := ⟨_, List.getElem?_eq_getElem (by omega)⟩
    rw [e2] at f2
    obtain ⟨s, i, hp, hsz, i1, i2⟩ := rd_pt (show DataW.trod enc Tryz.prog w 0 spare held n' 60 [c0, c1] = some z0 from f0)
    obtain ⟨q, h1, _, w1⟩ := DataW.trod_int Tryz.underlying47 f1
    obtain ⟨ss, hss, hsl, hse⟩ := rd_strs (show DataW.trod enc Tryz.prog w 0 spare held n' 105 [c3] = some z2 from f2)
    simp at h1
    subst h1
    have b1 := Go.bounds_u32 w1
    simp at hp
    obtain ⟨rfl, rfl⟩ := hp
    exact ⟨⟨s, i, q, ss⟩, ⟨hsz, i1, i2, (by omega : (0 : Int) ≤ q), (by omega : q ≤ 4294967295), hsl, hse⟩, fun b o hc => ⟨hc 0 _ rfl, hc 1 _ rfl, hc 2 _ rfl, c3, hc 3 _ rfl, hss⟩⟩
theorem rd_out {fuel : Nat} {cs : List Value} {x : DataW H × List MemPlace} (h : DataW.trod enc Tryz.prog w 0 spare held fuel 62 cs = some x) :
    ∃ y : OutD, y.Any ∧ ∀ (b o : Nat), (∀ i u, cs[i]? = some u → w.cell? ⟨b, o + i, none⟩ = some u) → OutAt w b o y := by
  obtain ⟨xs, n', _, _, hlen, hxl, hf⟩ := DataW.trod_struct Tryz.underlying62 h
  rw [rc62] at hlen
  match cs, hlen with
  | [c0, c1], _ =>
    have f0 : DataW.trod enc Tryz.prog w 0 spare held n' 3 (([c0, c1].drop 0).take (Tryz.prog.cellsOf 3)) = xs[0]? := hf 0 _ rfl
    rw [rc3] at f0
    have f1 : DataW.trod enc Tryz.prog w 0 spare held n' 9 (([c0, c1].drop 1).take (Tryz.prog.cellsOf 9)) = xs[1]? := hf 1 _ rfl
    rw [rc9] at f1
    have hxl2 : xs.length = 2 := hxl
    obtain ⟨z0, e0⟩ : ∃ z, xs[0]? = some z := ⟨_, List.getElem?_eq_getElem (by omega)⟩
    rw [e0] at f0
    obtain ⟨z1, e1⟩ : ∃ z, xs[1]? = some z := ⟨_, List.getElem?_eq_getElem (by omega)⟩
    rw [e1] at f1
    obtain ⟨q, h0, _, w0⟩ := DataW.trod_int Tryz.underlying3 f0
    obtain ⟨s, h1, _, w1⟩ := DataW.trod_string Tryz.underlying9 f1
    simp at h0 h1
    subst h0 h1
    have b0 := Go.bounds_i64 w0
    exact ⟨⟨q, s⟩, ⟨(by omega : (-9223372036854775808 : Int) ≤ q), (by omega : q ≤ 9223372036854775807), w1⟩, fun b o hc => ⟨hc 0 _ rfl, hc 1 _ rfl⟩⟩
theorem rd_byts {fuel : Nat} {v : Value} {x : DataW H × List MemPlace} (h : DataW.trod enc Tryz.prog w 0 spare held fuel 79 [v] = some x) : ∃ ys, Byts w 0 w.heap.size v ys ∧ ys.length ≤ maxLen ∧ ∀ y ∈ ys, 0 ≤ y ∧ y ≤ 255 :=
  rd_lst (At := fun w b o (x : Int) => w.cell? ⟨b, o, none⟩ = some (.int .u8 x)) (G := fun y => 0 ≤ y ∧ y ≤ 255) (d := 0) Tryz.underlying79 rc5 (by decide) (fun _ cs _ h => by
    obtain ⟨a, hs, _, hz⟩ := DataW.trod_int Tryz.underlying5 h
    have hb := Go.bounds_u8 hz
    exact ⟨a, ⟨by omega, by omega⟩, fun b o hc => hc 0 _ (by rw [hs]; rfl)⟩) h
theorem rd_sm {fuel : Nat} {cs : List Value} {x : DataW H × List MemPlace} (h : DataW.trod enc Tryz.prog w 0 spare held fuel 82 cs = some x) :
    ∃ y : SmD, y.Ok ∧ ∀ (b o : Nat), (∀ i u, cs[i]? = some u → w.cell? ⟨b, o + i, none⟩ = some u) → SmAt 0 w.heap.size w b o y := by
  obtain ⟨xs, n', _, _, hlen, hxl, hf⟩ := DataW.trod_struct Tryz.underlying82 h
  rw [rc82] at hlen
  match cs, hlen with
  | [c0, c1, c2, c3, c4, c5, c6, c7, c8], _ =>
    have f0 : DataW.trod enc Tryz.prog w 0 spare held n' 79 (([c0, c1, c2, c3, c4, c5, c6, c7, c8].drop 0).take (Tryz.prog.cellsOf 79)) = xs[0]? := hf 0 _ rfl
    rw [rc79] at f0
    have f1 : DataW.trod enc Tryz.prog w 0 spare held n' 5 (([c0, c1, c2, c3, c4, c5, c6, c7, c8].drop 1).take (Tryz.prog.cellsOf 5)) = xs[1]? := hf 1 _ rfl
    rw [rc5] at f1
    have f2 : DataW.trod enc Tryz.prog w 0 spare held n' 80 (([c0, c1, c2, c3, c4, c5, c6, c7, c8].drop 2).take (Tryz.prog.cellsOf 80)) = xs[2]? := hf 2 _ rfl
    rw [rc80] at f2
    have f3 : DataW.trod enc Tryz.prog w 0 spare held n' 80 (([c0, c1, c2, c3, c4, c5, c6, c7, c8].drop 3).take (Tryz.prog.cellsOf 80)) = xs[3]? := hf 3 _ rfl
    rw [rc80] at f3
    have f4 : DataW.trod enc Tryz.prog w 0 spare held n' 5 (([c0, c1, c2, c3, c4, c5, c6, c7, c8].drop 4).take (Tryz.prog.cellsOf 5)) = xs[4]? := hf 4 _ rfl
    rw [rc5] at f4
    have f5 : DataW.trod enc Tryz.prog w 0 spare held n' 5 (([c0, c1, c2, c3, c4, c5, c6, c7, c8].drop 5).take (Tryz.prog.cellsOf 5)) = xs[5]? := hf 5 _ rfl
    rw [rc5] at f5
    have f6 : DataW.trod enc Tryz.prog w 0 spare held n' 5 (([c0, c1, c2, c3, c4, c5, c6, c7, c8].drop 6).take (Tryz.prog.cellsOf 5)) = xs[6]? := hf 6 _ rfl
    rw [rc5] at f6
    have f7 : DataW.trod enc Tryz.prog w 0 spare held n' 4 (([c0, c1, c2, c3, c4, c5, c6, c7, c8].drop 7).take (Tryz.prog.cellsOf 4)) = xs[7]? := hf 7 _ rfl
    rw [rc4] at f7
    have f8 : DataW.trod enc Tryz.prog w 0 spare held n' 4 (([c0, c1, c2, c3, c4, c5, c6, c7, c8].drop 8).take (Tryz.prog.cellsOf 4)) = xs[8]? := hf 8 _ rfl
    rw [rc4] at f8
    have hxl2 : xs.length = 9 := hxl
    obtain ⟨z0, e0⟩ : ∃ z, xs[0]? = some z := ⟨_, List.getElem?_eq_getElem (by omega)⟩
    rw [e0] at f0
    obtain ⟨z1, e1⟩ : ∃ z, xs[1]? = some z := ⟨_, List.getElem?_eq_getElem (by omega)⟩
    rw [e1] at f1
    obtain ⟨z2, e2⟩ : ∃ z, xs[2]? = some z := ⟨_, List.getElem?_eq_getElem (by omega)⟩
    rw [e2] at f2
    obtain ⟨z3, e3⟩ : ∃ z, xs[3]? = some z := ⟨_, List.getElem?_eq_getElem (by omega)⟩
    rw [e3] at f3
    obtain ⟨z4, e4⟩ : ∃ z, xs[4]? = some z := ⟨_, List.getElem?_eq_getElem (by omega)⟩
    rw [e4] at f4
    obtain ⟨z5, e5⟩ : ∃ z, xs[5]? = some z := ⟨_, List.getElem?_eq_getElem (by omega)⟩
    rw [e5] at f5
    obtain ⟨z6, e6⟩ : ∃ z, xs[6]? = some z := ⟨_, List.getElem?_eq_getElem (by omega)⟩
    rw [e6] at f6
    obtain ⟨z7, e7⟩ : ∃ z, xs[7]? = some z := ⟨_, List.getElem?_eq_getElem (by omega)⟩
    rw [e7] at f7
    obtain ⟨z8, e8⟩ : ∃ z, xs[8]? = some z := ⟨_, List.getElem?_eq_getElem (by omega)⟩
    rw [e8] at f8
    obtain ⟨bs, hbs, hbl, hbo⟩ := rd_byts (show DataW.trod enc Tryz.prog w 0 spare held n' 79 [c0] = some z0 from f0)
    obtain ⟨i, h1, _, w1⟩ := DataW.trod_int Tryz.underlying5 f1
    obtain ⟨j, h2, _, w2⟩ := DataW.trod_int Tryz.underlying80 f2
    obtain ⟨k, h3, _, w3⟩ := DataW.trod_int Tryz.underlying80 f3
    obtain ⟨l, h4, _, w4⟩ := DataW.trod_int Tryz.underlying5 f4
    obtain ⟨m, h5, _, w5⟩ := DataW.trod_int Tryz.underlying5 f5
    obtain ⟨n, h6, _, w6⟩ := DataW.trod_int Tryz.underlying5 f6
    obtain ⟨p, h7, _⟩ := DataW.trod_bool Tryz.underlying4 f7
    obtain ⟨q, h8, _⟩ := DataW.trod_bool Tryz.underlying4 f8
    simp at h1 h2 h3 h4 h5 h6 h7 h8
    subst h1 h2 h3 h4 h5 h6 h7 h8
    have b1 := Go.bounds_u8 w1
    have b2 := Go.bounds_u16 w2
    have b3 := Go.bounds_u16 w3
    have b4 := Go.bounds_u8 w4
    have b5 := Go.bounds_u8 w5
    have b6 := Go.bounds_u8 w6
    exact ⟨⟨bs, i, j, k, l, m, n, p, q⟩, ⟨hbl, hbo, ⟨(by omega : (0 : Int) ≤ i), (by omega : i ≤ 255)⟩, ⟨(by omega : (0 : Int) ≤ j), (by omega : j ≤ 65535)⟩, ⟨(by omega : (0 : Int) ≤ k), (by omega : k ≤ 65535)⟩, ⟨(by omega : (0 : Int) ≤ l), (by omega : l ≤ 255)⟩, ⟨(by omega : (0 : Int) ≤ m), (by omega : m ≤ 255)⟩, (by omega : (0 : Int) ≤ n), (by omega : n ≤ 255)⟩, fun b o hc => ⟨⟨c0, hc 0 _ rfl, hbs⟩, hc 1 _ rfl, hc 2 _ rfl, hc 3 _ rfl, hc 4 _ rfl, hc 5 _ rfl, hc 6 _ rfl, hc 7 _ rfl, hc 8 _ rfl⟩⟩
theorem rd_sms {fuel : Nat} {v : Value} {x : DataW H × List MemPlace} (h : DataW.trod enc Tryz.prog w 0 spare held fuel 26 [v] = some x) : ∃ ys, Sms w 0 w.heap.size v ys ∧ SmsOk ys :=
  rd_lst (At := SmAt 0 w.heap.size) (d := ⟨[], 0, 0, 0, 0, 0, 0, false, false⟩) Tryz.underlying26 rc82 (by decide) (fun _ _ _ h => rd_sm h) h
theorem rd_bks {fuel : Nat} {v : Value} {x : DataW H × List MemPlace} (h : DataW.trod enc Tryz.prog w 0 spare held fuel 22 [v] = some x) : ∃ ys, Bks w 0 w.heap.size v ys ∧ BksOk ys :=
  rd_lst (At := fun w b o zs => ∃ v, w.cell? ⟨b, o, none⟩ = some v ∧ Sms w 0 w.heap.size v zs) (G := SmsOk) (d := []) Tryz.underlying22 rc26 (by decide) (fun _ cs _ h => by
    have hcs : ∃ u, cs = [u] := by
      rcases open_slice Tryz.underlying26 h with ⟨hc, _⟩ | ⟨_, _, _, _, _, _, _, hc, _⟩ <;> exact ⟨_, hc⟩
    obtain ⟨u, rfl⟩ := hcs
    obtain ⟨y, hy, hg⟩ := rd_sms h
    exact ⟨y, hg, fun b o hc => ⟨u, hc 0 _ rfl, hy⟩⟩) h
theorem rd_ins {fuel : Nat} {v : Value} {x : DataW H × List MemPlace} (h : DataW.trod enc Tryz.prog w 0 spare held fuel 48 [v] = some x) : ∃ ys, Ins w 0 w.heap.size v ys ∧ ys.length ≤ maxLen ∧ ∀ y ∈ ys, y.Any :=
  rd_lst (At := fun w' b o x => InAt w' 0 w.heap.size b o x) (d := ⟨⟨#[]⟩, 0, 0, []⟩) Tryz.underlying48 rc107 (by decide) (fun _ _ _ h => rd_in h) h
theorem rd_outs {fuel : Nat} {v : Value} {x : DataW H × List MemPlace} (h : DataW.trod enc Tryz.prog w 0 spare held fuel 49 [v] = some x) : ∃ ys, Outs w 0 w.heap.size v ys ∧ ys.length ≤ maxLen ∧ ∀ y ∈ ys, y.Any :=
  rd_lst (At := OutAt) (d := ⟨0, ⟨#[]⟩⟩) Tryz.underlying49 rc62 (by decide) (fun _ _ _ h => rd_out h) h
theorem rd_tx {fuel : Nat} {cs : List Value} {x : DataW H × List MemPlace} (h : DataW.trod enc Tryz.prog w 0 spare held fuel 51 cs = some x) :
    ∃ y : TxD, y.Any ∧ ∀ (b o : Nat), (∀ i u, cs[i]? = some u → w.cell? ⟨b, o + i, none⟩ = some u) → TxC 0 w.heap.size w b o y := by
  obtain ⟨xs, n', _, _, hlen, hxl, hf⟩ := DataW.trod_struct Tryz.underlying51 h
  rw [rc51] at hlen
  match cs, hlen with
  | [c0, c1, c2, c3], _ =>
    have f0 : DataW.trod enc Tryz.prog w 0 spare held n' 47 (([c0, c1, c2, c3].drop 0).take (Tryz.prog.cellsOf 47)) = xs[0]? := hf 0 _ rfl
    rw [rc47] at f0
    have f1 : DataW.trod enc Tryz.prog w 0 spare held n' 48 (([c0, c1, c2, c3].drop 1).take (Tryz.prog.cellsOf 48)) = xs[1]? := hf 1 _ rfl
    rw [rc48] at f1
    have f2 : DataW.trod enc Tryz.prog w 0 spare held n' 49 (([c0, c1, c2, c3].drop 2).take (Tryz.prog.cellsOf 49)) = xs[2]? := hf 2 _ rfl
    rw [rc49] at f2
    have f3 : DataW.trod enc Tryz.prog w 0 spare held n' 47 (([c0, c1, c2, c3].drop 3).take (Tryz.prog.cellsOf 47)) = xs[3]? := hf 3 _ rfl
    rw [rc47] at f3
    have hxl2 : xs.length = 4 := hxl
    obtain ⟨z0, e0⟩ : ∃ z, xs[0]? = some z := ⟨_, List.getElem?_eq_getElem (by omega)⟩
    rw [e0] at f0
    obtain ⟨z1, e1⟩ : ∃ z, xs[1]? = some z := ⟨_, List.getElem?_eq_getElem (by omega)⟩
    rw [e1] at f1
    obtain ⟨z2, e2⟩ : ∃ z, xs[2]? = some z := ⟨_, List.getElem?_eq_getElem (by omega)⟩
    rw [e2] at f2
    obtain ⟨z3, e3⟩ : ∃ z, xs[3]? = some z := ⟨_, List.getElem?_eq_getElem (by omega)⟩
    rw [e3] at f3
    obtain ⟨i, h0, _, w0⟩ := DataW.trod_int Tryz.underlying47 f0
    obtain ⟨xs1, g1, g2, g3⟩ := rd_ins (show DataW.trod enc Tryz.prog w 0 spare held n' 48 [c1] = some z1 from f1)
    obtain ⟨xs2, k1, k2, k3⟩ := rd_outs (show DataW.trod enc Tryz.prog w 0 spare held n' 49 [c2] = some z2 from f2)
    obtain ⟨j, h3, _, w3⟩ := DataW.trod_int Tryz.underlying47 f3
    simp at h0 h3
    subst h0 h3
    have b0 := Go.bounds_u32 w0
    have b3 := Go.bounds_u32 w3
    exact ⟨⟨i, xs1, xs2, j⟩, ⟨g2, k2, g3, k3, (by omega : (0 : Int) ≤ i), (by omega : i ≤ 4294967295), (by omega : (0 : Int) ≤ j), (by omega : j ≤ 4294967295)⟩, fun b o hc => ⟨hc 0 _ rfl, ⟨c1, c2, hc 1 _ rfl, hc 2 _ rfl, g1, k1⟩, hc 3 _ rfl⟩⟩
theorem rd_txs {fuel : Nat} {v : Value} {x : DataW H × List MemPlace} (h : DataW.trod enc Tryz.prog w 0 spare held fuel 27 [v] = some x) : ∃ ys, Txs w 0 w.heap.size v ys ∧ ys.length ≤ maxLen ∧ ∀ y ∈ ys, y.Any :=
  rd_lst (At := TxC 0 w.heap.size) (d := ⟨0, [], [], 0⟩) Tryz.underlying27 rc51 (by decide) (fun _ _ _ h => rd_tx h) h
end

end Go.Proofs.YtnmfjnfdnjjngaaGreatDoor
