/-
  The closures by which a transaction's parts are written.
-/
import Derived.Test.YtfobdefncbaooaaDoorBld
import Derived.Shelf.Abstract
namespace Go.Proofs.YtfobdefncbaooaaDoor
open Go.RowKit

/-- A write by a closure. -/
def Wrote (B b : Nat) (t s : ByteArray) (w : World) (e : Ending) (w' : World) : Prop := e = .returned (.tuple #[]) ∧ Bld B b (t ++ s) w' ∧ Frm B b w w'

theorem Bld.below {B b : Nat} {s : ByteArray} {w w' : World} (h : Bld B b s w) (hb : Below w.heap.size w w') : Bld B b s w' := by
  have go : ∀ p, Lib.BuilderAt 92 5 B b p (Lib.strCells s) w → Lib.BuilderAt 92 5 B b p (Lib.strCells s) w' := by
    rintro p ⟨hB, v, hbk, hown, hne⟩
    have hlt : b < w.heap.size := by
      rcases Nat.lt_or_ge b w.heap.size with h' | h'
      · exact h'
      · rw [Array.getElem?_eq_none h'] at hbk; cases hbk
    refine ⟨hB, v, (hb.block b hlt).trans hbk, ⟨hown.1, ?_⟩, hne⟩
    rcases hown.2 with h0 | ⟨g, cap, cur, hv, h1, hg, r⟩
    · exact .inl h0
    · have hgl : g < w.heap.size := by
        rcases Nat.lt_or_ge g w.heap.size with h' | h'
        · exact h'
        · rw [Array.getElem?_eq_none h'] at hg; cases hg
      exact .inr ⟨g, cap, cur, hv, h1, (hb.block g hgl).trans hg, r⟩
  rcases h with h | h
  · exact .inl (go _ h)
  · exact .inr (go _ h)
theorem Bld.lt {B b : Nat} {s : ByteArray} {w : World} (h : Bld B b s w) : B ≤ b ∧ b < w.heap.size := by
  rcases h with h | h
  · exact ⟨h.1, h.lt⟩
  · exact ⟨h.1, h.lt⟩

set_option maxHeartbeats 1000000 in
set_option maxRecDepth 100000 in
theorem number_any (B b : Nat) (t : ByteArray) (n k : Int) (w : World) (h : Bld B b t w) (hlen : t.size + (Vi.putS n k).size ≤ 140737488355328) (h0 : 0 ≤ n) (h1 : n < 18446744073709551616) :
    Calls Tryd.prog 64 #[.int .u64 n, .int .i64 k, .pointer (some ⟨b, 0, none⟩)] w (Wrote B b t (Vi.putS n k) w) := by
  have HH := Lib.hid h
  have HL := Lib.hid hlen
  clear h hlen
  go_enter Tryd.func64, Tryd.ntmps64
  go_wp2_with fail
  refine (Vi.put_any n k _ h0 h1).mono ?_
  rintro e w1 ⟨rfl, hb1⟩
  have HB1 := Lib.hid hb1
  have Z1 := Lib.hid (show B ≤ w1.heap.size from by have := HH.out.lt; have := hb1.size; omega)
  clear hb1
  go_wp2_with fail
  refine (writeString_any B b t _ w1 (HH.out.below HB1.out) HL.out Z1.out).mono ?_
  rintro e w2 ⟨rfl, hB2, hf2⟩
  go_wp2_with fail
  go_end0
  exact ⟨rfl, hB2, ((Frm.refl B b w).below (by have := HH.out.lt; omega) HB1.out).trans hf2⟩

set_option maxHeartbeats 1000000 in
set_option maxRecDepth 100000 in
theorem count_any (B b : Nat) (t : ByteArray) (n : Nat) (w : World) (h : Bld B b t w) (hlen : t.size + (Vi.vstr n).size ≤ 140737488355328) (h1 : n < 9223372036854775808) :
    Calls Tryd.prog 67 #[.int .i64 (n : Int), .pointer (some ⟨b, 0, none⟩)] w (Wrote B b t (Vi.vstr n) w) := by
  have HH := Lib.hid h
  have HL := Lib.hid hlen
  clear h hlen
  have v1 : IntKind.u64.wrap (n : Int) = n := by rw [IntKind.wrap_u64]; omega
  go_enter Tryd.func67, Tryd.ntmps67
  go_wp2_with fail
  refine (Vi.vput_any (n : Int) _ (by omega) (by omega)).mono ?_
  rintro e w1 ⟨rfl, hb1⟩
  have HB1 := Lib.hid hb1
  have Z1 := Lib.hid (show B ≤ w1.heap.size from by have := HH.out.lt; have := hb1.size; omega)
  clear hb1
  go_wp2_with fail
  refine (writeString_any B b t _ w1 (HH.out.below HB1.out) HL.out Z1.out).mono ?_
  rintro e w2 ⟨rfl, hB2, hf2⟩
  go_wp2_with fail
  go_end0
  exact ⟨rfl, hB2, ((Frm.refl B b w).below (by have := HH.out.lt; omega) HB1.out).trans hf2⟩

theorem ent63 : ∀ args w, (callFunc 67 args).run Tryd.prog w = .ok (.enter 67 args) w := enters_of Tryd.func67 (by kernel_rfl) rfl

set_option maxHeartbeats 1000000 in
set_option maxRecDepth 100000 in
theorem counted_any (B b g : Nat) (t s : ByteArray) (w : World) (h : Bld B b t w) (hlen : t.size + (Vi.vstr s.size).size + s.size ≤ 140737488355328) (hs : s.size < 9223372036854775808) (hg : w.cell? ⟨g, 0, none⟩ = some (.func (.func 67) #[] #[.pointer (some ⟨b, 0, none⟩)])) :
    Calls Tryd.prog 69 #[.string s, .pointer (some ⟨g, 0, none⟩), .pointer (some ⟨b, 0, none⟩)] w (Wrote B b t (Vi.vstr s.size ++ s) w) := by
  have HH := Lib.hid h
  have HL := Lib.hid hlen
  clear h hlen
  go_enter Tryd.func69, Tryd.ntmps69
  go_wp2_with fail
  refine (count_any B b t s.size w HH.out (by have := HL.out; omega) hs).mono ?_
  rintro e w1 ⟨rfl, hB1, hf1⟩
  have HB1 := Lib.hid hB1
  have HF1 := Lib.hid hf1
  clear hB1 hf1
  go_wp2_with fail
  refine (writeString_any B b (t ++ Vi.vstr s.size) s w1 HB1.out (by have := HL.out; rw [ByteArray.size_append]; omega) (by have := HB1.out.lt; omega)).mono ?_
  rintro e w2 ⟨rfl, hB2, hf2⟩
  go_wp2_with fail
  go_end0
  exact ⟨rfl, by rw [← ByteArray.append_assoc]; exact hB2, HF1.out.trans hf2⟩

end Go.Proofs.YtfobdefncbaooaaDoor
