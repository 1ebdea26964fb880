/-
  A strings.Builder that is written: what it holds, and what each write leaves as it was.
  The closures by which a transaction's parts are written.
  A transaction's bytes, as a function.
  What a builder holds, as a text.
-/
import Derived.Test.YtnmfjnfdnjjngaaGreatDoorMVimath
import Derived.Test.YtnmfjnfdnjjngaaGreatDoorMData
import Derived.Lib.Builder
import Derived.Lib.AppendStr
import Derived.Lib.UnsafeStr
import Derived.Lib.OthersKept
import Derived.Lib.BufferKept
import Derived.Lib.OwnKind
import Derived.Laws.Externs
import Derived.Shelf.Abstract
import Derived.Test.YtnmfjnfdnjjngaaGreatDoorMFind
import Derived.Shelf.Strings.Builder1

namespace Go.Proofs.YtnmfjnfdnjjngaaGreatDoor
open Go.RowKit
set_option maxRecDepth 100000

/-- The builder at b holds the bytes s, in memory from B on. -/
def Bld (B b : Nat) (s : ByteArray) (w : World) : Prop := Lib.IsBuilder 246 5 B b (Lib.strCells s) w
/-- What a write leaves as it was: all ahead of B, and every block that is neither the builder nor a row of bytes. -/
def Frm (B b : Nat) (w w' : World) : Prop := Below B w w' ∧ Lib.OthersKept 5 (some b) w w'
theorem Frm.refl (B b : Nat) (w : World) : Frm B b w w := ⟨Below.refl _ _, Lib.OthersKept.refl _ _ _⟩
theorem Frm.trans {B b : Nat} {u v w : World} (h : Frm B b u v) (k : Frm B b v w) : Frm B b u w := ⟨h.1.trans k.1, h.2.trans k.2⟩
theorem Frm.below {B b : Nat} {u v w : World} (h : Frm B b u v) (hB : B ≤ v.heap.size) (k : Below v.heap.size v w) : Frm B b u w := ⟨below_next h.1 hB k, h.2.below k⟩

theorem size93 : (Tryz.prog.info? 246).map (·.size) = some 2 := by kernel_rfl
theorem lies93 : liesAt Tryz.prog Tryz.prog.depth 246 (2 / Tryz.prog.cellsOf 246) 0 246 1 = true := by kernel_rfl
theorem byte5 : (Tryz.prog.info? 5).map (fun i => (i.zero, i.size, i.bytes)) = some (some (.int .u8 0), 1, 1) := by kernel_rfl

set_option maxHeartbeats 1000000 in
set_option maxRecDepth 100000 in
theorem copyCheck_used (b : Nat) (w : World) (h0 : w.cell? ⟨b, 0, none⟩ = some (.pointer (some ⟨b, 0, none⟩))) :
    Calls Tryz.prog 164 #[.pointer (some ⟨b, 0, none⟩)] w fun e w' => e = .returned (.tuple #[]) ∧ w' = w := by
  obtain ⟨j, hj, _⟩ := Option.map_eq_some_iff.1 size93
  have hq := Lib.run_neq_ptr_same w (⟨b, 0, none⟩ : Addr) Tryz.underlying244 hj
  go_enter Tryz.func164, Tryz.ntmps164
  go_wp2
  go_end0
  exact ⟨rfl, rfl⟩

theorem ent89 : ∀ (x : Value) (w : World), (callFunc 172 #[x]).run Tryz.prog w = .ok (.value x) w := fun x w => by
  rw [run_callFunc_extern Tryz.func172 (by kernel_rfl) (by kernel_rfl) (by kernel_rfl) (e := Extern.AbiNoEscape.same) (by kernel_rfl), Lib.run_noEscape]
  rfl

set_option maxHeartbeats 1000000 in
set_option maxRecDepth 100000 in
theorem copyCheck_fresh (b : Nat) (w : World) (h0 : w.cell? ⟨b, 0, none⟩ = some (.pointer none)) (hsh : w.shape? b = some (246, 2)) (hfz : w.frozen? ⟨b, 0, none⟩ = false) :
    Calls Tryz.prog 164 #[.pointer (some ⟨b, 0, none⟩)] w fun e w' => e = .returned (.tuple #[]) ∧ w' = w.setCell ⟨b, 0, none⟩ (.pointer (some ⟨b, 0, none⟩)) := by
  obtain ⟨j, hj, hjs⟩ := Option.map_eq_some_iff.1 size93
  have hto := Lib.run_to_unsafe w (⟨b, 0, none⟩ : Addr) Tryz.underlying244 Tryz.underlying137 hj (by rw [hjs]; decide) hsh (Nat.zero_lt_succ 1)
  have hfr := Lib.run_from_unsafe w (⟨b, 0, none⟩ : Addr) Tryz.underlying137 Tryz.underlying244 hj hsh lies93
  have hno := ent89
  go_enter Tryz.func164, Tryz.ntmps164
  go_wp2
  go_end0
  exact ⟨rfl, rfl⟩

theorem copyCheck_any (B b : Nat) (bs : List Value) (w : World) (h : Lib.IsBuilder 246 5 B b bs w) :
    Calls Tryz.prog 164 #[.pointer (some ⟨b, 0, none⟩)] w fun e w' => e = .returned (.tuple #[]) ∧ Lib.BuilderAt 246 5 B b (.pointer (some ⟨b, 0, none⟩)) bs w' ∧ Frm B b w w' := by
  rcases h with h | h
  · refine (copyCheck_fresh b w h.cell0 h.shape h.frozen0).mono ?_
    rintro e w' ⟨rfl, rfl⟩
    exact ⟨rfl, h.used _, (Below.refl B w).setCell (p := ⟨b, 0, none⟩) h.1 _, (Lib.OthersKept.refl 5 (some b) w).setCell ⟨b, 0, none⟩ rfl _⟩
  · refine (copyCheck_used b w h.cell0).mono ?_
    rintro e w' ⟨rfl, rfl⟩
    exact ⟨rfl, h, Frm.refl _ _ _⟩

set_option maxHeartbeats 2000000 in
set_option maxRecDepth 100000 in
theorem writeString_any (B b : Nat) (t s : ByteArray) (w : World) (h : Bld B b t w) (hlen : t.size + s.size ≤ 140737488355328) (hBw : B ≤ w.heap.size) :
    Calls Tryz.prog 154 #[.pointer (some ⟨b, 0, none⟩), .string s] w fun e w' => e = .returned (.tuple #[.int .i64 s.size, .nilIface]) ∧ Bld B b (t ++ s) w' ∧ Frm B b w w' := by
  obtain ⟨i0, hi, hz0, hz1, hz2⟩ := info_parts byte5
  have HL := Lib.hid hlen
  go_enter Tryz.func154, Tryz.ntmps154
  go_wp2_with (go_at_call 164; refine (copyCheck_any B b _ _ h).mono ?_)
  rintro e w1 ⟨rfl, ⟨hB, v, hbk, hown, hne⟩, hf1⟩
  have c0 : w1.cell? ⟨b, 0, none⟩ = some (.pointer (some ⟨b, 0, none⟩)) := by rw [Lib.cell_of_heap hbk]; rfl
  have c1 : w1.cell? ⟨b, 1, none⟩ = some v := by rw [Lib.cell_of_heap hbk]; rfl
  have z1 := hf1.1.size
  rw [Lib.strCells_length] at hown
  go_wp2_with (at_builtin; refine Lib.wpList_append_own_string _ rfl _ _ 79 9 rfl B 5 i0 Tryz.underlying79 Tryz.underlying9 hi hz0 hz1 hz2 _ _ _ rfl hown s rfl (by unfold maxLen; have := HL.out; omega) HL.out (by omega) ?_)
  intro v' w2 hown' hgrow _
  have hlt : b < w1.heap.size := by
    rcases Nat.lt_or_ge b w1.heap.size with h' | h'
    · exact h'
    · rw [Array.getElem?_eq_none h'] at hbk; cases hbk
  have hb2 : w2.heap[b]? = some (.cells #[.pointer (some ⟨b, 0, none⟩), v] 246 (0, 0)) := (hgrow.block b hlt (fun e => hne e.symm)).trans hbk
  have d0 : w2.cell? ⟨b, 0, none⟩ = some (.pointer (some ⟨b, 0, none⟩)) := by rw [Lib.cell_of_heap hb2]; rfl
  have d1 : w2.cell? ⟨b, 1, none⟩ = some v := by rw [Lib.cell_of_heap hb2]; rfl
  have f1 : w2.frozen? ⟨b, 1, none⟩ = false := Lib.frozen_of_heap hb2 1
  obtain ⟨ao, n', cap, hv'⟩ : ∃ ao n' cap, v' = .slice ao n' cap := by
    rcases hown'.2 with ⟨hv, _⟩ | ⟨g, cap, cur, hv, _⟩
    · exact ⟨_, _, _, hv⟩
    · exact ⟨_, _, _, hv⟩
  subst hv'
  go_wp2
  go_ret2
  have hcat : Lib.strCells t ++ Lib.strCells s = Lib.strCells (t ++ s) := by simp [Lib.strCells, ByteArray.data_append]
  have hsz : (Lib.strCells (t ++ s)).length = t.size + s.size := by rw [Lib.strCells_length, ByteArray.size_append]
  refine ⟨rfl, .inr ?_, ?_, ?_⟩
  · exact Lib.BuilderAt.put (T := 246) (e := 5) hB hb2 (bs' := Lib.strCells (t ++ s)) (by rw [hsz, ← hcat]; exact hown') (by decide)
  · exact (hf1.1.grown hgrow (by omega) (fun k hk => (hown.lt k hk).1)).setCell (p := ⟨b, 1, none⟩) hB _
  · exact (hf1.2.grown hgrow (Lib.ownsRow_kind hown)).setCell ⟨b, 1, none⟩ rfl _

end Go.Proofs.YtnmfjnfdnjjngaaGreatDoor

namespace Go.Proofs.YtnmfjnfdnjjngaaGreatDoor
open Go.RowKit
set_option maxRecDepth 100000

/-- A write by a closure. -/
def Wrote (B b : Nat) (t s : ByteArray) (w : World) (e : Ending) (w' : World) : Prop := e = .returned (.tuple #[]) ∧ Bld B b (t ++ s) w' ∧ Frm B b w w'

theorem Bld.below {B b : Nat} {s : ByteArray} {w w' : World} (h : Bld B b s w) (hb : Below w.heap.size w w') : Bld B b s w' := by
  have go : ∀ p, Lib.BuilderAt 246 5 B b p (Lib.strCells s) w → Lib.BuilderAt 246 5 B b p (Lib.strCells s) w' := by
    rintro p ⟨hB, v, hbk, hown, hne⟩
    have hlt : b < w.heap.size := by
      rcases Nat.lt_or_ge b w.heap.size with h' | h'
      · exact h'
      · rw [Array.getElem?_eq_none h'] at hbk; cases hbk
    refine ⟨hB, v, (hb.block b hlt).trans hbk, ⟨hown.1, ?_⟩, hne⟩
    rcases hown.2 with h0 | ⟨g, cap, cur, hv, h1, hg, r⟩
    · exact .inl h0
    · have hgl : g < w.heap.size := by
        rcases Nat.lt_or_ge g w.heap.size with h' | h'
        · exact h'
        · rw [Array.getElem?_eq_none h'] at hg; cases hg
      exact .inr ⟨g, cap, cur, hv, h1, (hb.block g hgl).trans hg, r⟩
  rcases h with h | h
  · exact .inl (go _ h)
  · exact .inr (go _ h)
theorem Bld.lt {B b : Nat} {s : ByteArray} {w : World} (h : Bld B b s w) : B ≤ b ∧ b < w.heap.size := by
  rcases h with h | h
  · exact ⟨h.1, h.lt⟩
  · exact ⟨h.1, h.lt⟩

set_option maxHeartbeats 1000000 in
set_option maxRecDepth 100000 in
theorem number_any (B b : Nat) (t : ByteArray) (n k : Int) (w : World) (h : Bld B b t w) (hlen : t.size + (Vi.putS n k).size ≤ 140737488355328) (h0 : 0 ≤ n) (h1 : n < 18446744073709551616) :
    Calls Tryz.prog 153 #[.int .u64 n, .int .i64 k, .pointer (some ⟨b, 0, none⟩)] w (Wrote B b t (Vi.putS n k) w) := by
  have HH := Lib.hid h
  have HL := Lib.hid hlen
  clear h hlen
  go_enter Tryz.func153, Tryz.ntmps153
  go_wp2_with fail
  refine (Vi.put_any n k _ h0 h1).mono ?_
  rintro e w1 ⟨rfl, hb1⟩
  have HB1 := Lib.hid hb1
  have Z1 := Lib.hid (show B ≤ w1.heap.size from by have := HH.out.lt; have := hb1.size; omega)
  clear hb1
  go_wp2_with fail
  refine (writeString_any B b t _ w1 (HH.out.below HB1.out) HL.out Z1.out).mono ?_
  rintro e w2 ⟨rfl, hB2, hf2⟩
  go_wp2_with fail
  go_end0
  exact ⟨rfl, hB2, ((Frm.refl B b w).below (by have := HH.out.lt; omega) HB1.out).trans hf2⟩

set_option maxHeartbeats 1000000 in
set_option maxRecDepth 100000 in
theorem count_any (B b : Nat) (t : ByteArray) (n : Nat) (w : World) (h : Bld B b t w) (hlen : t.size + (Vi.vstr n).size ≤ 140737488355328) (h1 : n < 9223372036854775808) :
    Calls Tryz.prog 156 #[.int .i64 (n : Int), .pointer (some ⟨b, 0, none⟩)] w (Wrote B b t (Vi.vstr n) w) := by
  have HH := Lib.hid h
  have HL := Lib.hid hlen
  clear h hlen
  have v1 : IntKind.u64.wrap (n : Int) = n := by rw [IntKind.wrap_u64]; omega
  go_enter Tryz.func156, Tryz.ntmps156
  go_wp2_with fail
  refine (Vi.vput_any (n : Int) _ (by omega) (by omega)).mono ?_
  rintro e w1 ⟨rfl, hb1⟩
  have HB1 := Lib.hid hb1
  have Z1 := Lib.hid (show B ≤ w1.heap.size from by have := HH.out.lt; have := hb1.size; omega)
  clear hb1
  go_wp2_with fail
  refine (writeString_any B b t _ w1 (HH.out.below HB1.out) HL.out Z1.out).mono ?_
  rintro e w2 ⟨rfl, hB2, hf2⟩
  go_wp2_with fail
  go_end0
  exact ⟨rfl, hB2, ((Frm.refl B b w).below (by have := HH.out.lt; omega) HB1.out).trans hf2⟩

theorem ent63 : ∀ args w, (callFunc 156 args).run Tryz.prog w = .ok (.enter 156 args) w := enters_of Tryz.func156 (by kernel_rfl) rfl

set_option maxHeartbeats 1000000 in
set_option maxRecDepth 100000 in
theorem counted_any (B b g : Nat) (t s : ByteArray) (w : World) (h : Bld B b t w) (hlen : t.size + (Vi.vstr s.size).size + s.size ≤ 140737488355328) (hs : s.size < 9223372036854775808) (hg : w.cell? ⟨g, 0, none⟩ = some (.func (.func 156) #[] #[.pointer (some ⟨b, 0, none⟩)])) :
    Calls Tryz.prog 158 #[.string s, .pointer (some ⟨g, 0, none⟩), .pointer (some ⟨b, 0, none⟩)] w (Wrote B b t (Vi.vstr s.size ++ s) w) := by
  have HH := Lib.hid h
  have HL := Lib.hid hlen
  clear h hlen
  go_enter Tryz.func158, Tryz.ntmps158
  go_wp2_with fail
  refine (count_any B b t s.size w HH.out (by have := HL.out; omega) hs).mono ?_
  rintro e w1 ⟨rfl, hB1, hf1⟩
  have HB1 := Lib.hid hB1
  have HF1 := Lib.hid hf1
  clear hB1 hf1
  go_wp2_with fail
  refine (writeString_any B b (t ++ Vi.vstr s.size) s w1 HB1.out (by have := HL.out; rw [ByteArray.size_append]; omega) (by have := HB1.out.lt; omega)).mono ?_
  rintro e w2 ⟨rfl, hB2, hf2⟩
  go_wp2_with fail
  go_end0
  exact ⟨rfl, by rw [← ByteArray.append_assoc]; exact hB2, HF1.out.trans hf2⟩

end Go.Proofs.YtnmfjnfdnjjngaaGreatDoor

namespace Go.Proofs.YtnmfjnfdnjjngaaGreatDoor
open Go.RowKit
set_option maxRecDepth 100000

/-- Texts one behind the other. -/
def wr_catL {α : Type} (f : α → ByteArray) : List α → ByteArray
  | [] => ByteArray.empty
  | x :: r => f x ++ wr_catL f r
theorem wr_catL_append {α : Type} (f : α → ByteArray) (xs ys : List α) : wr_catL f (xs ++ ys) = wr_catL f xs ++ wr_catL f ys := by
  induction xs with
  | nil => simp [wr_catL]
  | cons x r ih => simp only [List.cons_append, wr_catL, ih, ByteArray.append_assoc]
theorem wr_catL_step {α : Type} (f : α → ByteArray) {xs : List α} {k : Nat} {x : α} (h : xs[k]? = some x) : wr_catL f (xs.take (k + 1)) = wr_catL f (xs.take k) ++ f x := by
  have hk := (List.getElem?_eq_some_iff.1 h).1
  have e : xs.take (k + 1) = xs.take k ++ [x] := by
    rw [List.take_add_one, h]
    rfl
  rw [e, wr_catL_append]
  simp [wr_catL]
theorem catL_size {α : Type} (f : α → ByteArray) (xs : List α) (M : Nat) (h : ∀ x ∈ xs, (f x).size ≤ M) : (wr_catL f xs).size ≤ xs.length * M := by
  induction xs with
  | nil => simp [wr_catL]
  | cons x r ih =>
    have h1 := h x (by simp)
    have h2 := ih (fun y hy => h y (by simp [hy]))
    simp only [wr_catL, ByteArray.size_append, List.length_cons, Nat.succ_mul]
    omega

theorem putS_le (n k : Int) : (Vi.putS n k).size ≤ 8 := by
  unfold Vi.putS
  split
  · rename_i h
    rw [strOfNums_size, Vi.digs_length]
    rcases (Vi.szB_iff k).1 h with h | h | h | h <;> subst h <;> decide
  · simp
theorem vstr_le (n : Int) : (Vi.vstr n).size ≤ 9 := by
  rw [Vi.vstr_size]
  unfold Vi.vlen
  repeat' split
  all_goals omega

def inS (x : InD) : ByteArray := x.id ++ Vi.putS x.ix 4 ++ Vi.vstr 0 ++ Vi.putS x.sq 4
def itemS (s : ByteArray) : ByteArray := Vi.vstr s.size ++ s
def outS (x : OutD) : ByteArray := Vi.putS x.val 8 ++ itemS x.scr
def witS (x : InD) : ByteArray := Vi.vstr x.wit.length ++ wr_catL itemS x.wit
def markS (m : Bool) : ByteArray := if m = true then Vi.putS 0 1 ++ Vi.putS 1 1 else ByteArray.empty
def witsS (m : Bool) (xs : List InD) : ByteArray := if m = true then wr_catL witS xs else ByteArray.empty
/-- P6.1: the bytes, with Witnesses or without. -/
def wireS (t : TxD) (m : Bool) : ByteArray := Vi.putS t.ver 4 ++ markS m ++ Vi.vstr t.ins.length ++ wr_catL inS t.ins ++ Vi.vstr t.outs.length ++ wr_catL outS t.outs ++ witsS m t.ins ++ Vi.putS t.lock 4

theorem inS_le {x : InD} (h : x.Ok) : (inS x).size ≤ 89 := by
  have h1 := h.1
  have a := putS_le x.ix 4
  have b := putS_le x.sq 4
  have c := vstr_le 0
  simp only [inS, ByteArray.size_append]
  omega
theorem itemS_le {s : ByteArray} (h : s.size ≤ 128) : (itemS s).size ≤ 137 := by
  have c := vstr_le s.size
  simp only [itemS, ByteArray.size_append]
  omega
theorem outS_le {x : OutD} (h : x.Ok) : (outS x).size ≤ 145 := by
  have h1 := h.2.2
  have a := putS_le x.val 8
  have c := itemS_le (s := x.scr) (by omega)
  simp only [outS, ByteArray.size_append]
  omega
theorem wit_le {x : InD} (h : x.Ok) (k : Nat) : (wr_catL itemS (x.wit.take k)).size ≤ 1096 := by
  have h1 := catL_size itemS (x.wit.take k) 137 (fun s hs => itemS_le (h.2.2.2.2.2.2 s (List.mem_of_mem_take hs)))
  have h2 := h.2.2.2.2.2.1
  rw [List.length_take] at h1
  omega
theorem witS_le {x : InD} (h : x.Ok) : (witS x).size ≤ 1105 := by
  have h1 := wit_le h x.wit.length
  rw [List.take_length] at h1
  have c := vstr_le x.wit.length
  simp only [witS, ByteArray.size_append]
  omega
theorem ins_le {t : TxD} (h : t.Ok) (k : Nat) : (wr_catL inS (t.ins.take k)).size ≤ 45568 := by
  have h1 := catL_size inS (t.ins.take k) 89 (fun x hx => inS_le (h.2.2.1 x (List.mem_of_mem_take hx)))
  have h2 := h.1
  rw [List.length_take] at h1
  omega
theorem outs_le {t : TxD} (h : t.Ok) (k : Nat) : (wr_catL outS (t.outs.take k)).size ≤ 74240 := by
  have h1 := catL_size outS (t.outs.take k) 145 (fun x hx => outS_le (h.2.2.2.1 x (List.mem_of_mem_take hx)))
  have h2 := h.2.1
  rw [List.length_take] at h1
  omega
theorem wits_le {t : TxD} (h : t.Ok) (k : Nat) : (wr_catL witS (t.ins.take k)).size ≤ 565760 := by
  have h1 := catL_size witS (t.ins.take k) 1105 (fun x hx => witS_le (h.2.2.1 x (List.mem_of_mem_take hx)))
  have h2 := h.1
  rw [List.length_take] at h1
  omega
theorem markS_le (m : Bool) : (markS m).size ≤ 16 := by
  have a := putS_le 0 1
  have b := putS_le 1 1
  unfold markS
  split
  · rw [ByteArray.size_append]; omega
  · simp

/-- Where 'write' stands: the transaction in its box, the builder behind it, the closure that counts behind that. -/
structure WrS (w : World) (t : TxD) (vi vo : Value) (s : ByteArray) (wr : World) : Prop where
  bld : Bld (w.heap.size + 1) (w.heap.size + 1) s wr
  box : Boxed wr w.heap.size (.int .u32 t.ver) vi vo (.int .u32 t.lock)
  tx : TxAt wr 0 w.heap.size vi vo t
  cnt : wr.heap[w.heap.size + 1 + 1]? = some (.cells #[.func (.func 156) #[] #[.pointer (some ⟨w.heap.size + 1, 0, none⟩)]] 249 (0, 0))
  bel : Below w.heap.size w wr
theorem WrS.lt {w : World} {t : TxD} {vi vo : Value} {s : ByteArray} {wr : World} (h : WrS w t vi vo s wr) : w.heap.size + 1 + 1 < wr.heap.size := by
  have hc := h.cnt
  rcases Nat.lt_or_ge (w.heap.size + 1 + 1) wr.heap.size with h' | h'
  · exact h'
  · rw [Array.getElem?_eq_none h'] at hc; cases hc
theorem WrS.cell {w : World} {t : TxD} {vi vo : Value} {s : ByteArray} {wr : World} (h : WrS w t vi vo s wr) : wr.cell? ⟨w.heap.size + 1 + 1, 0, none⟩ = some (.func (.func 156) #[] #[.pointer (some ⟨w.heap.size + 1, 0, none⟩)]) := by
  rw [Lib.cell_of_heap h.cnt]
  rfl
theorem WrS.below {w : World} {t : TxD} {vi vo : Value} {s : ByteArray} {wr wx : World} (h : WrS w t vi vo s wr) (hb : Below wr.heap.size wr wx) : WrS w t vi vo s wx := by
  have hl := h.lt
  exact ⟨h.bld.below hb, h.box.below (by omega) hb, h.tx.keep (Kept.of_below hb (by omega)), (hb.block _ hl).trans h.cnt, below_next h.bel h.bel.size hb⟩
theorem WrS.frm {w : World} {t : TxD} {vi vo : Value} {s r : ByteArray} {wr wx : World} (h : WrS w t vi vo s wr) (hB : Bld (w.heap.size + 1) (w.heap.size + 1) r wx) (hf : Frm (w.heap.size + 1) (w.heap.size + 1) wr wx) : WrS w t vi vo r wx := by
  have kc : ∀ o, wx.cell? ⟨w.heap.size, o, none⟩ = wr.cell? ⟨w.heap.size, o, none⟩ := fun o => hf.1.cell (p := ⟨w.heap.size, o, none⟩) (by show w.heap.size < _; omega)
  exact ⟨hB, ⟨(kc 0).trans h.box.1, (kc 1).trans h.box.2.1, (kc 2).trans h.box.2.2.1, (kc 3).trans h.box.2.2.2⟩, h.tx.keep (Kept.of_below hf.1 (by omega)), hf.2 _ _ h.cnt (by intro e; injection e with e; omega) (fun c fz e => by injection e with _ e _; cases e), ⟨hf.1.os.trans h.bel.os, hf.1.tape.trans h.bel.tape, hf.1.output.trans h.bel.output, Nat.le_trans h.bel.size hf.1.size, fun b hb => (hf.1.block b (by omega)).trans (h.bel.block b hb)⟩⟩
theorem WrS.wrote {w : World} {t : TxD} {vi vo : Value} {s r : ByteArray} {wr wx : World} (h : WrS w t vi vo s wr) {e : Ending} (hw : Wrote (w.heap.size + 1) (w.heap.size + 1) s r wr e wx) : WrS w t vi vo (s ++ r) wx := h.frm hw.2.1 hw.2.2

end Go.Proofs.YtnmfjnfdnjjngaaGreatDoor

namespace Go.Proofs.YtnmfjnfdnjjngaaGreatDoor
open Go.RowKit
set_option maxRecDepth 100000

def ren47 : Go.Shelf.Ren := ⟨fun | 169 => 159 | n => n, fun | 70 => 244 | 72 => 246 | 37 => 79 | 127 => 256 | n => n, fun n => n⟩
theorem lay47 : Go.Proofs.Lays.n169 Tryz.prog ren47 :=
  { mixed := by kernel_rfl, f169 := Tryz.func159.trans (congrArg some (by kernel_rfl)),
    t0 := Tryz.underlying0, a0 := Tryz.isAgg0, z0 := Tryz.sizeOf0, v0 := Tryz.zeroValue0, t3 := Tryz.underlying3, a3 := Tryz.isAgg3, z3 := Tryz.sizeOf3, v3 := Tryz.zeroValue3,
    t9 := Tryz.underlying9, a9 := Tryz.isAgg9, z9 := Tryz.sizeOf9, v9 := Tryz.zeroValue9, t37 := Tryz.underlying79, a37 := Tryz.isAgg79, z37 := Tryz.sizeOf79, v37 := Tryz.zeroValue79,
    t70 := Tryz.underlying244, a70 := Tryz.isAgg244, z70 := Tryz.sizeOf244, v70 := Tryz.zeroValue244, t72 := Tryz.underlying246, a72 := Tryz.isAgg246, z72 := Tryz.sizeOf246, v72 := Tryz.zeroValue246,
    t127 := Tryz.underlying256, a127 := Tryz.isAgg256, z127 := Tryz.sizeOf256, v127 := Tryz.zeroValue256 }
theorem lay47x : Builder.Extra Tryz.prog ren47 :=
  { sizeBuilder := by kernel_rfl, liesBuilder := by kernel_rfl, t5 := Tryz.underlying5, a5 := Tryz.isAgg5, z5 := Tryz.sizeOf5, v5 := Tryz.zeroValue5, infoByte := by kernel_rfl, cellsByte := by kernel_rfl, sizeByte := by kernel_rfl, neB5 := by decide }

theorem string_any (B b : Nat) (s : ByteArray) (w : World) (h : Bld B b s w) : Calls Tryz.prog 159 #[.pointer (some ⟨b, 0, none⟩)] w fun e w' => e = .returned (.string s) ∧ Below B w w' := by
  have hl := h.lt
  exact Any.Builder_String_any lay47 lay47x B b s.data.toList w h (by omega)

end Go.Proofs.YtnmfjnfdnjjngaaGreatDoor
