/-
  strings.Repeat of a byte that is zero.
-/
import Derived.Test.YtkdkkndccjddnaaShl
import Derived.Shelf.Bits.Mul64
import Derived.Shelf.Strings.BuilderF
import Derived.Shelf.Strings.Builder2
import Derived.Lib.RepeatB
import Derived.Deep.LoopGhost
import Derived.Deep.DeepCutAuto
import Derived.BigQuiet
namespace Go.Proofs.Ytkdkkndccjddnaa
open Go.RowKit

def renR : Go.Shelf.Ren := ⟨fun | 169 => 47 | 170 => 46 | 212 => 42 | 263 => 67 | 264 => 68 | 241 => 71 | 277 => 90 | n => n, fun | 70 => 91 | 72 => 93 | 37 => 80 | 127 => 119 | 46 => 87 | 51 => 22 | 53 => 60 | 146 => 115 | 148 => 117 | n => n, fun n => n⟩
theorem layR47 : Go.Proofs.Lays.n169 Try.prog renR :=
  { mixed := by kernel_rfl, f169 := Try.func47.trans (congrArg some (by kernel_rfl)),
    t0 := Try.underlying0, a0 := Try.isAgg0, z0 := Try.sizeOf0, v0 := Try.zeroValue0, t3 := Try.underlying3, a3 := Try.isAgg3, z3 := Try.sizeOf3, v3 := Try.zeroValue3,
    t9 := Try.underlying9, a9 := Try.isAgg9, z9 := Try.sizeOf9, v9 := Try.zeroValue9, t37 := Try.underlying80, a37 := Try.isAgg80, z37 := Try.sizeOf80, v37 := Try.zeroValue80,
    t70 := Try.underlying91, a70 := Try.isAgg91, z70 := Try.sizeOf91, v70 := Try.zeroValue91, t72 := Try.underlying93, a72 := Try.isAgg93, z72 := Try.sizeOf93, v72 := Try.zeroValue93,
    t127 := Try.underlying119, a127 := Try.isAgg119, z127 := Try.sizeOf119, v127 := Try.zeroValue119 }
theorem layRx : Builder.Extra Try.prog renR :=
  { sizeBuilder := by kernel_rfl, liesBuilder := by kernel_rfl, t5 := Try.underlying5, a5 := Try.isAgg5, z5 := Try.sizeOf5, v5 := Try.zeroValue5, infoByte := by kernel_rfl, cellsByte := by kernel_rfl, sizeByte := by kernel_rfl, neB5 := by decide }
theorem layR46 : Go.Proofs.Lays.n170 Try.prog renR :=
  { mixed := by kernel_rfl, f170 := Try.func46.trans (congrArg some (by kernel_rfl)),
    t0 := Try.underlying0, a0 := Try.isAgg0, z0 := Try.sizeOf0, v0 := Try.zeroValue0, t3 := Try.underlying3, a3 := Try.isAgg3, z3 := Try.sizeOf3, v3 := Try.zeroValue3,
    t37 := Try.underlying80, a37 := Try.isAgg80, z37 := Try.sizeOf80, v37 := Try.zeroValue80,
    t70 := Try.underlying91, a70 := Try.isAgg91, z70 := Try.sizeOf91, v70 := Try.zeroValue91, t72 := Try.underlying93, a72 := Try.isAgg93, z72 := Try.sizeOf93, v72 := Try.zeroValue93 }
theorem layR71 : Go.Proofs.Lays.n241 Try.prog renR :=
  { mixed := by kernel_rfl, f241 := Try.func71.trans (congrArg some (by kernel_rfl)), f277 := Try.func90.trans (congrArg some (by kernel_rfl)),
    t0 := Try.underlying0, a0 := Try.isAgg0, z0 := Try.sizeOf0, v0 := Try.zeroValue0, t3 := Try.underlying3, a3 := Try.isAgg3, z3 := Try.sizeOf3, v3 := Try.zeroValue3,
    t37 := Try.underlying80, a37 := Try.isAgg80, z37 := Try.sizeOf80, v37 := Try.zeroValue80,
    t70 := Try.underlying91, a70 := Try.isAgg91, z70 := Try.sizeOf91, v70 := Try.zeroValue91, t72 := Try.underlying93, a72 := Try.isAgg93, z72 := Try.sizeOf93, v72 := Try.zeroValue93 }
theorem layR42 : Go.Proofs.Lays.n212 Try.prog renR :=
  { mixed := by kernel_rfl, f212 := Try.func42.trans (congrArg some (by kernel_rfl)), f263 := Try.func67.trans (congrArg some (by kernel_rfl)), f264 := Try.func68.trans (congrArg some (by kernel_rfl)),
    t46 := Try.underlying87, a46 := Try.isAgg87, z46 := Try.sizeOf87, v46 := Try.zeroValue87, t51 := Try.underlying22, a51 := Try.isAgg22, z51 := Try.sizeOf22, v51 := Try.zeroValue22,
    t53 := Try.underlying60, a53 := Try.isAgg60, z53 := Try.sizeOf60, v53 := Try.zeroValue60, t146 := Try.underlying115, a146 := Try.isAgg115, z146 := Try.sizeOf115, v146 := Try.zeroValue115,
    t148 := Try.underlying117, a148 := Try.isAgg117, z148 := Try.sizeOf117, v148 := Try.zeroValue117 }

/-- A builder that may have been read. -/
def BldF (B b : Nat) (l : List UInt8) (w : World) : Prop := Lib.IsBuilderF 93 5 B b (Lib.byteCells l) w

theorem copyCheck_f (B b : Nat) (bs : List Value) (w : World) (h : Lib.IsBuilderF 93 5 B b bs w) :
    Calls Try.prog 70 #[.pointer (some ⟨b, 0, none⟩)] w fun e w' => e = .returned (.tuple #[]) ∧ Lib.BuilderAtF 93 5 B b (.pointer (some ⟨b, 0, none⟩)) bs w' ∧ Below B w w' := by
  rcases h with h | h
  · refine (copyCheck_fresh b w h.cell0 h.shape h.frozen0).mono ?_
    rintro e w' ⟨rfl, rfl⟩
    exact ⟨rfl, h.used _, (Below.refl B w).setCell (p := ⟨b, 0, none⟩) h.1 _⟩
  · refine (copyCheck_used b w h.cell0).mono ?_
    rintro e w' ⟨rfl, rfl⟩
    exact ⟨rfl, h, Below.refl B _⟩

set_option maxHeartbeats 2000000 in
set_option maxRecDepth 100000 in
theorem writeString_f (B b : Nat) (l : List UInt8) (s : ByteArray) (w : World) (h : BldF B b l w) (hlen : l.length + s.size ≤ 140737488355328) (hBw : B ≤ w.heap.size) :
    Calls Try.prog 45 #[.pointer (some ⟨b, 0, none⟩), .string s] w fun e w' => e = .returned (.tuple #[.int .i64 s.size, .nilIface]) ∧ BldF B b (l ++ s.data.toList) w' ∧ Below B w w' := by
  obtain ⟨i0, hi, hz0, hz1, hz2⟩ := info_parts byte5
  have HL := Lib.hid hlen
  go_enter Try.func45, Try.ntmps45
  go_wp2_with (go_at_call 70; refine (copyCheck_f B b _ _ h).mono ?_)
  rintro e w1 ⟨rfl, ⟨hB, v, hbk, hown, hne⟩, hf1⟩
  have c0 : w1.cell? ⟨b, 0, none⟩ = some (.pointer (some ⟨b, 0, none⟩)) := by rw [Lib.cell_of_heap hbk]; rfl
  have c1 : w1.cell? ⟨b, 1, none⟩ = some v := by rw [Lib.cell_of_heap hbk]; rfl
  have z1 := hf1.size
  rw [Lib.byteCells_length] at hown
  go_wp2_with (at_builtin; refine Lib.wpList_append_own_stringF _ rfl _ _ 80 9 rfl B 5 i0 Try.underlying80 Try.underlying9 hi hz0 hz1 hz2 _ _ _ rfl hown s rfl (by unfold maxLen; have := HL.out; omega) HL.out (by omega) ?_)
  intro v' w2 hown' hgrow _
  have hlt : b < w1.heap.size := by
    rcases Nat.lt_or_ge b w1.heap.size with h' | h'
    · exact h'
    · rw [Array.getElem?_eq_none h'] at hbk; cases hbk
  have hb2 : w2.heap[b]? = some (.cells #[.pointer (some ⟨b, 0, none⟩), v] 93 (0, 0)) := (hgrow.block b hlt (fun e => hne e.symm)).trans hbk
  have d0 : w2.cell? ⟨b, 0, none⟩ = some (.pointer (some ⟨b, 0, none⟩)) := by rw [Lib.cell_of_heap hb2]; rfl
  have d1 : w2.cell? ⟨b, 1, none⟩ = some v := by rw [Lib.cell_of_heap hb2]; rfl
  have f1 : w2.frozen? ⟨b, 1, none⟩ = false := Lib.frozen_of_heap hb2 1
  obtain ⟨ao, n', cap, hv'⟩ : ∃ ao n' cap, v' = .slice ao n' cap := by
    rcases hown'.2 with ⟨hv, _⟩ | ⟨g, cap, cur, fz, hv, _⟩
    · exact ⟨_, _, _, hv⟩
    · exact ⟨_, _, _, hv⟩
  subst hv'
  go_wp2
  go_ret2
  have hcat : Lib.byteCells l ++ Lib.strCells s = Lib.byteCells (l ++ s.data.toList) := by rw [Lib.strCells_eq, Lib.byteCells_append]
  have hsz : (Lib.byteCells (l ++ s.data.toList)).length = l.length + s.size := by rw [Lib.byteCells_length, List.length_append, Lib.size_eq]
  refine ⟨rfl, .inr ?_, ?_⟩
  · exact Lib.BuilderAtF.put (T := 93) (e := 5) hB hb2 (bs' := Lib.byteCells (l ++ s.data.toList)) (by rw [hsz, ← hcat]; exact hown') (by decide)
  · exact (hf1.grown hgrow (by omega) (fun k hk => (hown.lt k hk).1)).setCell (p := ⟨b, 1, none⟩) hB _

theorem len_f (B b : Nat) (l : List UInt8) (w : World) (h : BldF B b l w) : Calls Try.prog 46 #[.pointer (some ⟨b, 0, none⟩)] w fun e w' => e = .returned (.int .i64 l.length) ∧ w' = w := by
  have q := Any.Builder_Len_f layR46 B b _ w h
  rw [Lib.byteCells_length] at q
  exact q
theorem string_f (B b : Nat) (l : List UInt8) (w : World) (h : BldF B b l w) (hBw : B ≤ w.heap.size) : Calls Try.prog 47 #[.pointer (some ⟨b, 0, none⟩)] w fun e w' => e = .returned (.string ⟨l.toArray⟩) ∧ BldF B b l w' ∧ Below B w w' :=
  Any.Builder_String_any_f layR47 layRx B b l w h hBw
theorem grow_fresh (B b n : Nat) (w : World) (hB : B ≤ b) (hbk : w.heap[b]? = some (.cells #[.pointer (some ⟨b, 0, none⟩), .slice none 0 0] 93 (0, 0))) (hBw : B ≤ w.heap.size) (hn : n ≤ 281474976710656) :
    Calls Try.prog 71 #[.pointer (some ⟨b, 0, none⟩), .int .i64 n] w fun e w' => e = .returned (.tuple #[]) ∧ (Lib.BuilderAt 93 5 B b (.pointer (some ⟨b, 0, none⟩)) [] w' ∧ Below B w w') :=
  Any.Builder_grow_fresh layR71 layRx B b n w hB hbk hBw hn
theorem mul_one (c : Nat) (hc : c ≤ 1000) (w : World) : Calls Try.prog 42 #[.int .u64 1, .int .u64 c] w fun e w' => e = .returned (.tuple #[.int .u64 0, .int .u64 c]) ∧ w' = w := by
  have q := Any.bits_Mul layR42 1 c (by omega) (by omega) w
  rw [Nat.one_mul, Nat.div_eq_of_lt (by omega), Nat.mod_eq_of_lt (by omega)] at q
  exact q

set_option maxHeartbeats 2000000 in
set_option maxRecDepth 100000 in
theorem growB_fresh (B b n : Nat) (w : World) (hB : B ≤ b) (hbk : w.heap[b]? = some (.cells #[.pointer none, .slice none 0 0] 93 (0, 0))) (hBw : B ≤ w.heap.size) (hn : n ≤ 1000) (hn0 : 0 < n) :
    Calls Try.prog 44 #[.pointer (some ⟨b, 0, none⟩), .int .i64 n] w fun e w' => e = .returned (.tuple #[]) ∧ BldF B b [] w' ∧ Below B w w' := by
  have hbk1 : (w.setCell ⟨b, 0, none⟩ (.pointer (some ⟨b, 0, none⟩))).heap[b]? = some (.cells #[.pointer (some ⟨b, 0, none⟩), .slice none 0 0] 93 (0, 0)) := by
    simp [World.setCell, Array.getElem?_modify, hbk]
  have c1 : (w.setCell ⟨b, 0, none⟩ (.pointer (some ⟨b, 0, none⟩))).cell? ⟨b, 1, none⟩ = some (.slice none 0 0) := by rw [Lib.cell_of_heap hbk1]; rfl
  have hb1 : Below B w (w.setCell ⟨b, 0, none⟩ (.pointer (some ⟨b, 0, none⟩))) := (Below.refl B w).setCell (p := ⟨b, 0, none⟩) hB _
  go_enter Try.func44, Try.ntmps44
  have hU : Lib.BuilderAt 93 5 B b (.pointer (some ⟨b, 0, none⟩)) [] (w.setCell ⟨b, 0, none⟩ (.pointer (some ⟨b, 0, none⟩))) := ⟨hB, .slice none 0 0, hbk1, World.ownsRow_nil _ _ _ _, by simp [Value.ownBlock]⟩
  have c1' : (w.setCell ⟨b, 0, none⟩ (.pointer (some ⟨b, 0, none⟩))).drew.cell? ⟨b, 1, none⟩ = some (.slice none 0 0) := c1
  go_wp2_with (go_at_call 70; refine (copyCheck_fresh b w (by rw [Lib.cell_of_heap hbk]; rfl) (by simp [World.shape?, hbk]) (Lib.frozen_of_heap hbk 0)).mono ?_; rintro e w' ⟨rfl, rfl⟩)
  have l1 : decide ((0 : Int) < (n : Int)) = true := by simp; omega
  go_quiet (fail)
  go_wp2_with fail
  refine (grow_fresh B b n ((w.setCell ⟨b, 0, none⟩ (.pointer (some ⟨b, 0, none⟩))).drewN nq) hB hbk1 (Nat.le_trans hBw hb1.size) (by omega)).mono ?_
  rintro e w' ⟨rfl, h1, h2⟩
  go_wp2_with fail
  go_end0
  exact ⟨rfl, .inr (Lib.BuilderAtF.of h1), hb1.os ▸ h2.os, hb1.tape ▸ h2.tape, hb1.output ▸ h2.output, Nat.le_trans hb1.size h2.size, fun c hc => (h2.block c hc).trans (hb1.block c hc)⟩

theorem run_min3 (w : World) (ts : Array TypeId) (t : TypeId) (x y z : Int) :
    (Builtin.min_ ts t #[.int .i64 x, .int .i64 y, .int .i64 z]).run Try.prog w = .ok (.int .i64 (if z < (if y < x then y else x) then z else (if y < x then y else x))) w := by
  simp [Builtin.min_, Builtin.min2]
/-- So many bytes that are zero. -/
def zerosL (n : Nat) : List UInt8 := List.replicate n 0

set_option maxHeartbeats 2000000 in
set_option maxRecDepth 100000 in
theorem repeat_zero (c : Nat) (hc2 : 2 ≤ c) (hc : c ≤ 64) (w : World) :
    Calls Try.prog 28 #[.string ⟨#[0]⟩, .int .i64 c] w fun e w' => e = .returned (.string ⟨(zerosL c).toArray⟩) ∧ Below w.heap.size w w' := by
  have e0 : ((c : Int) == 0) = false := by simp; omega
  have e1 : ((c : Int) == 1) = false := by simp; omega
  have v0 : IntKind.u64.wrap (c : Int) = c := by rw [IntKind.wrap_u64]; omega
  have v1 : IntKind.i64.wrap (c : Int) = c := by rw [IntKind.wrap_i64]; omega
  have n0 : ¬ (c : Int) < 0 := by omega
  have l1 : ¬ (9223372036854775807 : Int) < (c : Int) := by omega
  have l2 : ¬ (8192 : Int) < (c : Int) := by omega
  have hi : ∀ w, (Instr.index 9 (.string ⟨#[0]⟩) (.int .i64 0)).run Try.prog w = .ok (.int .u8 0) w := fun w => rfl
  go_enter Try.func28, Try.ntmps28
  go_upto_region 8 with (fail)
  go_wp2_with (go_at_call 42; refine (mul_one c (by omega) _).mono ?_; rintro e w' ⟨rfl, hw⟩; rw [hw])
  have b0 : Below w.heap.size w (w.alloc (.cells #[.pointer none, .slice none 0 0] 93)) := (Below.refl _ w).alloc (Nat.le_refl _) _
  refine (growB_fresh w.heap.size w.heap.size c _ (Nat.le_refl _) (heap_alloc_new w _) b0.size (by omega) (by omega)).mono ?_
  rintro e w1 ⟨rfl, h1, b1⟩
  go_wp2_with fail
  refine (writeString_f w.heap.size w.heap.size [] ⟨#[0]⟩ w1 h1 (by simp [ByteArray.size]) (Nat.le_trans b0.size b1.size)).mono ?_
  rintro e w2 ⟨rfl, h2, b2⟩
  have h2' : BldF w.heap.size w.heap.size (zerosL 1) w2 := h2
  have b02 : Below w.heap.size w w2 := b0.trans (b1.trans b2)
  clear h2 b0 b1 b2 h1
  go_wp2_with fail
  go_loopg [] (c - 1) (fun g wx => ∃ q : Nat, 1 ≤ q ∧ q + g = c ∧ BldF w.heap.size w.heap.size (zerosL q) wx ∧ Below w.heap.size w wx)
  case atStart => exact ⟨1, Nat.le_refl _, by omega, h2', b02⟩
  case round =>
    obtain ⟨q, hq1, hqg, hB, hbx⟩ := hrel
    have hlen : (zerosL q).length = q := by simp [zerosL]
    have cLen := len_f w.heap.size w.heap.size _ wr hB
    rw [hlen] at cLen
    obtain ⟨S, hS⟩ : ∃ S : ByteArray, (⟨(zerosL q).toArray⟩ : ByteArray) = S := ⟨_, rfl⟩
    have cStr := string_f w.heap.size w.heap.size (zerosL q) wr hB hbx.size
    rw [hS] at cStr
    have CL := Lib.hid cLen
    have CS := Lib.hid cStr
    clear cLen cStr
    by_cases hqc : q = c
    · have hQn : ¬ ((q : Int) < (c : Int)) := by omega
      have HS := Lib.hid (show S = ⟨(zerosL c).toArray⟩ from by rw [← hS, hqc])
      clear hS
      go_wp2_with fail
      refine CL.out.mono ?_
      rintro e w' ⟨rfl, hw⟩
      rw [hw]
      go_wp2_with fail
      refine CS.out.mono ?_
      rintro e w3 ⟨rfl, h3, b3⟩
      go_wp2_with fail
      go_ret
      exact ⟨by rw [HS.out] <;> rfl, hbx.trans b3⟩
    · have hQn : ((q : Int) < (c : Int)) := by omega
      obtain ⟨k, hk⟩ : ∃ k : Nat, k = min (c - q) q := ⟨_, rfl⟩
      have hmin3 : ∀ (ts : Array TypeId) (t : TypeId) (W : World), (Builtin.min_ ts t #[.int .i64 ((c : Int) - (q : Int)), .int .i64 (q : Int), .int .i64 (c : Int)]).run Try.prog W = .ok (.int .i64 (k : Int)) W := fun ts t W => by
        rw [run_min3]
        congr 2
        omega
      have vs : IntKind.i64.wrap ((c : Int) - (q : Int)) = (c : Int) - q := by rw [IntWalk.i64_in _ (by omega)]
      have hkq : k ≤ q := by omega
      have hSz : S.size = q := by rw [← hS]; exact hlen
      have HE := Lib.hid (show zerosL q ++ (S.extract 0 k).data.toList = zerosL (q + k) from by
        rw [Lib.extract_data, ← hS]
        show zerosL q ++ ((zerosL q).toArray.toList.drop 0).take (k - 0) = _
        simp [zerosL, List.take_replicate, Nat.min_eq_left hkq])
      have HX := Lib.hid (show (S.extract 0 k).size ≤ 64 from by rw [ByteArray.size_extract]; omega)
      have hk1 : 1 ≤ k ∧ q + k ≤ c := by omega
      clear hS hk
      go_wp2_with fail
      refine CL.out.mono ?_
      rintro e w' ⟨rfl, hw⟩
      rw [hw]
      go_wp2_with fail
      refine CL.out.mono ?_
      rintro e w'' ⟨rfl, hw2⟩
      rw [hw2]
      go_wp2_with fail
      refine CL.out.mono ?_
      rintro e w3 ⟨rfl, hw3⟩
      rw [hw3]
      go_wp2_with fail
      refine CS.out.mono ?_
      rintro e w4 ⟨rfl, h3, b3⟩
      go_wp2_with fail
      refine (writeString_f w.heap.size w.heap.size _ (S.extract 0 k) w4 h3 (by have := HX.out; omega) (Nat.le_trans hbx.size b3.size)).mono ?_
      rintro e w5 ⟨rfl, h5, b5⟩
      go_wp2_with fail
      go_roundg (c - (q + k))
      case measure => omega
      case rel => exact ⟨q + k, by omega, by omega, by rw [← HE.out]; exact h5, hbx.trans (b3.trans b5)⟩


end Go.Proofs.Ytkdkkndccjddnaa
